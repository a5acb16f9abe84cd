import PyProof.Rows.All
import Wide.All
import OpenK.AllK
import Wide.FinOn
import Lean
import PyProof.EqAt
import PyProof.EqKinds
import PyProof.TupleCall
import KE.KSortTup
import PyProof.ZipIter
import KE.KMinKey
import KE.KRevSl
import PyProof.Rows.EnumRows
import PyProof.EnumStmt
import PyProof.ListRange
import KE.KIntText
import PySem.Challenge.RW_oneslate_k46_whole_house_of_parts
set_option Elab.async false
set_option linter.all false
set_option maxRecDepth 100000
set_option bootstrap.genMatcherCode false
open Array renaming length_toList->al0,getElem?_toList->aok,toArray_toList->aoq
open Bool renaming false_ne_true->alg,and_eq_true->alC,eq_iff_iff->amB,false_eq_true->anU,or_eq_true->apk,and_true->apA
open False renaming elim->alV
open ForInStep renaming yield->aop
open Int renaming zero_add->aou,fdiv_eq_ediv_of_nonneg->aoN,toNat_natCast->aoV
open List renaming getElem?_eq_some_iff->ak8,length_map->ala,length_append->alb,getElem?_set_ne->ale,mem_cons_of_mem->alh,size_toArray->ali,mem_cons->alj,getElem?_eq_getElem->aln,mem_cons_self->alo,replicate->alp,getElem?_map->alr,lookup_cons->als,not_mem_nil->alu,map_cons->alv,getElem?_append_right->alw,getElem?_append_left->alz,getElem?_set_self->alA,mem_singleton->alB,range->alD,mem_of_getElem?->alF,mem_map->alK,mem_append_right->alN,length_cons->alP,length_set->alS,forall_mem_cons->alT,all_eq_true->alW,mem_range->alZ,getD_eq_getElem?_getD->al1,mem_append->al6,nodup_cons->al7,length_replicate->al8,length_take->ama,length_drop->amb,length_singleton->amj,mem_filter->amk,append_nil->aml,length_nil->amm,take_of_length_le->amr,length_range->amt,getElem?_range->amv,map_append->amw,mem_iff_getElem?->amz,getElem?_replicate->amA,replicate_succ->amC,lookup->amE,getElem_mem->amH,pairwise_cons->amL,length_filter_le->amM,mem_of_find?_eq_some->amN,length->amO,map_map->amZ,flatten_cons->am5,append_assoc->am6,mem_or_eq_of_mem_set->am8,mem_map_of_mem->ani,length_eq_zero_iff->anl,find?_cons_of_pos->ant,find?_cons_of_neg->anu,pairwise_map->anw,getElem?_toArray->anB,getElem?_eq_none->anC,all_cons->anE,nodup_iff_pairwise_ne->anF,map_congr_left->anJ,of_mem_zip->anK,find?_some->anM,prefix_append->anT,zip_cons_cons->anV,nodup_nil->anZ,nodup_append->an1,any_eq_true->aoe,prefix_refl->aof,filter_cons->aog,all_append->aov,eq_nil_of_length_eq_zero->aow,filterMap_cons->aox,filter_sublist->aoy,drop_zero->aoB,countP_eq_length_filter->aoD,any_cons->aoQ,take_add_one->aoW,foldl_cons->api,drop_eq_nil_of_le->apq,take_nil->apz
open List.Nodup renaming length_le_of_subset->amy
open List.Pairwise renaming imp->apJ
open Nat renaming le_refl->alf,le_of_ble_eq_true->alH,lt_of_lt_of_le->alO,ne_of_lt->alQ,le_trans->alR,zero_le->alX,lt_irrefl->al5,not_lt_zero->amx,le_of_lt->amP,sub_self->ang,le_add_right->anh,min_eq_left->anN,le_of_eq->anQ,zero_add->anS,lt_succ_self->aoc,pow_le_pow_right->aot,le_succ->aoE
open Ne renaming symm->anG
open Option renaming map_eq_some_iff->an4,isSome_iff_exists->ao6,bind_eq_some_iff->ape
open Option.some renaming inj->alE
open Or renaming inr->al3,inl->amK
open PyProof.Rows renaming envOfC->amc,slot_tuple_getitem->amd,callWith_type1->amn,seqObj->amq,KeyOrd->amD,IntsAre->anc,get?_update_seq->anp,envOfC->anA,AllBare->aoi,listUpdate_at->aoR,KeyKind->apw,strKind->apx
open PySem renaming wpAny_bind->ak7,Shared->alc,sizeLine->ald,wpAny_pure->alm,Program->aly,Around->alI,starEach->alJ,sizeLine_eq->alM,mainGlobals->alU,compareOp->alY,bootBuiltins->al2,assignEach->al4,wpAny_mono->al9,FuncData->ame,wpAny_truthy_bool->ami,wpAny_Call_Name_kw->amo,mem_of_lookup->amu,wpAny_holding->amF,attributeBase->amG,swapsWith->amI,binaryOp->amQ,behindInMarks->amV,backTo->amY,holding->am1,wpAny_passesOwn->am2,wpAny_pyIter_list->am4,keywordEach->am9,wpAny_field->ana,sliceBounds->anb,wpAny_seqItems->ane,bindArgs->anf,wpAny_callSpecial?_slot->ank,assign->anm,wpAny_pyIter_tuple->ano,wpAny_setField_rec->anq,NameKind->ans,codeAny_mono->anz,rawInt->anD,codeAny->anH,wpAny_letGo->anI,backToKw->anP,Arguments->anR,Keyword->anW,closureFor->anY,wpAny_newObj_type->an0,IsPart->an2,richCompare_meets_room->an6,wpAny_standAt->an8,strKind->aob,wpAny_call_entry->aod,standAt->aoh,getItem->aoj,DictEntry->aol,wpAny_execs_nil->aom,letOwnedTupleGo->aon,wpAny_updateSeq->aor,wpAny_tryCatch->aoC,PassesOwn->aoF,codeAmong->aoH,IsPair->aoJ,swapsWithSole->aoL,swappedStores->aoM,plainId_quiet->aoT,builtinsNs->aoX,call_meets->aoZ,defaultsOf->ao0,callerA->ao3,getMethod->apg,TriplesOk->apj,subscripted->apm
open PySem.AutoSeq1 renaming sub_tuple_tuple->ao8,wpAny_loadPart'->apa
open PySem.BindsTo renaming of_defaults->apB
open PySem.Builtin renaming bitNot->ams,bitAnd->amJ,bitOr->an9
open PySem.Builtin.Int renaming intBits->amg
open PySem.Builtin.List renaming listTooLong->amR
open PySem.Builtin.Slice renaming slicePlaces->am7,sliceAdjust->anL,sliceApplied->aoO
open PySem.Builtin.Str renaming strSliceIndices->am0,occurrences->anj
open PySem.Builtin.Tuple renaming tupleItemsOf->aoP
open PySem.Calls renaming callWith_builtin->an3,spliced_cons->aoG,Name_function_global->aoK,spliced_nil->aoU
open PySem.F renaming slot_list_append->amS,type_list_append->amT,plain_max_loop->anv,slot_tuple_iterator_next->aoS,slot_list_extend->apc,type_list_extend->apd,plainAttrs_list->apf,entry_max_loop->apo,slot_dict_get->apr
open PySem.Heap renaming get?_push_of_some->ak9,get?_push_size->alk,lt_size->alq,size_push->anx,SameBut->ao4,IsTuple->ao9,get?_update_other->apn
open PySem.Heap.IsTuple renaming push->apI
open PySem.Heap.SameBut renaming update->amh
open PySem.NameKind renaming free->aoa,cell->apy
open PySem.Obj renaming mapSeq->alL
open PySem.PassesOwn renaming never->aos
open PySem.PyData renaming strOk->alx,eqv->apu
open PySem.SeqAt renaming shaped->apH
open PySem.SeqAt.EqAt renaming int_str->apE,str_int->apF,int_int->apG
open PySem.Shared renaming heap->an7
open PySem.Str renaming ofString->alG
open PySem.Txt renaming find->apb
open PySem.Value renaming isStrOf->amf,ref->amU,bool->aps,type->apt,int->apC,str->apD
open PySem.W renaming fnOf->amW,keepIn->amX,findIn->am3,emptyDict->anr,instObj->anO,nsIn->an5,codeIn->aoz,mg_of->aoA,kia_one->aoI,plainGet->aoY,callWith_K->ao5,cellsFrom_some->ao7,methodCall_KW->aph,hasDictIn->apl
open PySem.Walks renaming list->apv
open Sum renaming inl->ao1,inr->ao2
open True renaming intro->aoo
abbrev v0:List PySem.Str:=["self"]
abbrev o0:List PySem.Str:=["thing"]
abbrev T0:List PySem.Str:=["slate","asker","deed"]
abbrev W1:List PySem.Str:=["self","asker"]
abbrev M2:List PySem.Str:=["slate"]
abbrev P3:List PySem.Str:=["self","letter"]
abbrev v4:List PySem.Str:=["slate","fence","tenant"]
abbrev v6:List PySem.Str:=["book","letter"]
abbrev u8:List PySem.Str:=["asker","keeper","epoch","stamp","load"]
abbrev aN:=PySem.W.Frag
abbrev bp:=PySem.Str->Option PySem.Value
abbrev dp:=PySem.Value->PySem.Shared->Prop
abbrev cZ:=List (PySem.Addr×PySem.Obj)
noncomputable section
namespace aA
open PySem PySem.Spec PyProof.Rows
abbrev Key:=Sum Int Str
def NZ:Key->Value->Bool
 |.inl k,v=>Value.isInt k v|.inr x,v=>amf x v
def Z6(w:World):Key->Int
 |.inl k=>hashInt k|.inr x=>hashStr w x
def oS:∀{k:Key}{v:Value},NZ k v=true->(∃i t,k=ao1 i/\v=apC i t)\/(∃x t,k=ao2 x/\v=apD x t)
 |.inl i,v,h=>by
  obtain⟨t,e⟩:=Value.isInt_shape (k:=i) (v:=v) h;exact .inl ⟨i,t,rfl,e⟩
 |.inr x,v,h=>by
  obtain⟨t,e⟩:=Value.isStrOf_shape (x:=x) (v:=v) h;exact .inr ⟨x,t,rfl,e⟩
def Z8(a b:Int):decide ((ao1 a:Key)=ao1 b)=(a==b):=by
 by_cases e:a=b
 .subst e;simp
 .have h:¬(ao1 a:Key)=ao1 b:=λq=>e (Sum.inl.inj q)
  rw[decide_eq_false h];exact(beq_eq_false_iff_ne.mpr e).symm
def Z'(a b:Str):decide ((ao2 a:Key)=ao2 b)=decide (a=b):=by
 by_cases e:a=b
 .simp
 .have h:¬(ao2 a:Key)=ao2 b:=λq=>e (Sum.inr.inj q)
  rw[decide_eq_false h,decide_eq_false e]
def Z9(a:Int)(b:Str):decide ((ao1 a:Key)=ao2 b)=false:=decide_eq_false (λq=>nomatch q)
def Z_(a:Str)(b:Int):decide ((ao2 a:Key)=ao1 b)=false:=decide_eq_false (λq=>nomatch q)
def OH(prog:aly)(w:World):KeyKind prog w Key where
 is:=NZ
 hash:=Z6 w
 inj:=λv a b f d=>by
  rcases oS f with⟨i,t,rfl,rfl⟩|⟨x,t,rfl,rfl⟩
  .rcases oS d with⟨j,u,rfl,e⟩|⟨y,u,rfl,e⟩
   .injection e with aq _;rw[aq]
   .exact nomatch e
  .rcases oS d with⟨j,u,rfl,e⟩|⟨y,u,rfl,e⟩
   .exact nomatch e
   .injection e with aq _;rw[aq]
 byValue:=λk v h=>by
  rcases oS h with⟨i,t,rfl,rfl⟩|⟨x,t,rfl,rfl⟩<;>rfl
 pyHash:=λc h=>by
  rcases oS c with⟨i,t,rfl,rfl⟩|⟨x,t,rfl,rfl⟩
  .exact wpAny_pyHash_int h
  .exact wpAny_pyHash_str h
 eqBool:=λg c h=>by
  rcases oS g with⟨i,t,rfl,rfl⟩|⟨x,t,rfl,rfl⟩
  .rcases oS c with⟨j,u,rfl,rfl⟩|⟨y,u,rfl,rfl⟩
   .rw[Z8]at h;exact wpAny_eqBool_int h
   .rw[Z9]at h;exact apE i t y u _ _ _ _ h
  .rcases oS c with⟨j,u,rfl,rfl⟩|⟨y,u,rfl,rfl⟩
   .rw[Z_]at h;exact apF x t j u _ _ _ _ h
   .rw[Z']at h;exact wpAny_eqBool_str h
 «strs»:=λk x t v h=>by
  rcases oS h with⟨i,u,rfl,e⟩|⟨y,u,rfl,e⟩
  .exact nomatch e
  .injection e with aq _
   subst aq;cases v<;>rfl
inductive V where
 |aH|av (b:Bool)|int (i:Int)|str (x:Str)|yy (b:Array UInt8)|yW (b:UInt64)|ref (a:Addr)|ty (n:String)
 deriving DecidableEq
def RelV:V->Value->Prop
 |.aH,u=>u=Value.none|.av b,u=>u=aps b|.int i,u=>∃t,u=apC i t|.str x,u=>∃t,u=apD x t|.yy b,u=>∃t,u=Value.bytes b t|.yW b,u=>∃t,u=Value.float b t|.ref a,u=>u=amU a|.ty n,u=>u=apt n
abbrev Vals:List V->List Value->Prop:=Paired RelV
def Vals.length{xs:List V}{us:List Value}(r:Vals xs us):xs.length=us.length:=Paired.length r
theorem Vals.get:∀{xs:List V}{us:List Value}{i:Nat}{x:V},Vals xs us->xs[i]? = some x->∃u,us[i]? = some u/\RelV x u
 |_,_,_,_,.nil,e=>by simp at e| _,_,0,_,.cons r _,e=>by simp at e;subst e;exact⟨_,rfl,r⟩|_,_,i+1,x,.cons _ t,e=>by
  obtain⟨u,a,b⟩:=Vals.get t e;exact⟨u,by simpa using a,b⟩
theorem Vals.set(r:RelV x u):∀{xs:List V}{us:List Value}(i:Nat),Vals xs us->Vals (xs.set i x) (us.set i u)
 |_,_,_,.nil=>.nil|_,_,0,.cons _ t=>.cons r t|_,_,i+1,.cons q t=>.cons q (Vals.set r i t)
theorem Vals.append:∀{xs b:List V}{us a:List Value},Vals xs us->Vals b a->Vals (xs++b) (us++a)
 |_,_,_,_,.nil,s=>s|_,_,_,_,.cons r t,s=>.cons r (Vals.append t s)
theorem Vals.take:∀{xs:List V}{us:List Value}(n:Nat),Vals xs us->Vals (xs.take n) (us.take n)
 |_,_,0,_=>.nil|_,_,_+1,.nil=>.nil|_,_,n+1,.cons r t=>.cons r (Vals.take n t)
theorem Vals.drop:∀{xs:List V}{us:List Value}(n:Nat),Vals xs us->Vals (xs.drop n) (us.drop n)
 |_,_,0,r=>r|_,_,_+1,.nil=>.nil|_,_,n+1,.cons _ t=>Vals.drop n t
def mY:Option V->Option Value->Prop
 |some v,some u=>RelV v u|none,none=>True|_,_=>False
def RL{κ:Type}:List (κ×V)->List (κ×Value)->Prop:=Paired λ(p:κ×V) (q:κ×Value)=>p.1=q.1/\RelV p.2 q.2
def dy:Key->V
 |.inl i=>.int i|.inr x=>.str x
inductive gP where
 |l (xs:List V)
 |t (xs:List V)
 |td (du:List (Key×V))|fY (du:List (List Key×V))
 |set (S:Int->Bool) (n:Nat)
 |ins (C cj:Addr) (aX:List (Str×V))
 |own (x:Addr)
 |G2 (aX:List (Str×V))
 |met (f x:Addr)
 |F_ (lo hi:Int)
 |cN (o:Obj) (u:gP)
 |gc (ps:Array Value)
 |ext (q0:Heap->Prop)
abbrev au:=Addr->Option gP
def upd(H:au)(a:Addr)(o:gP):au:=λb=>if b=a then some o else H b
def dZ:upd H a o a=some o:=by unfold upd;rw[if_pos rfl]
def c3{H:au}(h:b≠a):upd H a o b=H b:=by unfold upd;rw[if_neg h]
def agN:upd (upd H a o) a u=upd H a u:=by
 funext b;unfold upd;split<;>rfl
def OW{H:au}(h:H a=some o)(h':H b=some u)(d:o≠u):a≠b:=by
 intro e;subst e;rw[h]at h';exact d (alE h')
def kF{H:au}(h:H a=some o)(h':H b=none):a≠b:=by
 intro e;subst e;rw[h]at h';cases h'
section
variable(P:aly)(w:World)
def iI(H:au)(h:Heap)(a:Addr):gP->Prop
 |.l xs=>xs.length<=ald/\∃(b:List Value)(n:Nat),Vals xs b/\h.get? a=some { cls:=.type "list",data:=.seq b.toArray n }|.t xs=>xs.length<=ald/\∃b:List Value,Vals xs b/\IsTup h a b.toArray|.td d=>d.length<=ald/\(a==sysModules)=false/\∃vs,RL d vs/\h.DictOf (OH P w) a vs|.fY d=>d.length<=ald/\(a==sysModules)=false/\∃xs:List (List Key×Addr×Value),
   Paired (λ(p:List Key×V) (q:List Key×Addr×Value)=>p.1=q.1/\H q.2.1=some (.t (p.1.map dy))/\RelV p.2 q.2.2) d xs/\
   ∃o k cv,h.get? a=some o/\o.ExactDict/\o.data=.dict k cv/\k.toList=xs.map (entryOfKey (tupleKind (OH P w)))/\(xs.map (·.1)).Nodup
 |.set S n=>h.SetOf (intKind P w) a S n|.ins C e aX=>H e=some (.own a)/\aX.length<=1000/\e≠a/\h.get? a=some (anO C e)/\
   ∃c,h.Ns1 e c/\(∀f,mY (aX.lookup f) (c f))/\Within c (aX.map (·.1))
 |.own _=>∃o,h.get? a=some o|.G2 aX=>∃c,h.Ns1 a c/\∀f,mY (aX.lookup f) (c f)|.F_ lo hi=>∃t u v,h.get? a=some { cls:=.type "range",data:=.fields #[.int lo t,.int hi u,.int 1 v] }|.cN o u=>h.get? a=some o/\iI H h a u|.gc ps=>h.get? a=some { cls:=.none,data:=.fields ps }|.met f x=>h.get? a=some (W.methodObj (.ref f) (.ref x))|.ext g=>g h/\(∃o,h.get? a=some o)/\∀i j:Heap,g i->(∀o,i.get? a=some o->j.get? a=some o)->g j
def gg(H:au)(h:Heap):Prop:=∀a o,H a=some o->iI P w H h a o
end
section
variable{P:aly}{w:World}{H H':au}{h h':Heap}{a:Addr}{o:gP}
def iI.lt(x:iI P w H h a o):a<h.objs.size:=by
 cases o with
 |l xs=>obtain⟨_,_,_,_,e⟩:=x;exact alq e
 |t xs=>obtain⟨_,_,_,p⟩:=x;exact p.lt
 |td b=>obtain⟨_,_,_,_,o,_,_,e,_⟩:=x;exact alq e
 |fY b=>obtain⟨_,_,_,_,o,_,_,e,_⟩:=x;exact alq e
 |set S n=>obtain⟨o,_,_,_,e,_⟩:=x;exact alq e
 |ins C c aX=>obtain⟨_,_,_,e,_⟩:=x;exact alq e
 |own y=>obtain⟨_,e⟩:=x;exact alq e
 |G2 aX=>obtain⟨_,⟨_,_,_,e,_⟩,_⟩:=x;exact alq e
 |F_ lo hi=>obtain⟨_,_,_,e⟩:=x;exact alq e
 |cN ba u=>obtain⟨e,_⟩:=x;exact alq e
 |gc ps=>exact alq (show h.get? a=some _ from x)|met f y=>exact alq (show h.get? a=some _ from x)|ext d=>obtain⟨_,⟨_,e⟩,_⟩:=x;exact alq e
theorem Paired.OC{α d:Type}{F G:α->d->Prop}:∀{c:List α}{l₂:List d},Paired F c l₂->(∀a b,F a b->G a b)->Paired G c l₂
 |_,_,.nil,_=>.nil|_,_,.cons r t,f=>.cons (f _ _ r) (Paired.OC t f)
def iI.so(x:iI P w H h a o)(k:∀b u,(b=a\/H b=some (.own a))->h.get? b=some u->h'.get? b=some u)
  (s:∀b,H b=some (.own a)->H' b=some (.own a)) (B:∀b xs,H b=some (.t xs)->H' b=some (.t xs)):iI P w H' h' a o:=by
 induction o with
 |l xs=>obtain⟨z,i,n,r,e⟩:=x;exact⟨z,i,n,r,k _ _ (.inl rfl) e⟩
 |t xs=>obtain⟨z,i,r,ba,e,c⟩:=x;exact⟨z,i,r,ba,k _ _ (.inl rfl) e,c⟩
 |td D=>obtain⟨z,y,vs,r,ba,g,cv,e,c⟩:=x;exact⟨z,y,vs,r,ba,g,cv,k _ _ (.inl rfl) e,c⟩
 |fY D=>
  obtain⟨z,y,xs,r,ba,g,cv,e,c⟩:=x;exact⟨z,y,xs,Paired.OC r λp q z=>⟨z.1,B _ _ z.2.1,z.2.2⟩,ba,g,cv,k _ _ (.inl rfl) e,c⟩
 |set S n=>obtain⟨ba,g,cv,t,e,c⟩:=x;exact⟨ba,g,cv,t,k _ _ (.inl rfl) e,c⟩
 |ins C E aX=>
  obtain⟨d,z,ne,e,m,⟨j,g,cv,aE,c⟩,r⟩:=x;exact⟨s _ d,z,ne,k _ _ (.inl rfl) e,m,⟨j,g,cv,k _ _ (.inr d) aE,c⟩,r⟩
 |own y=>obtain⟨ba,e⟩:=x;exact⟨ba,k _ _ (.inl rfl) e⟩
 |G2 aX=>obtain⟨m,⟨j,g,cv,e,c⟩,r⟩:=x;exact⟨m,⟨j,g,cv,k _ _ (.inl rfl) e,c⟩,r⟩
 |F_ lo hi=>obtain⟨t,u,v,e⟩:=x;exact⟨t,u,v,k _ _ (.inl rfl) e⟩
 |cN ba u A=>obtain⟨e,q⟩:=x;exact⟨k _ _ (.inl rfl) e,A q⟩
 |gc ps=>
  have e:=x;exact k a _ (.inl rfl) e
 |met f y=>
  have e:=x;exact k a _ (.inl rfl) e
 |ext F=>obtain⟨p,⟨o,e⟩,st⟩:=x;exact⟨st _ _ p λo q=>k _ _ (.inl rfl) q,⟨o,k _ _ (.inl rfl) e⟩,st⟩
def gg.lt(x:gg P w H h)(e:H a=some o):a<h.objs.size:=(x a o e).lt
def gg.fresh(x:gg P w H h)(e:h.objs.size<=a):H a=none:=by
 cases q:H a with
 |none=>rfl|some u=>exact absurd (alO (x.lt q) e) (al5 _)
theorem gg.kept(x:gg P w H h)(k:∀b u,h.get? b=some u->h'.get? b=some u):gg P w H h':=λa o e=>
 (x a o e).so (λb u _ q=>k b u q) (λ_ q=>q) λ_ _ q=>q
def gg.laid(x:gg P w H h)(k:∀b u,h.get? b=some u->h'.get? b=some u)(g:h.objs.size<=a)(new:iI P w (upd H a o) h' a o):gg P w (upd H a o) h':=λb u e=>by
 have d:=x.fresh g
 by_cases f:b=a
 .subst f;rw[dZ]at e;cases e;exact new
 .rw[c3 f]at e
  exact(x b u e).so (λc v _ q=>k c v q) (λc q=>by rw[c3 (kF q d)];exact q) λc xs q=>by rw[c3 (kF q d)];exact q
end
def hE(H:au)(a:Addr)(u:gP):Prop:=H a=some u\/∃o,H a=some (.cN o u)
def hE.ok(r:hE H a u)(x:gg P w H h):iI P w H h a u:=by
 rcases r with r|⟨o,r⟩
 .exact x a u r
 .obtain⟨_,q⟩:=x a _ r
  exact q
def yc:Option gP->Prop
 |some (.l _)=>True|some (.td _)=>True|some (.fY _)=>True|some (.set _ _)=>True|some (.ins _ _ _)=>True|some (.ext _)=>True|_=>False
section
variable{P:aly}{w:World}{H:au}{h h':Heap}{x e:Addr}{dD:gP}
def gg.write(ok:gg P w H h)(f:yc (H x))(he:e=x\/H e=some (.own x))(k:∀b u,b≠e->h.get? b=some u->h'.get? b=some u)(n:∃u,h'.get? e=some u)
  (new:iI P w (upd H x dD) h' x dD):gg P w (upd H x dD) h':=λb u q=>by
 have j:∀c y,H c=some (.own y)->c≠x:=λc y r z=>by subst z;rw[r]at f;exact f
 have i:∀c xs,H c=some (.t xs)->c≠x:=λc xs r z=>by subst z;rw[r]at f;exact f
 by_cases a:b=x
 .subst a;rw[dZ]at q;cases q;exact new
 .rw[c3 a]at q
  by_cases g:b=e
  .have l:H b=some (.own x):=by
    rcases he with z|z
    .exact absurd (g.trans z) a
    .rw[g];exact z
   rw[q]at l;cases l;obtain⟨v,m⟩:=n;exact⟨v,by rw[g];exact m⟩
  .refine(ok b u q).so (λc v d r=>k c v ?_ r) (λc r=>by rw[c3 (j c b r)];exact r) λc xs r=>by rw[c3 (i c xs r)];exact r
   rcases d with rfl|d
   .exact g
   .rintro rfl
    rcases he with z|z
    .exact j c b d z
    .rw[d]at z;cases z;exact a rfl
end
structure gR(aX ex:List Addr)(H H':au)(h h':Heap):Prop where
 keep:∀b o,h.get? b=some o->H b=none->b∉aX->b∉ex->h'.get? b=some o
 slot:∀b o,h.get? b=some o->H b=none->b∈aX->b∉ex->∃bc,h'.get? b=some { o with slots:=bc }
 free:∀b o,h.get? b=some o->H b=none->b∉ex->H' b=none
 there:∀b o,h.get? b=some o->b∉ex->∃dD,h'.get? b=some dD
 qN:∀b xs,H b=some (.t xs)->H' b=some (.t xs)
 oD:∀b o u,H b=some (.cN o u)->H' b=some (.cN o u)
 pF:∀b ps,H b=some (.gc ps)->∃more,H' b=some (.gc (ps++more))
section
variable{aX ex:List Addr}{H H1:au}{h ab h':Heap}{a x e:Addr}{o:gP}
def gR.any(u:gR aX ex H H1 h ab)(q:h.get? b=some ba)(n:H b=none)(d:b∉ex):∃bc,ab.get? b=some { ba with slots:=bc }:=by
 by_cases c:b∈aX
 .exact u.slot b ba q n c d
 .exact⟨ba.slots,u.keep b ba q n c d⟩
def gR.kept(k:∀b u,h.get? b=some u->h'.get? b=some u):gR aX ex H H h h':=
 ⟨λb ba q _ _ _=>k b ba q,λb ba q _ _ _=>⟨ba.slots,k b ba q⟩,λ_ _ _ n _=>n,λb ba q _=>⟨ba,k b ba q⟩,λ_ _ q=>q,λ_ _ _ q=>q,λ_ ps q=>⟨#[],by rw[q];simp⟩⟩
def gR.refl:gR aX ex H H h h:=gR.kept λ_ _ q=>q
def gR.laid(k:∀b u,h.get? b=some u->h'.get? b=some u)(d:h.objs.size<=a)(c:H a=none):gR aX ex H (upd H a o) h h' where
 keep:=λb u q _ _ _=>k b u q
 slot:=λb u q _ _ _=>⟨u.slots,k b u q⟩
 free:=λb u q n _=>by rw[c3 (alQ (alO (alq q) d))];exact n
 there:=λb u q _=>⟨u,k b u q⟩
 qN:=λb xs q=>by rw[c3 (kF q c)];exact q
 oD:=λb u xs q=>by rw[c3 (kF q c)];exact q
 pF:=λb ps q=>⟨#[],by rw[c3 (kF q c),q];simp⟩
def gR.write(c:yc (H x))(he:e=x\/H e=some (.own x))(k:∀b u,b≠e->h.get? b=some u->h'.get? b=some u)(i:∃u,h'.get? e=some u):gR aX ex H (upd H x o) h h':=by
 have f:∀b,H b=none->b≠x:=λb n z=>by subst z;rw[n]at c;exact c
 have d:∀b,H b=none->b≠e:=λb n z=>by
  subst z;rcases he with r|r
  .exact f b n r
  .rw[n]at r;cases r
 have hm:∀b u,H b=some u->¬yc (some u)->b≠x:=λb u q nm z=>by subst z;rw[q]at c;exact nm c
 refine⟨λb u q n _ _=>k b u (d b n) q,λb u q n _ _=>⟨u.slots,k b u (d b n) q⟩,λb u q n _=>by rw[c3 (f b n)];exact n,λb u q _=>?_,
  λb xs q=>by rw[c3 (hm b _ q λz=>z)];exact q,λb u xs q=>by rw[c3 (hm b _ q λz=>z)];exact q,λb ps q=>⟨#[],by rw[c3 (hm b _ q λz=>z),q];simp⟩⟩
 by_cases g:b=e
 .subst g;exact i
 .exact⟨u,k b u g q⟩
end
def AQ(h:Heap)(H:au):List Addr:=(alD h.objs.size).filter λa=>(H a).isSome
def oM(h:Heap)(H:au):Heap:=W.hideAll h (AQ h H)
def Yz(h:Heap)(H:au):(oM h H).objs.size=h.objs.size:=W.hideAll_size _ _
def DS{h:Heap}{H:au}(e:h.get? b=some o)(n:H b=none):(oM h H).get? b=some o:=
 W.hideAll_get _ e λhm=>by
  have q:(H b).isSome=true:=(amk.mp hm).2;rw[n]at q;simp at q
def ac0{h:Heap}{H:au}(e:(oM h H).get? b=some o):h.get? b=some o/\H b=none:=by
 have a:h.get? b=some o:=W.of_hideAll (AQ h H) e;refine⟨a,?_⟩
 cases q:H b with
 |none=>rfl|some x=>
  have hm:b∈AQ h H:=amk.mpr ⟨alZ.mpr (alq a),by simp[q]⟩;have z:(oM h H).get? b=none:=W.hideAll_none (AQ h H) hm;rw[z]at e;cases e
def R4(g h:Heap)(L:Addr):List (Addr×Obj):=(alD h.objs.size).filterMap λa=>if a=L\/(g.get? a).isSome=true then none else(h.get? a).map λo=>(a,o)
def rest(g h:Heap)(L d:Addr):List (Addr×Obj):=(R4 g h L).filter λp=>decide (p.1≠d)
structure Mod(K:aN)(mg:bp)(base:Heap):Prop where
 tP:K.In base
 glob:base.Ns alU mg
 blt:∃cK,base.Ns aoX cK/\∀x:Str,x≠"__name__"->cK x=al2 x
 nolimit:base.NoLimit
structure aQ where
 prog:aly
 w:World
 K:aN
 mg:Str->Option Value
 base:Heap
 A:alI
 N:List Str
 g4:alc
 H₀:au
 env:Env
 outer:List Env
 stack:List Env
 ex:List Addr
 fn:Str->Bool
 calm:Bool
 nW:List (Addr×Obj)
 dS:Value->alc->Prop
abbrev oi(X:aQ)(pl:Sem Bool)(o:Expr)(m:Str)(a:Pos)(b:List Expr)(pos:Pos):Prop:=eval (.Call (.Attribute o m a) b [] pos) X.env=(do
   let cp <-eval o X.env
   aoh a.atName
   let(f,first) <-am1 [cp] (apg cp m pl)
   callWith pos f first (amY pos (alJ b X.env)) (anP pos (am9 [] X.env)))
abbrev e_(X:aQ)(e:Expr)(a:List Expr):Prop:=alJ (e::a) X.env=(false,eval e X.env)::alJ a X.env
abbrev f5(X:aQ)(p:Pos)(a:List Expr):Prop:=(amY p (alJ a X.env)).any (·.1)=false
abbrev sY(X:aQ)(p:Pos)(e:Expr):Prop:=amY p (alJ [e] X.env)=(false,eval e X.env)::amY p (alJ [] X.env)
abbrev fX(x:Str):Prop:=(x==("__debug__":Str))=false
abbrev k4(X:aQ)(e:Expr):Prop:=∀x,foldedSetIterable e X.env x=pure x
def lZ(l:List Env):List Addr:=l.filterMap (·.frame)
abbrev aQ.aX(X:aQ):List Addr:=lZ X.outer
def q'(a:Scope)(x:Str):Prop:=a.names.lookup x=some .local\/a.names.lookup x=some .cell\/a.names.lookup x=some .free
def Loc(a:Scope)(x:Str):Prop:=a.names.lookup x=some .local\/a.names.lookup x=some .cell
def Look(env:Env)(h:Heap)(m:bp)(x:Str)(u:Value):Prop:=
 (env.kindOf x=some .local/\m x=some u)\/((env.kindOf x=some .cell\/env.kindOf x=some .free)/\∃c,env.cells.lookup x=some c/\h.IsCell c (some u))
structure aQ.Ok(X:aQ):Prop where
 mod:Mod X.K X.mg X.base
 kind:X.env.scope.kind=.function
 glob:X.env.globals=alU
 blt:X.env.builtins=aoX
 above:X.g4.heap.objs.size<=X.env.locals
 inj:∀x y c,X.env.cells.lookup x=some c->X.env.cells.lookup y=some c->x=y
 has:∀x,(X.env.kindOf x=some .cell\/X.env.kindOf x=some .free)->∃c,X.env.cells.lookup x=some c
 vA:∀x c,X.fn x=true->X.env.cells.lookup x=some c->X.g4.heap.objs.size<=c
 hd:X.calm=true->X.A.handled=none
 frames:X.A.frames=some X.stack
 AE:X.stack=X.outer\/(X.stack=X.env::X.outer/\X.env.frame=some X.env.locals)
 yT:∀b∈X.ex,b≠X.env.locals/\∀x c,X.env.cells.lookup x=some c->c≠b
 bs:∀b o,X.base.get? b=some o->X.g4.heap.get? b=some o/\X.H₀ b=none
 lV:X.base.objs.size<=X.g4.heap.objs.size
 w7:∀b o,X.base.get? b=some o->b∉X.ex
 vI:∀b∈X.ex,b∉X.aX
 kx:X.g4.heap.FunFrames X.base X.outer
 qh:∀b∈X.aX,X.H₀ b=none
structure Inv(X:aQ)(ae:cZ)(U:List (Option V))(H:au)(s:alc):Prop where
 ok:X.Ok
 os:s.os=X.g4.os
 bare:aoi s.gens
 base:gR X.aX X.ex X.H₀ H X.g4.heap s.heap
 loc:∃m,s.heap.Ns X.env.locals m/\∀(i:Nat)(x:Str)(v:V),X.N[i]? = some x->U[i]? = some (some v)->q' X.env.scope x->∃u,RelV v u/\Look X.env s.heap m x u
 cell:∀x c,X.env.cells.lookup x=some c->∃v,s.heap.IsCell c v
 free:H X.env.locals=none
 lY:∀x c,X.env.cells.lookup x=some c->H c=none
 pin:∀p∈X.nW++ae,s.heap.get? p.1=some p.2/\H p.1=none/\p.1≠X.env.locals/\p.1∉X.aX/\∀v,p.2.data≠.cell v
 cf:gg X.prog X.w H s.heap
 len:U.length=X.N.length
section
variable{X:aQ}{ae:cZ}{U:List (Option V)}{H H':au}{s:alc}{h':Heap}
def aQ.Ok.acO(ok:X.Ok)(e:X.base.get? b=some o):b∉X.aX:=λa=>by
 have:=(ok.kx.mem a).1;rw[e]at this;cases this
def Inv.bs(I:Inv X ae U H s):∀b o,X.base.get? b=some o->s.heap.get? b=some o/\H b=none:=λb o e=>
 ⟨I.base.keep b o (I.ok.bs b o e).1 (I.ok.bs b o e).2 (I.ok.acO e) (I.ok.w7 b o e),I.base.free b o (I.ok.bs b o e).1 (I.ok.bs b o e).2 (I.ok.w7 b o e)⟩
def Inv.bk(I:Inv X ae U H s):∀b o,X.base.get? b=some o->s.heap.get? b=some o:=λb o e=>(I.bs b o e).1
def Inv.mod(I:Inv X ae U H s):Mod X.K X.mg X.base:=I.ok.mod
def Inv.f7(I:Inv X ae U H s):X.K.In s.heap:=I.ok.mod.tP.keeps I.bk
def Inv.fr(I:Inv X ae U H s):∃m,Fr X.base X.env.locals s.heap m:=
 let⟨m,o,_⟩:=I.loc
 ⟨m,o,I.bk,alR I.ok.lV I.ok.above⟩
def Inv.lt(I:Inv X ae U H s):X.env.locals<s.heap.objs.size:=let⟨_,o,_⟩:=I.loc;o.lt
def Inv.pC(I:Inv X ae U H s):X.g4.heap.objs.size<=s.heap.objs.size:=alR I.ok.above (amP I.lt)
def Inv.acQ(I:Inv X ae U H s)(h:s.heap.objs.size<=a):a∉X.aX:=λc=>by
 obtain⟨_,o,b,_⟩:=I.ok.kx.mem c;exact absurd (alO (alq b) (alR I.pC h)) (al5 _)
def Inv.rl(I:Inv X ae U H s):∀x c,X.env.cells.lookup x=some c->c≠X.env.locals:=λx c e z=>by
 obtain⟨v,o,a,hd⟩:=I.cell x c e;obtain⟨m,⟨g,f,cv,d,b,_⟩,_⟩:=I.loc;rw[z,d]at a;cases a;rw[b]at hd;cases hd
def Inv.kx(I:Inv X ae U H s):s.heap.FunFrames X.base X.outer:=by
 have all:∀(l:List Env),(∀b∈lZ l,b∈X.aX)->X.g4.heap.FunFrames X.base l->s.heap.FunFrames X.base l:=by
  intro l
  induction l with
  |nil=>intro _ _;trivial|cons env r i=>
   intro aw hl;obtain⟨j,⟨L,o,d,g,f,hd⟩,h⟩:=hl;have c:=aw L (by unfold lZ;rw[aox,d];exact alo);obtain⟨bc,e⟩:=I.base.slot L o f (I.ok.qh L c) c λz=>I.ok.vI L z c
   exact⟨j,⟨L,_,d,g,e,hd⟩,i (λb a=>aw b (by unfold lZ;rw[aox,d];exact alh _ a)) h⟩
 exact all X.outer (λ_ a=>a) I.ok.kx
def Inv.stack(I:Inv X ae U H s):s.heap.FunFrames X.base X.stack:=by
 rcases I.ok.AE with e|⟨e,hf⟩
 .rw[e];exact I.kx
 .rw[e]
  obtain⟨m,a,_⟩:=I.loc;refine .cons (by rw[I.ok.kind];decide) hf a ?_ I.kx;exact Heap.get?_none_of_le (alR I.ok.lV I.ok.above)
def Inv.Gr(I:Inv X ae U H s):∀b∈lZ X.stack,b∈X.env.locals::X.aX:=λb a=>by
 rcases I.ok.AE with e|⟨e,hf⟩
 .rw[e]at a;exact alh _ a
 .rw[e]at a
  unfold lZ at a;rw[aox,hf]at a;exact a
def Inv.QA(I:Inv X ae U H s):∀b∈lZ X.stack,H b=none:=λb a=>by
 rcases alj.mp (I.Gr b a)with e|a
 .rw[e];exact I.free
 .obtain⟨_,o,c,_⟩:=I.ok.kx.mem a
  exact I.base.free b o c (I.ok.qh b a) λz=>I.ok.vI b z a
def Inv.step{g':Array GenState}{t':Nat}{d':Drawn}{ch:List Addr}(I:Inv X ae U H s)
  (y:∀b∈ch,(b∈X.ex\/X.g4.heap.objs.size<=b)/\b≠X.env.locals/\(∀x c,X.env.cells.lookup x=some c->c≠b)/\∀p∈X.nW++ae,p.1≠b)
  (keep:∀b o,b≠X.env.locals->b∉X.aX->b∉ch->s.heap.get? b=some o->H b=none->h'.get? b=some o)
  (slot:∀b o,b≠X.env.locals->b∈X.aX->b∉ch->s.heap.get? b=some o->H b=none->∃bc,h'.get? b=some { o with slots:=bc }) (free:∀b o,b∉ch->s.heap.get? b=some o->H b=none->H' b=none)
  (there:∀b o,b∉ch->s.heap.get? b=some o->∃j,h'.get? b=some j)
  (qN:∀b xs,H b=some (.t xs)->H' b=some (.t xs)) (oD:∀b o u,H b=some (.cN o u)->H' b=some (.cN o u)) (pF:∀b ps,H b=some (.gc ps)->∃A,H' b=some (.gc (ps++A)))
  (ns:∀m,s.heap.Ns X.env.locals m->h'.Ns X.env.locals m) (cf:gg X.prog X.w H' h') (M:aoi g') :
  Inv X ae U H' { s with heap:=h',gens:=g',drawn:=d',toks:=t' }:=by
 have E:∀b o,X.g4.heap.get? b=some o->b≠X.env.locals:=λb o e=>alQ (alO (alq e) I.ok.above)
 have D:∀b o,X.g4.heap.get? b=some o->b∉X.ex->b∉ch:=λb o e a g=>by
  rcases(y b g).1 with z|z
  .exact a z
  .exact absurd (alO (alq e) z) (al5 _)
 have f:∀x c,X.env.cells.lookup x=some c->∀v,s.heap.IsCell c v->h'.IsCell c v:=λx c e v N=>by
  obtain⟨o,h,hd⟩:=N;have B:=λz=>(y c z).2.2.1 x c e rfl
  by_cases G:c∈X.aX
  .obtain⟨bc,q⟩:=slot c o (I.rl x c e) G B h (I.lY x c e)
   exact⟨_,q,hd⟩
  .exact⟨o,keep c o (I.rl x c e) G B h (I.lY x c e),hd⟩
 refine⟨I.ok,I.os,M,⟨λb o e n g a=>?_,λb o e n g a=>?_,λb o e n a=>?_,λb o e a=>?_,λb xs e=>qN b xs (I.base.qN b xs e),λb o xs e=>oD b o xs (I.base.oD b o xs e),λb ps e=>?_⟩,?_,λx c e=>?_,?_,λx c e=>?_,λp F=>?_,cf,I.len⟩
 .exact keep b o (E b o e) g (D b o e a) (I.base.keep b o e n g a) (I.base.free b o e n a)
 .obtain⟨bc,aq⟩:=I.base.slot b o e n g a
  obtain⟨O,aE⟩:=slot b _ (E b o e) g (D b o e a) aq (I.base.free b o e n a);exact⟨O,aE⟩
 .obtain⟨j,aq⟩:=I.base.there b o e a
  exact free b j (D b o e a) aq (I.base.free b o e n a)
 .obtain⟨j,aq⟩:=I.base.there b o e a
  exact there b j (D b o e a) aq
 .obtain⟨P,aq⟩:=I.base.pF b ps e
  obtain⟨K,aE⟩:=pF b _ aq;exact⟨P++K,by rw[aE,Array.append_assoc]⟩
 .obtain⟨m,L,hl⟩:=I.loc
  refine⟨m,ns m L,λi x v aq aE cX=>?_⟩;obtain⟨u,r,l⟩:=hl i x v aq aE cX;refine⟨u,r,?_⟩;rcases l with l|⟨k,c,e,z⟩
  .exact .inl l
  .exact .inr ⟨k,c,e,f x c e _ z⟩
 .obtain⟨v,z⟩:=I.cell x c e
  exact⟨v,f x c e v z⟩
 .obtain⟨m,⟨o,_,_,h,_⟩,_⟩:=I.loc
  exact free _ o (λz=>(y _ z).2.1 rfl) h I.free
 .obtain⟨v,o,h,hd⟩:=I.cell x c e
  exact free c o (λz=>(y c z).2.2.1 x c e rfl) h (I.lY x c e)
 .obtain⟨e,n,ne,J,d⟩:=I.pin p F
  have B:=λz=>(y p.1 z).2.2.2 p F rfl
  exact⟨keep p.1 p.2 ne J B e n,free p.1 p.2 B e n,ne,J,d⟩
def Inv.un{t':Nat}(I:Inv X ae U H s)(u:gR X.aX [] H H' s.heap h')(cf:gg X.prog X.w H' h'):Inv X ae U H' { s with heap:=h',toks:=t' }:=by
 obtain⟨m,⟨o,j,cv,c,r⟩,_⟩:=id I.loc;obtain⟨bc,i⟩:=u.any c I.free (by simp);exact I.step (g':=s.gens) (d':=s.drawn) (ch:=[]) (λ_ z=>nomatch z) (λb o _ a _ e n=>u.keep b o e n a (by simp)) (λb o _ a _ e n=>u.slot b o e n a (by simp)) (λb o _ e n=>u.free b o e n (by simp)) (λb o _ e=>u.there b o e (by simp)) u.qN u.oD u.pF (λl hm=>by
  obtain⟨k,g,f,d,h⟩:=hm;rw[c]at d;cases d;exact⟨_,g,f,i,h⟩) cf I.bare
def Inv.call{g':Array GenState}{t':Nat}{d':Drawn}{ch:List Addr}(I:Inv X ae U H s)(u:gR (lZ X.stack) ch H H' s.heap h')(cf:gg X.prog X.w H' h')(k:aoi g')
  (h:∀b∈ch,(b∈X.ex\/X.g4.heap.objs.size<=b)/\b≠X.env.locals/\(∀x c,X.env.cells.lookup x=some c->c≠b)/\∀p∈X.nW++ae,p.1≠b) :
  Inv X ae U H' { s with heap:=h',gens:=g',drawn:=d',toks:=t' }:=by
 obtain⟨m,⟨o,t,cv,f,r⟩,_⟩:=id I.loc;obtain⟨bc,d⟩:=u.any f I.free λz=>(h _ z).2.1 rfl
 exact I.step (ch:=ch) h (λb o d l a e n=>u.keep b o e n (λz=>(alj.mp (I.Gr b z)).elim d l) a) (λb o _ _ a e n=>u.any e n a) (λb o a e n=>u.free b o e n a) (λb o a e=>u.there b o e a) u.qN u.oD u.pF (λA hm=>by
  obtain⟨y,j,i,g,q⟩:=hm;rw[f]at g;cases g;exact⟨_,j,i,d,q⟩) cf k
def Inv.turned{t':Nat}{it:Addr}(I:Inv X ae U H s)(k:∀b o,b≠it->s.heap.get? b=some o->h'.get? b=some o)(h:H it=none)(d:it≠X.env.locals)
  (j:it∈X.ex\/X.g4.heap.objs.size<=it) (l:∀x c,X.env.cells.lookup x=some c->c≠it) (w:∀p∈X.nW++ae,p.1≠it):Inv X ae U H { s with heap:=h',toks:=t' }:=by
 have f:∀b u,H b=some u->b≠it:=λb u e z=>by rw[z,h]at e;cases e
 refine I.step (ch:=[it]) (λb i=>?_) (λb o _ _ a e _=>k b o (λz=>a (by simp[z])) e) (λb o _ _ a e _=>⟨o.slots,k b o (λz=>a (by simp[z])) e⟩) (λ_ _ _ _ n=>n)
  (λb o a e=>⟨o,k b o (λz=>a (by simp[z])) e⟩) (λ_ _ e=>e) (λ_ _ _ e=>e) (λb ps e=>⟨#[],by rw[e];simp⟩) (λm hm=>?_) (λb u e=>?_) I.bare
 .have e:b=it:=by simpa using i
  subst e;exact⟨j,d,l,w⟩
 .obtain⟨o,t,cv,g,r⟩:=hm
  exact⟨o,t,cv,k _ o (anG d) g,r⟩
 .refine(I.cf b u e).so (λc v a q=>k c v ?_ q) (λ_ q=>q) λ_ _ q=>q
  rcases a with z|z
  .rw[z];exact f b u e
  .exact f c _ z
def Inv.tok(I:Inv X ae U H s)(t:Nat):Inv X ae U H { s with toks:=t }:=I.un gR.refl I.cf
def Inv.kept{t':Nat}(I:Inv X ae U H s)(k:∀b u,s.heap.get? b=some u->h'.get? b=some u):Inv X ae U H { s with heap:=h',toks:=t' }:=I.un (gR.kept k) (I.cf.kept k)
def Inv.laid{t':Nat}(I:Inv X ae U H s)(k:∀b u,s.heap.get? b=some u->h'.get? b=some u)(c:s.heap.objs.size<=a)(new:iI X.prog X.w (upd H a o) h' a o) :
  Inv X ae U (upd H a o) { s with heap:=h',toks:=t' }:=I.un (gR.laid k c (I.cf.fresh c)) (I.cf.laid k c new)
def Inv.write{x e:Addr}{o:gP}{t':Nat}(I:Inv X ae U H s)(a:yc (H x))(he:e=x\/H e=some (.own x))(k:∀b u,b≠e->s.heap.get? b=some u->h'.get? b=some u)(c:∃u,h'.get? e=some u)
  (new:iI X.prog X.w (upd H x o) h' x o):Inv X ae U (upd H x o) { s with heap:=h',toks:=t' }:=I.un (gR.write a he k c) (I.cf.write a he k c new)
def Inv.weak{U':List (Option V)}(I:Inv X ae U H s)(hl:U'.length=U.length)(w:∀(i:Nat) v,U'[i]? = some (some v)->U[i]? = some (some v)):Inv X ae U' H s:=
 ⟨I.ok,I.os,I.bare,I.base,let⟨m,C,o⟩:=I.loc;⟨m,C,λi x v aq aE cX=>o i x v aq (w i v aE) cX⟩,I.cell,I.free,I.lY,I.pin,I.cf,hl.trans I.len⟩
def Inv.PD(I:Inv X ae U H s)(h:∀p∈o,s.heap.get? p.1=some p.2/\H p.1=none/\p.1≠X.env.locals/\p.1∉X.aX/\∀v,p.2.data≠.cell v):Inv X o U H s:=
 ⟨I.ok,I.os,I.bare,I.base,I.loc,I.cell,I.free,I.lY,λp a=>(al6.mp a).elim (λz=>I.pin p (List.mem_append_left _ z)) (h p),I.cf,I.len⟩
def OZ{N:List Str}(hN:N.Nodup){i j:Nat}{x:Str}(a:N[i]? = some x)(b:N[j]? = some x):i=j:=by
 obtain⟨c,aq⟩:=ak8.mp a;obtain⟨d,aE⟩:=ak8.mp b;exact(List.getElem_inj hN).mp (aq.trans aE.symm)
theorem QC{M:Model}{A:alI}{E:dp}{i:Nat}{x:Str}{v:V}{u:Value}{Q:Unit->alc->Prop}(I:Inv X ae U H s)(hN:X.N.Nodup)(hi:X.N[i]? = some x)(l:Loc X.env.scope x)(r:RelV v u)
  (h:∀G,Inv X ae (U.set i (some v)) H G->(∃a,ao4 a s.heap G.heap/\(a=X.env.locals\/X.env.cells.lookup x=some a))->Q () G) (hf:X.fn x=true\/X.env.scope.names.lookup x=some .local:=by first|exact .inl rfl|exact .inr rfl|assumption):wpAny M A (storeName X.env x u) Q E s:=by
 obtain⟨m,J,hl⟩:=id I.loc;have X':(X.env.scope.kind==.class||(X.env.scope.kind==.module&&X.env.locals != X.env.globals))=false:=by rw[I.ok.kind];rfl
 have T:i<U.length:=by rw[I.len];exact(ak8.mp hi).1
 have rl:=I.rl;have f:∀{a:Addr}{h':Heap},(∃o,s.heap.get? a=some o/\H a=none)->ao4 a s.heap h'->gg X.prog X.w H h':=λ{a h'} ao aw b ba e=>by
  obtain⟨_,_,W⟩:=ao;refine(I.cf b ba e).so (λc D g q=>(aw.2 c ?_).trans q) (λ_ q=>q) λ_ _ q=>q
  rintro rfl;rcases g with rfl|g
  .rw[W]at e;cases e
  .rw[W]at g;cases g
 rcases l with C|C
 .refine wpAny_storeName_local C J (λh' YP aw=>?_) X'
  obtain⟨L,_,_,rM,_⟩:=id J;refine h _ ⟨I.ok,I.os,I.bare,⟨λb o e n t l=>?_,λb o e n t l=>?_,I.base.free,λb o e l=>?_,I.base.qN,I.base.oD,I.base.pF⟩,⟨_,YP,λj y R aq aE cX=>?_⟩,λy c e=>?_,I.free,I.lY,λp K=>?_,f ⟨L,rM,I.free⟩ aw,by simpa using I.len⟩ ⟨_,aw,.inl rfl⟩
  .exact(aw.2 b (alQ (alO (alq e) I.ok.above))).trans (I.base.keep b o e n t l)
  .obtain⟨bc,aq⟩:=I.base.slot b o e n t l
   exact⟨bc,(aw.2 b (alQ (alO (alq e) I.ok.above))).trans aq⟩
  .obtain⟨P,aq⟩:=I.base.there b o e l
   exact⟨P,(aw.2 b (alQ (alO (alq e) I.ok.above))).trans aq⟩
  .by_cases B:j=i
   .subst B
    rw[hi]at aq;cases aq;rw[alA T]at aE;cases aE;exact⟨u,r,.inl ⟨C,by simp⟩⟩
   .rw[ale (anG B)]at aE
    obtain⟨u',O,q⟩:=hl j y R aq aE cX;refine⟨u',O,?_⟩;rcases q with⟨k,e⟩|⟨k,c,e,z⟩
    .refine .inl ⟨k,?_⟩
     have:y≠x:=λe=>B (OZ hN aq (e▸hi))
     simp[this,e]
    .exact .inr ⟨k,c,e,z.sameBut aw (rl y c e)⟩
  .obtain⟨D,z⟩:=I.cell y c e
   exact⟨D,z.sameBut aw (rl y c e)⟩
  .obtain⟨e,n,ne,S,d⟩:=I.pin p K
   exact⟨(aw.2 p.1 ne).trans e,n,ne,S,d⟩
 .have F:X.fn x=true:=by
   rcases hf with z|z
   .exact z
   .rw[z]at C;cases C
  obtain⟨c,g⟩:=I.ok.has x (.inl C);obtain⟨D,z⟩:=I.cell x c g;refine wpAny_storeName_cell I.ok.kind C g z (λh' Y aw=>?_);obtain⟨c1,zg,YU⟩:=id z;refine h { s with heap:=h' } ⟨I.ok,I.os,I.bare,⟨λb o e n t l=>?_,λb o e n t l=>?_,I.base.free,λb o e l=>?_,I.base.qN,I.base.oD,I.base.pF⟩,⟨m,J.sameBut aw (anG (rl x c g)),λj y R aq aE cX=>?_⟩,λy c' e=>?_,I.free,I.lY,λp K=>?_,f ⟨c1,zg,I.lY x c g⟩ aw,by simpa using I.len⟩ ⟨c,aw,.inr g⟩
  .exact(aw.2 b (alQ (alO (alq e) (I.ok.vA x c F g)))).trans (I.base.keep b o e n t l)
  .obtain⟨bc,aq⟩:=I.base.slot b o e n t l
   exact⟨bc,(aw.2 b (alQ (alO (alq e) (I.ok.vA x c F g)))).trans aq⟩
  .obtain⟨P,aq⟩:=I.base.there b o e l
   exact⟨P,(aw.2 b (alQ (alO (alq e) (I.ok.vA x c F g)))).trans aq⟩
  .by_cases B:j=i
   .subst B
    rw[hi]at aq;cases aq;rw[alA T]at aE;cases aE;exact⟨u,r,.inr ⟨.inl C,c,g,Y⟩⟩
   .rw[ale (anG B)]at aE
    obtain⟨u',O,q⟩:=hl j y R aq aE cX;refine⟨u',O,?_⟩;rcases q with q|⟨k,c',e,lF⟩
    .exact .inl q
    .refine .inr ⟨k,c',e,lF.sameBut aw ?_⟩
     rintro rfl;exact B (OZ hN aq (I.ok.inj _ _ _ e g▸hi))
  .by_cases Z:c'=c
   .subst Z;exact⟨_,Y⟩
   .obtain⟨mF,eZ⟩:=I.cell y c' e
    exact⟨mF,eZ.sameBut aw Z⟩
  .obtain⟨e,n,ne,S,d⟩:=I.pin p K
   refine⟨(aw.2 p.1 ?_).trans e,n,ne,S,d⟩;intro q;rw[q,zg]at e;exact d D (by rw[<-(alE e)];exact YU)
def QB{M:Model}{A:alI}{E:dp}{i:Nat}{x:Str}{v:V}{u:Value}{Q:Unit->alc->Prop}(I:Inv X ae U H s)(hN:X.N.Nodup)(hi:X.N[i]? = some x)(b:Loc X.env.scope x)(r:RelV v u)
  (h:∀a,Inv X ae (U.set i (some v)) H a->Q () a) (d:X.fn x=true\/X.env.scope.names.lookup x=some .local:=by first|exact .inl rfl|exact .inr rfl|assumption):wpAny M A (storeName X.env x u) Q E s:=
 QC I hN hi b r (λa c _=>h a c) d
theorem Inv.Uc{a:alc}{ch:List Addr}(I:Inv X ae U H s)(d:a.os=s.os)(u:gR (lZ X.stack) ch H H' s.heap a.heap)(cf:gg X.prog X.w H' a.heap)(e:aoi a.gens)
  (f:∀b∈ch,(b∈X.ex\/X.g4.heap.objs.size<=b)/\b≠X.env.locals/\(∀x c,X.env.cells.lookup x=some c->c≠b)/\∀p∈X.nW++ae,p.1≠b):Inv X ae U H' a:=by
 obtain⟨h',g',d',t',g⟩:=a;subst d;exact I.call u cf e f
end
abbrev gx:=Value->Option Addr->au->Prop
abbrev St:=List (Option V)
abbrev cI:=V->au->Prop
abbrev TE:=St->au->cI->Prop
abbrev TT:=St->au->(Bool->au->Prop)->Prop
abbrev fV:=St->au->(List V->au->Prop)->Prop
structure Ends where
 bA:St->au->Prop
 b9:cI
 bk:St->au->Prop:=λ_ _=>False
 cz:St->au->Prop:=λ_ _=>False
abbrev gQ:=Ends->St->au->Prop
def ij(X:aQ)(c:cZ)(U:St)(Q:cI)(u:Value)(b:alc):Prop:=∃v a,Inv X c U a b/\RelV v u/\Q v a
def BF(X:aQ)(d:cZ)(U:St)(Q:Bool->au->Prop)(b:Bool)(c:alc):Prop:=∃a,Inv X d U a c/\Q b a
def Rq(X:aQ)(c:cZ)(U:St)(Q:List V->au->Prop)(us:List Value)(b:alc):Prop:=∃vs a,Inv X c U a b/\Vals vs us/\Q vs a
def vm(X:aQ)(c:cZ)(D:Ends)(f:Flow)(b:alc):Prop:=
 match f with
 |.next=>∃U' a,Inv X c U' a b/\D.bA U' a|.brk=>∃U' a,Inv X c U' a b/\D.bk U' a|.cont=>∃U' a,Inv X c U' a b/\D.cz U' a|.ret u=>∃v U' a,Inv X c U' a b/\RelV v u/\D.b9 v a
def b6(X:aQ)(e:Expr)(t:TE):Prop:=
 ∀(a:cZ)(s:alc)(U:St)(H:au)(Q:cI),Inv X a U H s->t U H Q->wpAny (model X.prog X.w) X.A (eval e X.env) (ij X a U Q) X.dS s
def iq(X:aQ)(e:Expr)(t:TT):Prop:=
 ∀(a:cZ)(s:alc)(U:St)(H:au)(Q:Bool->au->Prop),Inv X a U H s->t U H Q->wpAny (model X.prog X.w) X.A (isTrue e X.env (eval e X.env)) (BF X a U Q) X.dS s
def k0(X:aQ)(e:Expr)(t:TT):Prop:=
 ∀(a:Sem Value)(b:cZ)(s:alc)(U:St)(H:au)(Q:Bool->au->Prop),Inv X b U H s->t U H Q->wpAny (model X.prog X.w) X.A (isTrue e X.env a) (BF X b U Q) X.dS s
def k0.pt{t:TT}(h:k0 X e t):iq X e t:=h _
def g9(X:aQ)(b:List Expr)(t:fV):Prop:=
 ∀(pos:Pos)(a:cZ)(s:alc)(U:St)(H:au)(Q:List V->au->Prop),Inv X a U H s->t U H Q->wpAny (model X.prog X.w) X.A (spliced (amY pos (alJ b X.env))) (Rq X a U Q) X.dS s
def iJ(X:aQ)(st:Stmt)(t:gQ):Prop:=
 ∀(a:cZ)(s:alc)(U:St)(H:au)(D:Ends),Inv X a U H s->t D U H->wpAny (model X.prog X.w) X.A (exec st X.env) (vm X a D) X.dS s
def ip(X:aQ)(st:List Stmt)(t:gQ):Prop:=
 ∀(a:cZ)(s:alc)(U:St)(H:au)(D:Ends),Inv X a U H s->t D U H->wpAny (model X.prog X.w) X.A (execs st X.env) (vm X a D) X.dS s
def bZ{α:Type}{t:Sem α}{Q b:α->alc->Prop}{M:Model}{A:alI}{E:dp}{s:alc}(h:wpAny M A t Q E s)(c:∀a s,Q a s->b a s):wpAny M A t b E s:=al9 h c λ_ _ x=>x
section
variable{X:aQ}
def agc(i:Nat):TE:=λU H Q=>∃v,U[i]? = some (some v)/\Q v H
def pD(v:V):TE:=λ_ H Q=>Q v H
def An(hN:X.N[i]? = some x)(d:q' X.env.scope x)(hd:fX x:=by decide)(f:(x==("__classdict__":Str))=false:=by decide):b6 X (.Name x pos) (agc i):=by
 intro b s U H Q I h;obtain⟨v,e,h⟩:=h;obtain⟨m,a,hl⟩:=I.loc;obtain⟨u,r,l⟩:=hl i x v hN e d;have fin:ij X b U Q u s:=⟨v,H,I,r,h⟩;rcases l with⟨o,hm⟩|⟨o,c,hc,C⟩
 .exact wpAny_Name (wpAny_loadName_local I.ok.kind o a hm fin) hd
 .rcases o with o|o
  .exact wpAny_Name (wpAny_loadName_cell I.ok.kind o hc C fin) hd
  .exact wpAny_Name (wpAny_loadName_free I.ok.kind o hc C fin f) hd
def ad5{i j pos}:b6 X (.Constant (.int i) j pos) (pD (.int i)):=λ_ _ _ H _ I h=>wpAny_Constant_int ⟨.int i,H,I.tok _,⟨_,rfl⟩,h⟩
def adT{b j pos}:b6 X (.Constant (.bool b) j pos) (pD (.av b)):=λ_ _ _ H _ I h=>Constant_bool ⟨.av b,H,I,rfl,h⟩
def aea{j pos}:b6 X (.Constant .none j pos) (pD .aH):=λ_ _ _ H _ I h=>Constant_none ⟨.aH,H,I,rfl,h⟩
def aee{x j pos}:b6 X (.Constant (.str x) j pos) (pD (.str x)):=λ_ _ _ H _ I h=>Calls.Constant_str ⟨.str x,H,I.tok _,⟨_,rfl⟩,h⟩
def ee(X:aQ)(x:Str):Prop:=X.env.kindOf x=some .globalImplicit
def tT{E:dp}{b:cZ}{s:alc}{U:St}{H:au}{x:Str}{u:Value}{pos:Pos}{Q:dp}(I:Inv X b U H s)(a:ee X x)(hm:X.mg x=some u)(h:Q u s)
  (hd:fX x:=by decide):wpAny (model X.prog X.w) X.A (eval (.Name x pos) X.env) Q E s:=
 aoK I.ok.kind a (Calls.loadGlobal_global (by rw[I.ok.glob];exact I.mod.glob.keeps I.bk) hm h) hd
def nK{E:dp}{d:cZ}{s:alc}{U:St}{H:au}{x:Str}{u:Value}{pos:Pos}{Q:dp}(I:Inv X d U H s)(b:ee X x)(hm:X.mg x=none)(f:al2 x=some u)(h:Q u s)
  (a:x≠"__name__":=by decide) (hd:fX x:=by decide):wpAny (model X.prog X.w) X.A (eval (.Name x pos) X.env) Q E s:=by
 obtain⟨g,c,e⟩:=I.mod.blt;exact aoK I.ok.kind b (Calls.loadGlobal_builtin (by rw[I.ok.glob];exact I.mod.glob.keeps I.bk) hm (by rw[I.ok.blt];exact c.keeps I.bk) ((e x a).trans f) h) hd
def ad4{v:V}(a:ee X x)(hm:X.mg x=some u)(r:RelV v u)(hd:fX x:=by decide):b6 X (.Name x pos) (pD v):=
 λ_ _ _ H _ I h=>tT I a hm ⟨v,H,I,r,h⟩ hd
def xh{v:V}(b:ee X x)(hm:X.mg x=none)(c:al2 x=some u)(r:RelV v u)(a:x≠"__name__":=by decide)(hd:fX x:=by decide):b6 X (.Name x pos) (pD v):=
 λ_ _ _ H _ I h=>nK I b hm c ⟨v,H,I,r,h⟩ a hd
variable{a b:Expr}{bR cL:TE}{pos:Pos}
def RN(X:aQ)(op:CmpOp)(a b:Expr)(t:TE):Prop:=
 ∀(c:cZ)(s:alc)(U:St)(H:au)(Q:cI),Inv X c U H s->t U H Q->
  wpAny (model X.prog X.w) X.A (eval a X.env) (λv d=>wpAny (model X.prog X.w) X.A (eval b X.env) (λu e=>wpAny (model X.prog X.w) X.A (alY op v u) (ij X c U Q) X.dS e) X.dS d) X.dS s
def acN(b:Expr){op:CmpOp}(h:op≠.In)(c:op≠.NotIn):amV op b=false:=by
 have aq:(op==CmpOp.In)=false:=by cases op<;>first|rfl|exact absurd rfl h
 have aE:(op==CmpOp.NotIn)=false:=by cases op<;>first|rfl|exact absurd rfl c
 cases b<;>simp[amV,aq,aE]
def QF(t:TE):TT:=λU H Q=>t U H λx d=>∃c,x=.av c/\Q c d
def akO{op:CmpOp}{t:TE}(h:RN X op a b t)(e:amV op b=false:=by first|exact acN _ (by decide) (by decide)|rfl):iq X (.Compare a [op] [b] pos) (QF t):=by
 intro g s U H Q I hw;refine wpAny_isTrue_Compare1 (bZ (h g s U H _ I hw) λv l e=>bZ e λu s2 i=>bZ i λc s3 ⟨x,f,k,j,bB⟩=>?_) e;obtain⟨d,rfl,q⟩:=bB;cases j;exact ami ⟨f,k,q⟩
def PK{e:Expr}{t:TE}(h:b6 X e t)(he:∀c,isTrue e X.env c=(do let v <-c;aoh e.pos;am1 [v] (truthy v)):=by intro _;rfl):iq X e (QF t):=by
 intro g s U H Q I hw;refine isTrue_plain (bZ (h g s U H _ I hw) λv k ⟨x,f,j,i,bB⟩=>?_) (he _);obtain⟨d,rfl,q⟩:=bB;cases i;exact ami ⟨f,j,q⟩
variable{n0 AI:TT}{rest:List Expr}
def afP(t u:TT):TT:=λU H Q=>t U H λc d=>if c=true then u U d Q else Q false d
def af4(t u:TT):TT:=λU H Q=>t U H λc d=>if c=true then Q true d else u U d Q
def af2(t:TT):TT:=λU H Q=>t U H λc d=>Q (!c) d
def PS(f:iq X a n0):k0 X (.BoolOp .And [a] pos) n0:=by
 intro i d s U H Q I h;refine isTrue_and (bZ (f d s U H Q I h) λc g e=>?_)
 cases c with
 |true=>exact isTrue_and_nil e|false=>exact e
def aeI(f:iq X a n0):k0 X (.BoolOp .Or [a] pos) n0:=by
 intro i d s U H Q I h;refine isTrue_or (bZ (f d s U H Q I h) λc g e=>?_)
 cases c with
 |false=>exact isTrue_or_nil e|true=>exact e
def PR(j:iq X a n0)(i:k0 X (.BoolOp .And (b::rest) pos) AI):k0 X (.BoolOp .And (a::b::rest) pos) (afP n0 AI):=by
 intro l e s U H Q I h;refine isTrue_and (bZ (j e s U H _ I h) λc k g=>?_);obtain⟨d,f,bB⟩:=g
 cases c with
 |true=>exact i l e k U d Q f bB|false=>exact⟨d,f,bB⟩
def aeH(j:iq X a n0)(i:k0 X (.BoolOp .Or (b::rest) pos) AI):k0 X (.BoolOp .Or (a::b::rest) pos) (af4 n0 AI):=by
 intro l e s U H Q I h;refine isTrue_or (bZ (j e s U H _ I h) λc k g=>?_);obtain⟨d,f,bB⟩:=g
 cases c with
 |true=>exact⟨d,f,bB⟩|false=>exact i l e k U d Q f bB
def PJ(f:iq X a n0):iq X (.UnaryOp .Not a pos) (af2 n0):=by
 intro e s U H Q I h;exact isTrue_not (f e s U H (λc d=>Q (!c) d) I h)
def afQ(bR cL:TE):TE:=λU H Q=>bR U H λx d=>∃c,x=.av c/\if c=true then cL U d Q else Q (.av false) d
def af3(bR:TE):TE:=λU H Q=>bR U H λx d=>∃c,x=.av c/\Q (.av (!c)) d
def aec{op}{t:TE}(h:b6 X a t):b6 X (.BoolOp op [a] pos) t:=λc s U H Q I hw=>BoolOp_one (h c s U H Q I hw)
def adS(j:b6 X a bR)(i:b6 X (.BoolOp .And (b::rest) pos) cL):b6 X (.BoolOp .And (a::b::rest) pos) (afQ bR cL):=by
 intro e s U H Q I h;refine BoolOp_and (bZ (j e s U H _ I h) λv l g=>?_);obtain⟨x,d,f,k,bB⟩:=g;obtain⟨c,rfl,bB⟩:=bB;cases k;refine ami ?_
 cases c with
 |true=>exact i e l U d Q f bB|false=>exact⟨.av false,d,f,rfl,bB⟩
def aeb(g:b6 X a bR):b6 X (.UnaryOp .Not a pos) (af3 bR):=by
 intro f s U H Q I h;refine UnaryOp_ (bZ (g f s U H _ I h) λv k e=>?_);obtain⟨x,d,j,i,bB⟩:=e;obtain⟨c,rfl,bB⟩:=bB;cases i;exact not_of (ami ⟨.av (!c),d,j,rfl,bB⟩)
end
def dw(K:aN)(H:au)(a:Addr)(xs:List V):Prop:=
 hE H a (.l xs)\/
  ∃(o:Obj)(b:Array Value)(n:Nat),K.lookup a=some o/\o.cls=.type "list"/\o.dict=none/\o.data=.seq b n/\b.size<=ald/\Vals xs b.toList
def dB(K:aN)(H:au)(a:Addr)(xs:List V):Prop:=
 hE H a (.t xs)\/
  ∃(o:Obj)(b:Array Value)(n:Nat),K.lookup a=some o/\o.cls=.type "tuple"/\o.data=.seq b n/\b.size<=ald/\Vals xs b.toList
def RW:Value->Option V
 |.none=>some .aH|.bool b=>some (.av b)|.int i _=>some (.int i)|.str x _=>some (.str x)|.bytes b _=>some (.yy b)|.float b _=>some (.yW b)|.ref a=>some (.ref a)|.type n=>some (.ty n)|_=>none
def RelV.abs(r:RelV x u):RW u=some x:=by
 cases x with
 |aH=>cases r;rfl
 |av _=>cases r;rfl
 |int _=>obtain⟨t,rfl⟩:=r;rfl
 |str _=>obtain⟨t,rfl⟩:=r;rfl
 |yy _=>obtain⟨t,rfl⟩:=r;rfl
 |yW _=>obtain⟨t,rfl⟩:=r;rfl
 |ref _=>cases r;rfl
 |ty _=>cases r;rfl
def RelV.inj(r:RelV x u)(q:RelV y u):x=y:=alE (r.abs.symm.trans q.abs)
theorem Vals.inj:∀{xs a:List V}{us:List Value},Vals xs us->Vals a us->xs=a
 |_,_,_,.nil,.nil=>rfl| _,_,_,.cons r t,.cons o t'=>by rw[r.inj o,Vals.inj t t']
section
variable{X:aQ}{ae:cZ}{U:St}{H:au}{s:alc}{a:Addr}{xs ys:List V}
def dw.of{K:aN}(h:H a=some (.l xs)):dw K H a xs:=.inl (.inl h)
def dB.of{K:aN}(h:H a=some (.t xs)):dB K H a xs:=.inl (.inl h)
def Inv.list(I:Inv X ae U H s)(h:dw X.K H a xs):∃b:List Value,Vals xs b/\PlainL s.heap a b.toArray/\xs.length<=ald:=by
 rcases h with h|⟨o,b,n,C,hc,hd,aw,hz,r⟩
 .obtain⟨z,b,n,r,e⟩:=h.ok I.cf
  exact⟨b,r,⟨_,n,e,rfl,rfl,rfl⟩,z⟩
 .refine⟨b.toList,r,⟨o,n,I.f7 a o C,hc,hd,by simpa using aw⟩,?_⟩
  have e:=r.length;simp only[al0]at e;omega
def Inv.tuple(I:Inv X ae U H s)(h:dB X.K H a xs):∃b:List Value,Vals xs b/\IsTup s.heap a b.toArray/\xs.length<=ald:=by
 rcases h with h|⟨o,b,n,C,hc,aw,hz,r⟩
 .obtain⟨z,b,r,p⟩:=h.ok I.cf
  exact⟨b,r,p,z⟩
 .refine⟨b.toList,r,⟨o,I.f7 a o C,hc,n,by simpa using aw⟩,?_⟩
  have e:=r.length;simp only[al0]at e;omega
def Inv.Ot(I:Inv X ae U H s)(h:dw X.K H a xs)(h':dw X.K H a ys):xs=ys:=by
 obtain⟨b,r,⟨o,n,e,_,_,d⟩,_⟩:=I.list h;obtain⟨its',f,⟨g,i,c,_,_,d'⟩,_⟩:=I.list h';rw[e]at c;cases c;rw[d]at d';injection d' with C _
 have:b=its':=by simpa using congrArg Array.toList C
 subst this;exact r.inj f
def Inv.QN(I:Inv X ae U H s)(h:dB X.K H a xs)(h':dB X.K H a ys):xs=ys:=by
 obtain⟨b,r,⟨o,e,_,n,d⟩,_⟩:=I.tuple h;obtain⟨its',f,⟨g,c,_,i,d'⟩,_⟩:=I.tuple h';rw[e]at c;cases c;rw[d]at d';injection d' with C _
 have:b=its':=by simpa using congrArg Array.toList C
 subst this;exact r.inj f
end
abbrev aQ.mH(X:aQ)(E:dp):aQ:={ X with dS:=E }
abbrev aQ.gI(X:aQ):aQ:=X.mH λ_ _=>False
def aQ.Ok.mH{X:aQ}(ok:X.Ok)(E:dp):(X.mH E).Ok:=
 ⟨ok.mod,ok.kind,ok.glob,ok.blt,ok.above,ok.inj,ok.has,ok.vA,ok.hd,ok.frames,ok.AE,ok.yT,ok.bs,ok.lV,ok.w7,ok.vI,ok.kx,ok.qh⟩
def aQ.Ok.pJ{X:aQ}(ok:(X.mH E).Ok):X.Ok:=
 ⟨ok.mod,ok.kind,ok.glob,ok.blt,ok.above,ok.inj,ok.has,ok.vA,ok.hd,ok.frames,ok.AE,ok.yT,ok.bs,ok.lV,ok.w7,ok.vI,ok.kx,ok.qh⟩
section
variable{X:aQ}{ae:cZ}{U:St}{H:au}{s:alc}{E:dp}
def Inv.mH(I:Inv X ae U H s)(E:dp):Inv (X.mH E) ae U H s:=⟨I.ok.mH E,I.os,I.bare,I.base,I.loc,I.cell,I.free,I.lY,I.pin,I.cf,I.len⟩
def Inv.pJ(I:Inv (X.mH E) ae U H s):Inv X ae U H s:=⟨I.ok.pJ,I.os,I.bare,I.base,I.loc,I.cell,I.free,I.lY,I.pin,I.cf,I.len⟩
def vm.pJ{D:Ends}(h:vm (X.mH E) ae D f o):vm X ae D f o:=by
 cases f with
 |next=>obtain⟨U',a,I,q⟩:=h;exact⟨U',a,I.pJ,q⟩
 |brk=>obtain⟨U',a,I,q⟩:=h;exact⟨U',a,I.pJ,q⟩
 |cont=>obtain⟨U',a,I,q⟩:=h;exact⟨U',a,I.pJ,q⟩
 |ret u=>obtain⟨v,U',a,I,r,q⟩:=h;exact⟨v,U',a,I.pJ,r,q⟩
theorem b6.gI{t:TE}(h:b6 X.gI e t):b6 X e t:=λae s U H Q I hw=>
 al9 (h ae s U H Q (I.mH _) hw) (λ_ _ ⟨v,a,b,r,q⟩=>⟨v,a,b.pJ,r,q⟩) λ_ _ z=>alV z
theorem ip.gI{st:List Stmt}{t:gQ}(h:ip X.gI st t):ip X st t:=λae s U H D I hw=>
 al9 (h ae s U H D (I.mH _) hw) (λ_ _ q=>q.pJ) λ_ _ z=>alV z
end
section
variable{X:aQ}{st:Stmt}{rest:List Stmt}{t u:gQ}{e:Expr}{te:TE}{pos:Pos}
def af0:gQ:=λD U H=>D.bA U H
def af7(t u:gQ):gQ:=λD U H=>t { D with bA:=u D } U H
def aex:ip X [] af0:=λ_ _ U H _ I h=>aom ⟨U,H,I,h⟩
def PH(c:iJ X st t)(d:ip X rest u):ip X (st::rest) (af7 t u):=by
 intro a s U H D I h;refine wpAny_execs_cons (bZ (c a s U H { D with bA:=u D } I h) λf i q=>?_)
 cases f with
 |next=>
  obtain⟨U',b,g,q⟩:=q;exact d a i U' b D g q
 |ret v=>exact q|brk=>exact q|cont=>exact q
def PI(a:iJ X st t):ip X [st] t:=by
 intro b s U H D I h;refine wpAny_execs_cons (bZ (a b s U H D I h) λf c q=>?_)
 cases f with
 |next=>exact aom q
 |ret v=>exact q|brk=>exact q|cont=>exact q
def Inv.quiet{s:alc}(I:Inv X o U H s):interactive X.env=false:=by simp[interactive,I.ok.kind]
def afU(te:TE):gQ:=λD U H=>te U H λ_ a=>D.bA U a
def FT(he:b6 X e te)(aw:amI e none pos.line X.env=pure false:=by rfl):iJ X (.Expr e pos) (afU te):=by
 intro b s U H D I h;exact wpAny_Expr_any (bZ (he b s U H _ I h) λv f ⟨x,a,c,d,bB⟩=>⟨U,a,c,bB⟩) I.quiet aw
def af6(te:TE):gQ:=λD U H=>te U H D.b9
def FU(he:b6 X e te):iJ X (.Return (some e) pos) (af6 te):=by
 intro b s U H D I h;exact wpAny_Return_some (bZ (he b s U H _ I h) λv f ⟨x,a,d,c,bB⟩=>⟨x,U,a,d,c,bB⟩)
def afW(c:TT)(t u:gQ):gQ:=λD U H=>c U H λb a=>if b=true then t D U a else u D U a
def PF(n:iq X c o)(m:ip X a t)(l:ip X b u):iJ X (.If c a b pos) (afW o t u):=by
 intro f s U H D I h;refine wpAny_If (bZ (n f s U H _ I h) λd j k=>?_);obtain⟨g,i,bB⟩:=k
 cases d with
 |true=>exact m f j U g D i bB|false=>exact l f j U g D i bB
def afZ:gQ:=λ_ _ _=>False
def aew:iJ X st afZ:=λ_ _ _ _ _ _ h=>h.elim
end
abbrev iL:=V->St->au->(St->au->Prop)->Prop
abbrev p5:=List V->St->au->(St->au->Prop)->Prop
def oc(X:aQ)(a:Expr)(t:iL):Prop:=
 ∀(c:cZ)(s:alc)(U:St)(H:au)(v:V)(u:Value)(Q:St->au->Prop),Inv X c U H s->RelV v u->t v U H Q->
  wpAny (model X.prog X.w) X.A (anm a X.env u) (λ_ d=>∃U' b,Inv X c U' b d/\Q U' b) X.dS s
def p3(X:aQ)(dJ:List Expr)(t:p5):Prop:=
 ∀(b:cZ)(s:alc)(U:St)(H:au)(vs:List V)(us:List Value)(Q:St->au->Prop),Inv X b U H s->Vals vs us->t vs U H Q->
  wpAny (model X.prog X.w) X.A (assignInOrder ((al4 dJ X.env).map (·.2)) us) (λ_ c=>∃U' a,Inv X b U' a c/\Q U' a) X.dS s
abbrev BG:=V->V->V->au->(au->Prop)->Prop
def Hr(X:aQ)(t:BG):Prop:=
 ∀(b:cZ)(s:alc)(U:St)(H:au)(o i v:V)(cp c u:Value)(Q:au->Prop),Inv X b U H s->RelV o cp->RelV i c->RelV v u->t o i v H Q->
  wpAny (model X.prog X.w) X.A (setItem cp c u) (λ_ d=>∃a,Inv X b U a d/\Q a) X.dS s
section
variable{X:aQ}{pos:Pos}
def l0(i:Nat):iL:=λv U H Q=>Q (U.set i (some v)) H
def sh(hN:X.N.Nodup)(hi:X.N[i]? = some x)(a:Loc X.env.scope x)(c:X.fn x=true\/X.env.scope.names.lookup x=some .local:=by first|exact .inl rfl|exact .inr rfl|assumption):oc X (.Name x pos) (l0 i):=by
 intro e s U H v u Q I r h;exact wpAny_assign_Name (QB I hN hi a r (λd b=>⟨_,H,b,h⟩) c)
def Mu:p5:=λvs U H Q=>vs=[]/\Q U H
def Ms(t:iL)(u:p5):p5:=λvs U H Q=>∃v r,vs=v::r/\t v U H λU' a=>u r U' a Q
def PA:p3 X [] Mu:=by
 intro a s U H vs us Q I r h;obtain⟨e,h⟩:=h;subst e;exact assignInOrder_nil ⟨U,H,I,h⟩
def FN{e:Expr}{a:List Expr}{t:iL}{u:p5}(f:oc X e t)(g:p3 X a u)
  (aw:(al4 (e::a) X.env).map (·.2)=anm e X.env::(al4 a X.env).map (·.2):=by rfl):p3 X (e::a) (Ms t u):=by
 intro b s U H vs us Q I r h;obtain⟨v,m,aq,h⟩:=h;subst aq
 cases r with
 |cons r i=>
  rw[aw];refine assignInOrder_cons (bZ (f b s U H _ _ _ I r h) λ_ l d=>?_);obtain⟨k,c,j,bB⟩:=d;exact g b l k c _ _ Q j i bB
def Dr(K:aN)(n:Nat)(t:p5):iL:=λv U H Q=>∃a xs,v=.ref a/\dB K H a xs/\xs.length=n/\t xs U H Q
def FL{c:List Expr}{k:Nat}{t:p5}{n:Nat}(p:X.calm=true)(h:p3 X c t)
  (g:(al4 c X.env).length=n:=by rfl) (m:(al4 c X.env).findIdx? (·.1)=none:=by rfl):oc X (.Tuple c k pos) (Dr X.K n t):=by
 intro i s U H v u Q I r hw;obtain⟨a,xs,aq,f,hl,hw⟩:=hw;subst aq;cases r;obtain⟨q,d,l,hz⟩:=I.tuple f;refine assign_Tuple_tuple (I.ok.hd p) l (by simp[g,<-hl,d.length]) m λh' j=>?_
 exact h i _ U H xs _ Q (I.kept (t':=s.toks) λb o e=>j b o (alQ (alq e)) e) d hw
def VF(to a:TE)(t:BG):iL:=λv U H Q=>to U H λo b=>a U b λi c=>t o i v c λd=>Q U d
def Py{o i:Expr}{to d:TE}{t:BG}(f:b6 X o to)(hi:b6 X i d)(aw:Hr X t)
  (j:∀v,anm (.Subscript o i pos) X.env v=(do
   let cp <-am1 [v] (eval o X.env)
   let b <-am1 [v,cp] (eval i X.env)
   aoh pos
   am1 [v,cp,b] (setItem cp b v)
   release [v,cp,b] []):=by intro _;rfl):oc X (.Subscript o i pos) (VF to d t):=by
 intro c s U H v u Q I r h;rw[j];refine ak7 (amF (bZ (f c s U H _ I h) λcp z a=>?_));obtain⟨x,e,m,k,bB⟩:=a;refine ak7 (amF (bZ (hi c z U e _ m bB) λb s2 a=>?_));obtain⟨y,g,n,l,bY⟩:=a;refine ak7 (an8 (ak7 (amF (bZ (aw c s2 U g x y v cp b u _ n k l r bY) λ_ s3 a=>?_))));obtain⟨w,p,q⟩:=a;exact wpAny_release ⟨U,w,p,q⟩
def uV(b:TE)(g:iL):gQ:=λD U H=>b U H λx a=>g x U a D.bA
def FR{cg e:Expr}{b:TE}{g:iL}(he:b6 X e b)(d:oc X cg g)(aw:aoL [cg] e pos.line X.env=pure false:=by rfl)(hw:aoM [cg] e X.env=pure none:=by rfl)
  (f:(al4 [cg] X.env).map (·.2)=[anm cg X.env]:=by rfl):iJ X (.Assign [cg] e pos) (uV b g):=by
 intro a s U H D I h;refine wpAny_Assign_stores (bZ (he a s U H _ I h) λv k ⟨x,c,j,i,bB⟩=>?_) aw hw;rw[f];exact bZ (d a k U c x v _ j i bB) λ_ s2 q=>q
def FV(hN:X.N.Nodup)(hi:X.N[i]? = some x)(c:Loc X.env.scope x)(he:b6 X e te)(aw:amI e (some (.Name x pos')) pos.line X.env=pure false:=by rfl)(j:X.fn x=true\/X.env.scope.names.lookup x=some .local:=by first|exact .inl rfl|exact .inr rfl|assumption) :
  iJ X (.Assign [.Name x pos'] e pos) (uV te (l0 i)):=by
 intro b s U H D I h;refine wpAny_Assign_Name (bZ (he b s U H _ I h) λv k ⟨y,a,f,d,bB⟩=>?_) aw;exact QB f hN hi c d (λs2 g=>⟨_,a,g,bB⟩) j
end
section
variable{X:aQ}{pos:Pos}
def Gz(c:TT)(cL:gQ):gQ:=λD U H=>∃W:Nat->St->au->Prop,(∃m,W m U H)/\∀m U H,W m U H->
 c U H λb d=>if b=true then ∃N:St->au->Prop,(∀U' a,N U' a->∃e,e<m/\W e U' a)/\cL { D with bA:=N,cz:=N,bk:=D.bA } U d else D.bA U d
def PG(r:aoF (model X.prog X.w) X.A X.env X.dS)(E:iq X c o)(z:ip X body cL):iJ X (.While c body [] pos) (Gz o cL):=by
 intro i s U H D I h;obtain⟨W,⟨G,K⟩,turn⟩:=h;refine wpAny_While (codeAny_whileLoop (λn x=>∃U' p,Inv X i U' p x/\W n U' p) ?_ G ⟨U,H,I,K⟩);rintro n J ⟨g,q,B,F⟩;refine am2 r (bZ (E i J g q _ B (turn n g q F)) λb s2 y=>?_);obtain⟨t,u,bY⟩:=y
 cases b with
 |true=>
  obtain⟨N,hN,bY⟩:=bY;rw[if_pos rfl];refine am2 r (bZ (z i s2 g t _ u bY) λf s3 e=>?_)
  cases f with
  |next=>
   obtain⟨d,a,j,l⟩:=e;obtain⟨k,hm,m⟩:=hN d a l;exact⟨k,hm,d,a,j,m⟩
  |cont=>
   obtain⟨d,a,j,l⟩:=e;obtain⟨k,hm,m⟩:=hN d a l;exact⟨k,hm,d,a,j,m⟩
  |brk=>exact e|ret v=>exact e
 |false=>
  rw[if_neg alg];exact aom ⟨g,t,u,bY⟩
end
structure il where
 go:Nat->au->Prop
 pT:Nat->au->V->au->Prop
 stop:Nat->au->Prop
def hn(X:aQ)(a:cZ)(H:au)(b:Addr):Prop:=
 H b=none/\b≠X.env.locals/\b∉X.aX/\(b∈X.ex\/X.g4.heap.objs.size<=b)/\(∀x c,X.env.cells.lookup x=some c->c≠b)/\∀p∈X.nW++a,p.1≠b
def Inv.rC{H d:au}{s:alc}(I:Inv X o U H s)(a:s.heap.objs.size<=b)(f:d b=none):hn X o d b:=by
 refine⟨f,Nat.ne_of_gt (alO I.lt a),I.acQ a,.inr (alR I.pC a),λx c e z=>?_,λp g z=>?_⟩
 .obtain⟨v,q⟩:=I.cell x c e
  exact absurd (alO q.lt (by rw[z];exact a)) (al5 _)
 .exact absurd (alO (alq (I.pin p g).1) (by rw[z];exact a)) (al5 _)
structure Turn(P:aly)(w:World)(K:aN)(cg:Expr)(ct:il)(bf:List Addr)(it:Addr)(e5:Nat->Heap->Prop):Prop where
 mem:it∈bf
 obj:∀i h,e5 i h->∀b∈bf,∃o,h.get? b=some o/\∀v,o.data≠.cell v
 keep:∀i h h',e5 i h->(∀b∈bf,∀o,h.get? b=some o->h'.get? b=some o)->e5 i h'
 item:∀(X:aQ),X.prog=P->X.w=w->X.K=K->X.calm=true->∀(i:Nat)(ae:cZ)(s:alc)(U:St)(H:au)(E:dp),Inv X ae U H s->(∀b∈bf,hn X ae H b)->e5 i s.heap->ct.go i H->
  wpAny (model P w) X.A (pyNext (.ref it)) (λr s1=>∃u,r=some u/\
   wpAny (model P w) X.A (aon cg (.ref it) u) (λ_ s2=>∃x H',Inv X ae U H' s2/\RelV x u/\ct.pT i H x H'/\e5 (i+1) s2.heap/\∀b∈bf,H' b=none) E s1) E s
 done:∀(X:aQ),X.prog=P->X.w=w->X.K=K->X.calm=true->∀(i:Nat)(ae:cZ)(s:alc)(U:St)(H:au)(E:dp),Inv X ae U H s->(∀b∈bf,hn X ae H b)->e5 i s.heap->ct.stop i H->
  wpAny (model P w) X.A (pyNext (.ref it)) (λr s1=>r=none/\Inv X ae U H s1) E s
 self:∀(A:alI)(i:Nat)(s:alc)(Q:dp)(E:dp),e5 i s.heap->Q (.ref it) s->wpAny (model P w) A (pyIter (.ref it)) Q E s
abbrev TI:=St->au->(il->au->Prop)->Prop
def Hq(X:aQ)(c:cZ)(U:St)(cg:Expr)(R:il->au->Prop)(f:Value)(s2:alc):Prop:=
 ∃(it:Addr)(d:List Addr)(e5:Nat->Heap->Prop)(e:il)(a:au),f=.ref it/\Inv X c U a s2/\Turn X.prog X.w X.K cg e d it e5/\e5 0 s2.heap/\(∀b∈d,hn X c a b)/\R e a
def jK(X:aQ)(cg a:Expr)(wi:TI):Prop:=
 ∀(b:cZ)(s:alc)(U:St)(H:au)(R:il->au->Prop),Inv X b U H s->wi U H R->
  wpAny (model X.prog X.w) X.A (eval a X.env) (λv c=>wpAny (model X.prog X.w) X.A (pyIter v) (Hq X b U cg R) X.dS c) X.dS s
def vS{M:Model}{A:alI}{E:dp}{s:alc}{cg:Expr}{it:Addr}{u:Value}{o:Obj}{n:String}{vs:Array Value}{Q:Unit->alc->Prop}(b:s.heap.get? it=some o)(d:o.cls=.type n)(hd:o.data=.fields vs)
    (c:["enumerate","zip","dict_itemiterator","dict_reverseitemiterator","odict_iterator","itertools.zip_longest","itertools.pairwise"].contains n=false) (a:Q () s):wpAny M A (aon cg (.ref it) u) Q E s:=by
  unfold aon;cases cg<;>(cases u<;>first
        |exact alm a
        | (refine ak7 (wpAny_load b ?_)
           rw[d,hd];show wpAny M A (if(["enumerate","zip","dict_itemiterator","dict_reverseitemiterator","odict_iterator","itertools.zip_longest","itertools.pairwise"].contains n&&vs[0]? == some (anD _))=true then _ else _) Q E s;rw[if_neg (by intro h;rw[c,Bool.false_and]at h;cases h)];exact alm a))
def pZ(K:aN)(a:Addr):il:=
 ⟨λi H=>∃xs x,dw K H a xs/\xs[i]? = some x,λi H x b=>b=H/\∀xs,dw K H a xs->xs[i]? = some x,λi H=>∃xs,dw K H a xs/\xs.length<=i⟩
def sP(K:aN)(a:Addr):il:=
 ⟨λi H=>∃xs x,dB K H a xs/\xs[i]? = some x,λi H x b=>b=H/\∀xs,dB K H a xs->xs[i]? = some x,λi H=>∃xs,dB K H a xs/\xs.length<=i⟩
def mU(lo:Int)(n:Nat):il:=⟨λi _=>i<n,λi H x a=>a=H/\x=.int (lo+i),λi _=>n<=i⟩
def agA{P:aly}{w:World}{K:aN}{cg:Expr}(a it:Addr):Turn P w K cg (pZ K a) [it] it (λi h=>h.IsListIter it a i) where
 mem:=by simp
 obj:=λi h st b f=>by
  have e:b=it:=by simpa using f
  subst e;obtain⟨o,e,c,d⟩:=st;exact⟨o,e,λv z=>by rw[d]at z;cases z⟩
 keep:=λi h h' st k=>st.at λo e=>k it (by simp) o e
 item:=by
  intro X q hw F J i M s U H E I j st l;subst q hw F;obtain⟨xs,x,g,m⟩:=l;obtain⟨D,n,p,hz⟩:=I.list g;obtain⟨u,N,Q⟩:=n.get m;obtain⟨r,t,R,B,y,A⟩:=j it (by simp);refine wpAny_pyNext_list_item st p.isList (by simpa using N) λh' G S=>?_
  obtain⟨o,e,c,d⟩:=id G;exact⟨u,rfl,vS e c d (by decide) ⟨x,H,(I.turned (t':=s.toks) (λb o f e=>(S.2 b f).trans e) r t B y A),Q,⟨rfl,λT L=>by rw[I.Ot L g];exact m⟩,G,λb f=>(j b f).1⟩⟩
 done:=by
  intro X q hw F J i M s U H E I j st l;subst q hw F;obtain⟨xs,g,m⟩:=l;obtain⟨D,n,p,hz⟩:=I.list g;obtain⟨r,t,R,B,y,A⟩:=j it (by simp);have hl:=n.length;exact wpAny_pyNext_list_end (I.ok.hd J) st p.isList (by simp;omega) λh' O=>⟨rfl,I.turned (λb o f e=>O b o f e) r t B y A⟩
 self:=λ_ _ _ _ _ st h=>wpAny_pyIter_listiter st h
def agC{P:aly}{w:World}{K:aN}{cg:Expr}(a it:Addr):Turn P w K cg (sP K a) [it] it (λi h=>h.IsTupleIter it a i) where
 mem:=by simp
 obj:=λi h st b f=>by
  have e:b=it:=by simpa using f
  subst e;obtain⟨o,e,c,d⟩:=st;exact⟨o,e,λv z=>by rw[d]at z;cases z⟩
 keep:=λi h h' st k=>st.at λo e=>k it (by simp) o e
 item:=by
  intro X r hw F L i G s U H E I l st m;subst r hw F;obtain⟨xs,x,j,n⟩:=m;obtain⟨g,q,p,hz⟩:=I.tuple j;obtain⟨u,O,R⟩:=q.get n;obtain⟨t,y,S,D,A,B⟩:=l it (by simp);refine wpAny_pyNext_tuple_item st (show s.heap.IsTuple a g.toArray from p) (x:=u) (by simpa using O) λh' J T=>?_
  have N:Inv X G U H { s with heap:=h' }:=I.turned (t':=s.toks) (λb o f e=>(T.2 b f).trans e) t y D A B;obtain⟨o,e,c,d⟩:=id J;exact⟨u,rfl,vS (s:={ s with heap:=h' }) e c d (by decide) ⟨x,H,N,R,⟨rfl,λV M=>by rw[I.QN M j];exact n⟩,J,λb f=>(l b f).1⟩⟩
 done:=by
  intro X r hw F L i G s U H E I l st m;subst r hw F;obtain⟨xs,j,n⟩:=m;obtain⟨g,q,p,hz⟩:=I.tuple j;obtain⟨t,y,S,D,A,B⟩:=l it (by simp);have hl:=q.length;exact wpAny_pyNext_tuple_end (I.ok.hd L) st (show s.heap.IsTuple a g.toArray from p) (by simp;omega) λh' Q=>⟨rfl,I.turned (t':=s.toks) (λb o f e=>Q b o f e) t y D A B⟩
 self:=λ_ _ _ _ _ st h=>wpAny_pyIter_tupleiter st h
def agB{P:aly}{w:World}{K:aN}{cg:Expr}(it:Addr)(lo:Int)(n:Nat):Turn P w K cg (mU lo n) [it] it (λi h=>IsRangeIter h it (lo+(i:Nat)*1) ((n:Int)-(i:Nat)) 1) where
 mem:=by simp
 obj:=λi h st b a=>by
  have e:b=it:=by simpa using a
  subst e;exact⟨_,st,λv z=>by
   cases z⟩
 keep:=λi h h' st k=>k it (by simp) _ st
 item:=by
  intro X u hw x p i q s U H E I c st d;subst u hw x;obtain⟨f,g,D,m,j,l⟩:=c it (by simp);refine(Walks.range (w:=X.w) (I.ok.hd p) it lo 1 n).item i s _ _ d st λv h' tk y r F=>?_
  obtain⟨t,rfl⟩:=y;have A:Inv X q U H { s with heap:=h',toks:=tk }:=I.turned (λb o a e=>F b o (by simpa using a) e) f g m j l;refine⟨_,rfl,vS r rfl rfl (by decide) ⟨.int (lo+i),H,A,⟨t,?_⟩,⟨rfl,rfl⟩,r,λb a=>(c b a).1⟩⟩;rw[Int.mul_one]
 done:=by
  intro X u hw x p i q s U H E I c st d;obtain⟨f,g,D,m,j,l⟩:=c it (by simp);exact wpAny_pyNext_range_end (I.ok.hd p) st (by have:n<=i:=d;omega) λh' B=>⟨rfl,I.turned (λb o a e=>B b o a e) f g m j l⟩
 self:=λ_ _ _ _ _ st h=>wpAny_pyIter_rangeiter st h
section
variable{X:aQ}{cg:Expr}
def Zo(K:aN)(c:TE):TI:=λU H R=>c U H λx b=>∃a,x=.ref a/\(∃xs,dw K b a xs)/\R (pZ K a) b
def Zp(K:aN)(c:TE):TI:=λU H R=>c U H λx b=>∃a,x=.ref a/\(∃xs,dB K b a xs)/\R (sP K a) b
def PB(hl:b6 X l C):jK X cg l (Zo X.K C):=by
 intro k s U H R I h;refine bZ (hl k s U H _ I h) λv d i=>?_
 obtain⟨x,f,c,m,bB⟩:=i;obtain⟨a,e,⟨xs,g⟩,q⟩:=bB;subst e;cases m;obtain⟨n,r,p,hz⟩:=c.list g;refine am4 p.isList<|⟨d.heap.objs.size,[d.heap.objs.size],_,_,f,rfl,c.kept λb o e=>ak9 _ e,agA a _,⟨_,alk _ rfl,rfl,rfl⟩,λb j=>?_,q⟩
 have e:b=d.heap.objs.size:=by simpa using j
 subst e;exact c.rC (alf _) (c.cf.fresh (alf _))
def PC(hl:b6 X l C):jK X cg l (Zp X.K C):=by
 intro m s U H R I h;refine bZ (hl m s U H _ I h) λv d j=>?_
 obtain⟨x,g,c,n,bB⟩:=j;obtain⟨a,e,⟨xs,i⟩,q⟩:=bB;subst e;cases n;obtain⟨f,r,p,hz⟩:=c.tuple i;refine ano (show d.heap.IsTuple a f.toArray from p)<|⟨d.heap.objs.size,[d.heap.objs.size],_,_,g,rfl,c.kept λb o e=>ak9 _ e,agC a _,⟨_,alk _ rfl,rfl,rfl⟩,λb k=>?_,q⟩
 have e:b=d.heap.objs.size:=by simpa using k
 subst e;exact c.rC (alf _) (c.cf.fresh (alf _))
def P_{a:cZ}{U:St}{H:au}{s:alc}{R:il->au->Prop}{E:dp}{lo hi:Int}{t u v:Tok}{tk:Nat}(I:Inv X a U H s)(f:-(2 ^ 62)<=lo)(g:lo<2 ^ 62)(h:-(2 ^ 62)<=hi)(i:hi<2 ^ 62)
  (q:R (mU lo (hi-lo).toNat) H):wpAny (model X.prog X.w) X.A (pyIter (.ref s.heap.objs.size)) (Hq X a U cg R) E { s with heap:=s.heap.push { cls:=.type "range",data:=.fields #[.int lo t,.int hi u,.int 1 v] },toks:=tk }:=by
 refine wpAny_pyIter_range (IsRange.new ..) (small_one f g h i) ?_;have c:Inv X a U H { s with heap:=s.heap.push { cls:=.type "range",data:=.fields #[.int lo t,.int hi u,.int 1 v] },toks:=tk }:=I.kept λb o e=>ak9 _ e
 refine⟨(s.heap.push { cls:=.type "range",data:=.fields #[.int lo t,.int hi u,.int 1 v] }).objs.size,[(s.heap.push { cls:=.type "range",data:=.fields #[.int lo t,.int hi u,.int 1 v] }).objs.size],_,_,H,rfl,
  c.kept λb o e=>ak9 _ e,agB _ lo (hi-lo).toNat,?_,λb d=>?_,q⟩
 .have aq:lo+((0:Nat):Int)*1=lo:=by simp
  have aE:(((hi-lo).toNat:Nat):Int)-((0:Nat):Int)=Builtin.Range.rangeSize lo hi 1:=by rw[rangeSize_one];split<;>omega
  rw[aq,aE];exact alk _ rfl
 .have e:b=(s.heap.push { cls:=.type "range",data:=.fields #[.int lo t,.int hi u,.int 1 v] }).objs.size:=by simpa using d
  subst e;exact c.rC (alf _) (c.cf.fresh (alf _))
def Ea(b:fV):TI:=λU H R=>b U H λvs a=>∃j:Int,vs=[.int j]/\-(2 ^ 62)<=j/\j<2 ^ 62/\R (mU 0 j.toNat) a
def Eb(b:fV):TI:=λU H R=>b U H λvs a=>∃i j:Int,vs=[.int i,.int j]/\(-(2 ^ 62)<=i/\i<2 ^ 62/\-(2 ^ 62)<=j/\j<2 ^ 62)/\R (mU i (j-i).toNat) a
def FP(b:ee X "range")(hm:X.mg "range"=none)(d:g9 X [a] o)(aw:alJ [a] X.env=[(false,eval a X.env)]:=by rfl):jK X cg (.Call (.Name "range" p) [a] [] pos) (Ea o):=by
 intro c s U H R I h;refine Call_ (nK I b hm boot_range (amn (bZ (d pos c s U H _ I h) λus l ⟨vs,k,i,f,bB⟩=>?_) aw rfl));obtain⟨j,e,bB,bY,q⟩:=bB;subst e
 cases f with
 |cons r g=>
  cases g;obtain⟨t,rfl⟩:=r;exact call_range_1 (P_ i (by omega) (by omega) bB bY (by simpa using q))
def aej{p pos:Pos}(f:ee X "range")(hm:X.mg "range"=none)(k:g9 X [a,b] o)(aw:alJ [a,b] X.env=[(false,eval a X.env),(false,eval b X.env)]:=by rfl)(d:alJ [b] X.env=[(false,eval b X.env)]:=by rfl) :
  jK X cg (.Call (.Name "range" p) [a,b] [] pos) (Eb o):=by
 intro g s U H R I h;refine Call_ (nK I f hm boot_range (amn (bZ (k pos g s U H _ I h) λus y ⟨vs,x,n,m,bB⟩=>?_) (by rw[aw,d]) (by rw[d];rfl)));obtain⟨i,j,e,⟨bB,bY,u,w⟩,q⟩:=bB;subst e
 cases m with
 |cons r c=>
  cases c with
  |cons l c=>
   cases c;obtain⟨t,rfl⟩:=r;obtain⟨t',rfl⟩:=l;exact call_range_2 (P_ n bB bY u w q)
def xx(wi:TI)(g:iL)(cL:gQ):gQ:=λD U H=>wi U H λb d=>∃W:Nat->Nat->St->au->Prop,(∃m,W 0 m U d)/\∀i m U H,W i m U H->
 (b.stop i H/\D.bA U H)\/(b.go i H/\∃N:St->au->Prop,(∀U' a,N U' a->∃c,c<m/\W (i+1) c U' a)/\∀x a,b.pT i H x a->g x U a λf e=>cL { D with bA:=N,cz:=N,bk:=D.bA } f e)
def uG(a:List Addr)(h:Heap):List (Addr×Obj):=a.filterMap λb=>(h.get? b).map λo=>(b,o)
def z1{h:Heap}(a:b∈C)(e:h.get? b=some o):(b,o)∈uG C h:=List.mem_filterMap.mpr ⟨b,a,by rw[e];rfl⟩
def ac1{h:Heap}(a:p∈uG C h):p.1∈C/\h.get? p.1=some p.2:=by
 obtain⟨b,c,e⟩:=List.mem_filterMap.mp a
 cases q:h.get? b with
 |none=>rw[q]at e;cases e
 |some o=>
  rw[q]at e;have d:=alE e;subst d;exact⟨c,q⟩
def Inv.pinned{s:alc}(I:Inv X C U H s)(k:∀b∈bf,hn X C H b)(f:∀b∈bf,∃o,s.heap.get? b=some o/\∀v,o.data≠.cell v):Inv X (C++uG bf s.heap) U H s:=
 I.PD λp g=>(al6.mp g).elim (λz=>I.pin p (alN _ z)) λz=>by
  obtain⟨a,e⟩:=ac1 z;obtain⟨h,i,j,_⟩:=k p.1 a;obtain⟨o,c,d⟩:=f p.1 a;rw[e]at c;cases c;exact⟨e,h,i,j,d⟩
def Inv.xI{s:alc}(I:Inv X (o++pl) U H s):Inv X o U H s:=I.PD λp a=>I.pin p (alN _ (List.mem_append_left _ a))
def PE{j:Expr}{body:List Stmt}{wi:TI}{g:iL}{cL:gQ}{pos:Pos}(B:aoF (model X.prog X.w) X.A X.env X.dS)(hc:X.calm=true)(hi:jK X cg j wi)(aK:oc X cg g)(a:ip X body cL)
  (aw:k4 X j:=by intro _;rfl):iJ X (.For cg j body [] pos) (xx wi g cL):=by
 intro z s U H D I h;refine wpAny_For (bZ (hi z s U H _ I h) λv s1 ab=>bZ ab λzo s2 af=>?_) aw;obtain⟨it,E,e5,ct,aJ,e,cc,T,bM,Z,W,⟨m0,xK⟩,turn⟩:=af;subst e;have Q:∀{q:au},(∀b∈E,q b=none)->∀b∈E,hn X z q b:=λaB b a=>⟨aB b a,(Z b a).2⟩
 refine codeAny_forLoop_any (λn V=>∃i U' q,Inv X z U' q V/\e5 i V.heap/\(∀b∈E,q b=none)/\W i n U' q) ?_ m0 ⟨0,U,aJ,cc,bM,λb a=>(Z b a).1,xK⟩;rintro n s3 ⟨i,F,J,Y,C,S,xM⟩;rcases turn i n F J xM with⟨stop,iW⟩|⟨go,N,hN,step⟩
 .refine am2 B (bZ (T.done X rfl rfl rfl hc i z s3 F J X.dS Y (Q S) C stop) λr s4 y=>?_)
  obtain⟨K,n'⟩:=y;subst K;exact aom ⟨F,J,n',iW⟩
 .refine am2 B (bZ (T.item X rfl rfl rfl hc i z s3 F J X.dS Y (Q S) C go) λr s4 y=>?_)
  obtain⟨u,K,cJ⟩:=y;subst K;refine am2 B (bZ cJ λ_ s5 y=>?_);obtain⟨x,kg,sN,F6,Bf,R,yY⟩:=y;refine am2 B (bZ (aK _ s5 F kg x u _ (sN.pinned (Q yY) (T.obj _ _ R)) F6 (step x kg Bf)) λ_ g0 y=>?_);obtain⟨O,RC,vf,uI⟩:=y;refine am2 B (bZ (a _ g0 O RC _ vf uI) λf P t=>?_);have c:∀{p:St}{k:au},Inv X (z++uG E s5.heap) p k P->N p k->∃m,m<n/\∃i U' q,Inv X z U' q P/\e5 i P.heap/\(∀b∈E,q b=none)/\W i m U' q:=λ{p k} l G=>by
   obtain⟨gn,hm,L⟩:=hN p k G;refine⟨gn,hm,i+1,p,k,l.xI,T.keep _ _ _ R λb a o e=>(l.pin (b,o) (alN _ (alN _ (z1 a e)))).1,λb a=>?_,L⟩;obtain⟨o,e,d⟩:=T.obj _ _ R b a;exact(l.pin (b,o) (alN _ (alN _ (z1 a e)))).2.1
  cases f with
  |next=>obtain⟨p,k,l,G⟩:=t;exact c l G
  |cont=>obtain⟨p,k,l,G⟩:=t;exact c l G
  |brk=>obtain⟨p,k,l,t⟩:=t;exact⟨p,k,l.xI,t⟩
  |ret v=>obtain⟨M,p,k,l,F7,t⟩:=t;exact⟨M,p,k,l.xI,F7,t⟩
end
abbrev fm:=V->V->au->cI->Prop
def d0(X:aQ)(f:Value->Value->Sem Value)(r:fm):Prop:=
 ∀(a:cZ)(s:alc)(U:St)(H:au)(x y:V)(v u:Value)(Q:cI),Inv X a U H s->RelV x v->RelV y u->r x y H Q->
  wpAny (model X.prog X.w) X.A (f v u) (ij X a U Q) X.dS s
def BI(X:aQ)(f:Value->Sem Value)(r:V->au->cI->Prop):Prop:=
 ∀(a:cZ)(s:alc)(U:St)(H:au)(x:V)(v:Value)(Q:cI),Inv X a U H s->RelV x v->r x H Q->
  wpAny (model X.prog X.w) X.A (f v) (ij X a U Q) X.dS s
def kc(X:aQ)(f:Value)(r:List V->au->cI->Prop):Prop:=
 ∀(a:cZ)(s:alc)(U:St)(H:au)(xs:List V)(us:List Value)(Q:cI),Inv X a U H s->Vals xs us->r xs H Q->
  wpAny (model X.prog X.w) X.A (call f us) (ij X a U Q) X.dS s
def xA(r:fm)(c cL:TE):TE:=λU H Q=>c U H λx a=>cL U a λy b=>r x y b Q
def agb(r:V->au->cI->Prop)(b:TE):TE:=λU H Q=>b U H λx a=>r x a Q
def j8(C:Int->Int->Prop)(g:Int->Int->V):fm:=λx y H Q=>∃i j,x=.int i/\y=.int j/\C i j/\Q (g i j) H
def hW(g:Int->Int->V):fm:=λx y H Q=>∃i j,x=.int i/\y=.int j/\Q (g i j) H
def P9(g:Int->V):V->au->cI->Prop:=λx H Q=>∃i,x=.int i/\Q (g i) H
section
variable{X:aQ}{a b:Expr}{bR cL:TE}{pos:Pos}
def Cr(j:b6 X a bR)(i:b6 X b cL){d:cZ}{s:alc}{U:St}{H:au}{R:V->V->au->Prop}(I:Inv X d U H s)
  (h:bR U H λx e=>cL U e λy c=>R x y c) {Q:dp}{f:Value->Value->Sem Value}
  (q:∀v u s2 x y c,Inv X d U c s2->RelV x v->RelV y u->R x y c->wpAny (model X.prog X.w) X.A (f v u) Q X.dS s2) :
  wpAny (model X.prog X.w) X.A (eval a X.env) (λv p=>wpAny (model X.prog X.w) X.A (eval b X.env) (λu r=>wpAny (model X.prog X.w) X.A (f v u) Q X.dS r) X.dS p) X.dS s:=by
 refine bZ (j d s U H _ I h) λv t g=>?_
 obtain⟨x,e,m,k,bB⟩:=g;refine bZ (i d t U e _ m bB) λu s2 g=>?_
 obtain⟨y,c,n,l,bY⟩:=g;exact q v u s2 x y c n k l bY
def aed{op:Operator}{r:fm}(c:d0 X (amQ op) r)(i:b6 X a bR)(f:b6 X b cL):b6 X (.BinOp a op b pos) (xA r bR cL):=by
 intro g s U H Q I h;exact wpAny_BinOp (Cr i f I h λv u s2 x y e k d j q=>c g s2 U e x y v u Q k d j q)
def aeg{op:UnaryOp}{r:V->au->cI->Prop}(e:BI X (unaryOp op) r)(f:b6 X a bR):b6 X (.UnaryOp op a pos) (agb r bR):=by
 intro c s U H Q I h;exact UnaryOp_ (bZ (f c s U H _ I h) λv j ⟨x,d,i,g,bB⟩=>e c j U d x v Q i g bB)
def uA{f:Value->Value->Sem Value}{C:Int->Int->Prop}{g:Int->Int->Int}
  (c:∀(i j:Int)(t u:Tok)(s:alc)(Q:dp)(E:dp),C i j->Q (.int (g i j) s.toks) { s with toks:=s.toks+1 }->wpAny (model X.prog X.w) X.A (f (.int i t) (.int j u)) Q E s) :
  d0 X f (j8 C λi j=>.int (g i j)):=by
 intro l s U H x y v u Q I d e h;obtain⟨i,j,rfl,rfl,k,q⟩:=h;obtain⟨t,rfl⟩:=d;obtain⟨t',rfl⟩:=e;exact c i j t t' s _ _ k ⟨.int (g i j),H,I.tok _,⟨_,rfl⟩,q⟩
def Ak{f:Value->Value->Sem Value}{g:Int->Int->Int}
  (c:∀(i j:Int)(t u:Tok)(s:alc)(Q:dp)(E:dp),Q (.int (g i j) s.toks) { s with toks:=s.toks+1 }->wpAny (model X.prog X.w) X.A (f (.int i t) (.int j u)) Q E s) :
  d0 X f (hW λi j=>.int (g i j)):=by
 intro k s U H x y v u Q I d e h;obtain⟨i,j,rfl,rfl,q⟩:=h;obtain⟨t,rfl⟩:=d;obtain⟨t',rfl⟩:=e;exact c i j t t' s _ _ ⟨.int (g i j),H,I.tok _,⟨_,rfl⟩,q⟩
def Aj{f:Value->Value->Sem Value}{g:Int->Int->Bool}
  (c:∀(i j:Int)(t u:Tok)(s:alc)(Q:dp)(E:dp),Q (.bool (g i j)) s->wpAny (model X.prog X.w) X.A (f (.int i t) (.int j u)) Q E s) :
  d0 X f (hW λi j=>.av (g i j)):=by
 intro k s U H x y v u Q I d e h;obtain⟨i,j,rfl,rfl,q⟩:=h;obtain⟨t,rfl⟩:=d;obtain⟨t',rfl⟩:=e;exact c i j t t' s _ _ ⟨.av (g i j),H,I,rfl,q⟩
def x2(i j:Int):Prop:=0<=j/\j<=1000000/\i.natAbs<2 ^ 64
def x1(i j:Int):Prop:=(-(2 ^ 64)<i/\i<2 ^ 64)\/(-(2 ^ 64)<j/\j<2 ^ 64)
def x1.ok{i j:Int}(h:x1 i j):IntMulOk i j:=by
 rcases h with⟨o,C⟩|⟨o,C⟩
 .exact .of_left (intBits_le_64 o C)
 .exact .of_right (intBits_le_64 o C)
def agE(k:Nat):(0:Int)<=2 ^ k:=Int.natCast_nonneg _
def ac3:d0 X (amQ .Add) (hW λi j=>.int (i+j)):=Ak λ_ _ _ _ _ _ _ q=>add_int q
def adk:d0 X (amQ .Sub) (hW λi j=>.int (i-j)):=Ak λ_ _ _ _ _ _ _ q=>sub_int q
def adb:d0 X (amQ .Mod) (j8 (λ_ j=>0<j) λi j=>.int (i % j)):=uA λi j _ _ _ _ _ c q=>by
 exact mod_int' (by omega) (by rw[Int.fmod_eq_emod_of_nonneg i (by omega)];exact q)
def adg:d0 X (amQ .Pow) (j8 x2 λi j=>.int (i ^ j.toNat)):=uA λ_ _ _ _ _ _ _ c q=>pow_int_small c.1 c.2.1 c.2.2 q
def adi:d0 X (amQ .LShift) (j8 x2 λi j=>.int (i*2 ^ j.toNat)):=uA λ_ _ _ _ _ _ _ c q=>lshift_int_small c.1 c.2.1 c.2.2 q
def adj:d0 X (amQ .RShift) (j8 (λ_ j=>0<=j) λi j=>.int (i / 2 ^ j.toNat)):=uA λi j _ _ _ _ _ c q=>
 rshift_int c (by rw[aoN i (agE _)];exact q)
def ac5:d0 X (amQ .BitAnd) (hW λi j=>.int (amJ i j)):=Ak λ_ _ _ _ _ _ _ q=>and_int q
def adf:d0 X (amQ .BitOr) (hW λi j=>.int (an9 i j)):=Ak λ_ _ _ _ _ _ _ q=>or_int q
def agJ{f:Value->Sem Value}{g:Int->Int}
  (c:∀(i:Int)(t:Tok)(s:alc)(Q:dp)(E:dp),Q (.int (g i) s.toks) { s with toks:=s.toks+1 }->wpAny (model X.prog X.w) X.A (f (.int i t)) Q E s) :
  BI X f (P9 λi=>.int (g i)):=by
 intro e s U H x v Q I d h;obtain⟨i,rfl,q⟩:=h;obtain⟨t,rfl⟩:=d;exact c i t s _ _ ⟨.int (g i),H,I.tok _,⟨_,rfl⟩,q⟩
def agL:BI X (unaryOp .USub) (P9 λi=>.int (-i)):=agJ λ_ _ _ _ _ q=>neg_int q
end
section
variable{X:aQ}{a b c:Expr}{bR cL n2:TE}{pos:Pos}
def De{s:alc}{Q:cI}(I:Inv X o U H s)(q:Q (.av k) H)(e:k=C):ij X o U Q (.bool C) s:=by
 subst e;exact⟨.av k,H,I,rfl,q⟩
def FA:d0 X (alY .Lt) (hW λi j=>.av (decide (i<j))):=Aj λ_ _ _ _ _ _ _ q=>lt_int q
def sf:d0 X (alY .LtE) (hW λi j=>.av (decide (i<=j))):=Aj λ_ _ _ _ _ _ _ q=>le_int q
def ac8:d0 X (alY .Gt) (hW λi j=>.av (decide (j<i))):=Aj λ_ _ _ _ _ _ _ q=>gt_int q
def Pc:d0 X (alY .GtE) (hW λi j=>.av (decide (j<=i))):=Aj λ_ _ _ _ _ _ _ q=>ge_int q
def Pe:d0 X (alY .In) (λx y H Q=>∃i j,x=.str i/\y=.str j/\Q (.av (!(anj j i 0 j.length 1).isEmpty)) H):=by
 intro f s U H x y v u Q I d e h;obtain⟨i,j,rfl,rfl,q⟩:=h;obtain⟨t,rfl⟩:=d;obtain⟨t',rfl⟩:=e;exact in_str (De I q rfl)
def Pf:d0 X (alY .Is) (λx y H Q=>y=.aH/\Q (.av (decide (x=.aH))) H):=by
 intro f s U H x y v u Q I d e h;obtain⟨rfl,q⟩:=h;cases e;refine is_none_gen (De I q ?_);cases x<;>(obtain⟨t,rfl⟩:=d;rfl)
def Pg:d0 X (alY .IsNot) (λx y H Q=>y=.aH/\Q (.av (!decide (x=.aH))) H):=by
 intro f s U H x y v u Q I d e h;obtain⟨rfl,q⟩:=h;cases e;refine isnot_none_gen (De I q ?_);cases x<;>(obtain⟨t,rfl⟩:=d;rfl)
def iy(b:Expr){op:CmpOp}(h:op≠.In:=by decide)(d:op≠.NotIn:=by decide):amV op b=false:=by
 have aq:(op==CmpOp.In)=false:=by cases op<;>first|rfl|exact absurd rfl h
 have aE:(op==CmpOp.NotIn)=false:=by cases op<;>first|rfl|exact absurd rfl d
 cases b<;>simp[amV,aq,aE]
def ad1{op:CmpOp}{r:fm}(d:d0 X (alY op) r)(j:b6 X a bR)(g:b6 X b cL)(hm:amV op b=false):b6 X (.Compare a [op] [b] pos) (xA r bR cL):=by
 intro i s U H Q I h;exact wpAny_Compare1 (Cr j g I h λv u s2 x y f l e k q=>d i s2 U f x y v u Q l e k q) hm
def xB(t:TE):TT:=λU H Q=>t U H λx d=>∃k,x=.av k/\Q k d
theorem aez{op:CmpOp}{r:fm}(g:d0 X (alY op) r)(l:b6 X a bR)(j:b6 X b cL)(hm:amV op b=false):iq X (.Compare a [op] [b] pos) (xB (xA r bR cL)):=by
 intro d s U H Q I h;refine wpAny_isTrue_Compare1 (bZ (l d s U H _ I h) λv D ⟨x,f,p,m,bB⟩=>bZ (j d D U f _ p bB) λu s2 ⟨y,i,q,n,bY⟩=>
  bZ (g d s2 U i x y v u _ q m n bY) λc s3 ⟨z,A,t,B,k,e,w⟩=>?_) hm
 subst e;cases B;exact ami ⟨A,t,w⟩
def Gx(r g:fm)(bR cL n2:TE):TE:=λU H Q=>bR U H λx e=>cL U e λy f=>r x y f λz d=>∃k,z=.av k/\
 (if k=true then n2 U d λh i=>g y h i Q else Q (.av false) d)
def ad0{op g:CmpOp}{r i:fm}(q:d0 X (alY op) r)(J:d0 X (alY g) i)(A:b6 X a bR)(w:b6 X b cL)(K:b6 X c n2)
  (hm:lastMarks [op,g] [b,c]=false:=by with_unfolding_all rfl):b6 X (.Compare a [op,g] [b,c] pos) (Gx r i bR cL n2):=by
 intro f s U H Q I h;refine Compare_chain (bZ (A f s U H _ I h) λv P ⟨x,p,D,B,bB⟩=>chain_link (bZ (w f P U p _ D bB) λu s2 ⟨y,t,E,j,bY⟩=>
  bZ (q f s2 U t x y v u _ E B j bY) λd s3 ⟨z,n,l,G,k,e,m⟩=>?_)) hm
 subst e;cases G;refine ami ?_
 cases k with
 |false=>exact ite_ff ⟨.av false,n,l,rfl,m⟩|true=>exact ite_tt (chain_last (bZ (K f s3 U n _ l m) λF R ⟨N,M,O,S,L⟩=>J f R U M y N u F Q O j S L))
def aey{op g:CmpOp}{r i:fm}(w:d0 X (alY op) r)(N:d0 X (alY g) i)(E:b6 X a bR)(D:b6 X b cL)(O:b6 X c n2)
  (hm:lastMarks [op,g] [b,c]=false:=by with_unfolding_all rfl):iq X (.Compare a [op,g] [b,c] pos) (xB (Gx r i bR cL n2)):=by
 intro f s U H Q I h;refine isTrue_chain (bZ (E f s U H _ I h) λv Y ⟨x,t,J,F,bB⟩=>test_link (bZ (D f Y U t _ J bB) λu s2 ⟨y,A,K,j,bY⟩=>
  bZ (w f s2 U A x y v u _ K F j bY) λd s3 ⟨z,n,l,M,k,e,m⟩=>?_)) hm
 subst e;cases M;refine ami ?_
 cases k with
 |false=>
  obtain⟨jZ,G,P⟩:=m;cases G;exact ite_ff ⟨n,l,P⟩
 |true=>
  refine ite_tt (test_last (bZ (O f s3 U n _ l m) λL Z ⟨V,S,W,C,R⟩=>bZ (N f Z U S y V u L _ W j C R) λd' s5 B=>?_));obtain⟨eZ,T,o,q,eA,aE,p⟩:=B;subst aE;cases q;exact ami ⟨T,o,p⟩
def tU:(ald:Nat)<2 ^ 63:=by decide
def ac4:d0 X (amQ .Add) (λx y H Q=>∃i j,x=.str i/\y=.str j/\i.length+j.length<=ald/\Q (.str (i++j)) H):=by
 intro f s U H x y v u Q I d e h;obtain⟨i,j,rfl,rfl,hz,q⟩:=h;obtain⟨t,rfl⟩:=d;obtain⟨t',rfl⟩:=e;exact add_str (λt' tk=>⟨.str (i++j),H,I.tok _,⟨_,rfl⟩,q⟩) hz
def vals1(r:Vals [x] us):∃u,us=[u]/\RelV x u:=by
 cases r with
 |cons d e=>cases e;exact⟨_,rfl,d⟩
def vals2(r:Vals [x,y] us):∃u d,us=[u,d]/\RelV x u/\RelV y d:=by
 cases r with
 |cons e f=>
  cases f with
  |cons g h=>cases h;exact⟨_,_,rfl,e,g⟩
def Ue:kc X (.builtin "abs") (λxs H Q=>∃i,xs=[.int i]/\Q (.int (if i<0 then -i else i)) H):=by
 intro d s U H xs us Q I r h;obtain⟨i,rfl,q⟩:=h;obtain⟨u,rfl,t,rfl⟩:=vals1 r;exact call_abs_int λu tk=>⟨.int (if i<0 then -i else i),H,I.tok _,⟨_,rfl⟩,q⟩
def Um(e:X.calm=true):kc X (.builtin "max") (λxs H Q=>∃i j,xs=[.int i,.int j]/\Q (.int (if j > i then j else i)) H):=by
 intro f s U H xs us Q I r h;obtain⟨i,j,rfl,q⟩:=h;obtain⟨u,g,rfl,⟨t,rfl⟩,⟨t',rfl⟩⟩:=vals2 r;refine max_two_ints (I.ok.hd e) λh' tk k=>⟨_,H,I.kept k,?_,q⟩
 by_cases d:j > i
 .rw[if_pos d,if_pos d];exact⟨_,rfl⟩
 .rw[if_neg d,if_neg d];exact⟨_,rfl⟩
end
structure q6(h:Heap)(x cj C:Addr)(eu:bp):Prop where
 obj:h.get? x=some (anO C cj)
 ns:h.Ns1 cj eu
 ne:cj≠x
def aaH{h:Heap}{d:bp}(n:h.Ns1 C d):∃c,h.get? C=some c/\∀name,W.lookIn name c=some (d name):=by
 obtain⟨o,b,cv,g,hd,j,_,hm⟩:=n;refine⟨o,g,λname=>?_⟩;have e:=hm name;unfold nsFind findBy at e;rw[<-Array.find?_toList]at e;unfold W.lookIn;rw[hd];dsimp only;split
 .rename_i y q
  rw[q]at e;exact congrArg some e
 .rename_i q
  rw[q]at e;have a:b.toList.any (·.refKey)=false:=by
   rw[List.any_eq_false];intro y i;obtain⟨z,t,k⟩:=j y (Array.mem_toList_iff.mp i);simp[DictEntry.refKey,k]
  have f:¬b.toList.any (·.refKey)=true:=by rw[a];exact alg
  rw[if_neg f];exact congrArg some e
def q6.look{b:bp}(I:q6 h x U C b):∃a,W.InstAt h x (anO C U) C (some a)/\∀name,W.lookIn name a=some (b name):=
 let⟨a,o,hl⟩:=aaH I.ns
 ⟨a,⟨I.obj,rfl,rfl,o⟩,hl⟩
section
variable{prog:aly}{w:World}{A:alI}{E:dp}{s:alc}{K:aN}{x cj C f:Addr}{eu:bp}{name:Str}{v:Value}
def get_map{a:Bool}{Q:dp}(X:K.In s.heap)(I:q6 s.heap x cj C eu)(b:aoY K C name=true)(dh:apl K C=true)
  (c:am3 K (.ref C) name=some none) (d:eu name=some v) (g:W.handedIn v=true) (h:Q v { s with toks:=s.toks+1 }) :
  wpAny (model prog w) A (getAttr (.ref x) name a) Q E s:=by
 obtain⟨i,e,hl⟩:=I.look;exact W.get_value X e (W.plainGet_of b).1 (W.findObj_own dh c rfl (by rw[hl,d])) g h
def VT{pl:Sem Bool}{Q:Value×List Value->alc->Prop}(X:K.In s.heap)(I:q6 s.heap x cj C eu)(a:aoY K C name=true)
  (g:am3 K (.ref C) name=some (some (.ref f))) (b:W.isFn K (.ref f)=true) (c:eu name=none) (h:Q (.ref f,[.ref x]) s) :
  wpAny (model prog w) A (apg (.ref x) name pl) Q E s:=by
 obtain⟨e,d,hl⟩:=I.look;exact W.method_fn X d (W.plainGet_of a).1 (W.plainGet_of a).2 g (beq_iff_eq.mp b) (by show(W.lookIn name e).map (·.isSome)=some false;rw[hl,c];rfl) h
def afj{ns:List Str}{Q:Unit->alc->Prop}(X:K.In s.heap)(I:q6 s.heap x cj C eu)
  (aw:am3 K (.ref C) "__setattr__"=some (some (.builtin "object.__setattr__"))) (k:W.plainOver K C=true) (p:W.takerIn K C name=some none) (dh:apl K C=true)
  (hw:Within eu ns) (t:ns.length<=ald)
  (h:∀h',q6 h' x cj C (λy=>if y=name then some v else eu y)->ao4 cj s.heap h'->Q () { s with heap:=h',toks:=s.toks+2 }) :
  wpAny (model prog w) A (setAttr (.ref x) name v) Q E s:=by
 obtain⟨r,a,hl⟩:=I.look;refine W.set_plain X a aw (W.osa_open X a k p λb=>?_);obtain⟨cd,q,e⟩:=W.any_some dh;refine ak7 (alm (ak7 (ak7 (wpAny_loadPart I.obj (ak7 (W.Looks.here (W.looks_clsIn X q) ?_))))));rw[e];refine alm (ak7 (alm (ak7 ?_)));refine wpAny_nsSet1 I.ns λh' d c=>?_
 obtain⟨l,n,m,i,j,g⟩:=d.count (Within.cons name v hw);refine ak7 (wpAny_lookBehind i (by rw[j];exact pastItsLine_dict (alR g (by rw[alP];omega))) ?_);exact alm (h _ ⟨(c.2 _ (anG I.ne)).trans I.obj,d,I.ne⟩ c)
def aaW{R:Result->alc->Prop}{vs:List Value}{a:List (Str×Value)}(X:K.In s.heap)(hm:W.makesIn K C=true)
  (hi:am3 K (.ref C) "__init__"=some (some (.ref f))) (b:W.typeIn K (.ref f)=some (.type "function"))
  (h:anH (model prog w) (A.under (.builtin "type.__call__" ⟨.ref C::vs,a⟩)) (.call (.ref f) ⟨.ref (s.heap.objs.size+1)::vs,a⟩) (W.InitBack (s.heap.objs.size+1) R)
   { s with heap:=(s.heap.push anr).push (anO C s.heap.objs.size) }) :
  anH (model prog w) A (.call (.ref C) ⟨vs,a⟩) R s:=W.make_core (W.makes_of X hm) (W.looks_findIn X hi) (λself=>W.bind_fn X self b) (.inl rfl) h
end
def iz(f:Str)(v:V):List (Str×V)->List (Str×V)
 |[]=>[(f,v)]
 |(g,x)::r=>if g=f then(g,v)::r else(g,x)::iz f v r
theorem Ov(f g:Str)(v:V):∀aX:List (Str×V),(iz f v aX).lookup g=if g=f then some v else aX.lookup g
 |[]=>by
  show amE g [(f,v)]=_
  by_cases h:g=f
  .have a:(g==f)=true:=beq_iff_eq.mpr h
   simp only[amE,a,if_pos h]
  .have a:(g==f)=false:=beq_eq_false_iff_ne.mpr h
   simp only[amE,a,if_neg h]
 |(k,x)::r=>by
  have c:=Ov f g v r;rw[show iz f v ((k,x)::r)=(if k=f then(k,v)::r else(k,x)::iz f v r)from rfl]
  by_cases b:k=f
  .rw[if_pos b]
   by_cases h:g=k
   .have a:(g==k)=true:=beq_iff_eq.mpr h
    simp only[amE,a,if_pos (h.trans b)]
   .have a:(g==k)=false:=beq_eq_false_iff_ne.mpr h
    simp only[amE,a,if_neg (λe:g=f=>h (e.trans b.symm))]
  .rw[if_neg b]
   by_cases h:g=k
   .have a:(g==k)=true:=beq_iff_eq.mpr h
    simp only[amE,a,if_neg (λe:g=f=>b (h.symm.trans e))]
   .have a:(g==k)=false:=beq_eq_false_iff_ne.mpr h
    simp only[amE,a];exact c
theorem Es(f:Str)(v:V):∀aX:List (Str×V),f∈(iz f v aX).map (·.1)/\∀g,g∈aX.map (·.1)->g∈(iz f v aX).map (·.1)
 |[]=>⟨by simp[iz],λg h=>by simp at h⟩
 |(k,x)::r=>by
  obtain⟨b,c⟩:=Es f v r;rw[show iz f v ((k,x)::r)=(if k=f then(k,v)::r else(k,x)::iz f v r)from rfl]
  by_cases a:k=f
  .rw[if_pos a]
   subst a;exact⟨by simp,λg h=>by simpa using h⟩
  .rw[if_neg a]
   refine⟨?_,λg h=>?_⟩
   .rw[alv]
    exact alh _ b
   .rw[alv]at h ⊢
    rcases alj.mp h with e|e
    .exact alj.mpr (.inl e)
    .exact alh _ (c g e)
theorem Om(f:Str)(v:V):∀aX:List (Str×V),(iz f v aX).length<=aX.length+1
 |[]=>by simp[iz]|(k,x)::r=>by
  have b:=Om f v r;rw[show iz f v ((k,x)::r)=(if k=f then(k,v)::r else(k,x)::iz f v r)from rfl]
  by_cases a:k=f
  .rw[if_pos a,alP,alP];omega
  .rw[if_neg a,alP,alP];omega
def mY.some_of{v:V}(r:mY (some v) o):∃u,o=some u/\RelV v u:=by
 cases o with
 |none=>exact(show False from r).elim|some u=>exact⟨u,rfl,r⟩
def mY.none_of(r:mY none o):o=none:=by
 cases o with
 |none=>rfl|some u=>exact(show False from r).elim
def Wo{v:V}(r:RelV v u):W.handedIn u=true:=by
 cases v with
 |aH=>cases(show u=Value.none from r);rfl
 |av b=>cases(show u=aps b from r);rfl
 |int i=>obtain⟨t,e⟩:=(show ∃t,u=apC i t from r);cases e;rfl
 |str x=>obtain⟨t,e⟩:=(show ∃t,u=apD x t from r);cases e;rfl
 |yy b=>obtain⟨t,e⟩:=(show ∃t,u=Value.bytes b t from r);cases e;rfl
 |yW b=>obtain⟨t,e⟩:=(show ∃t,u=Value.float b t from r);cases e;rfl
 |ref a=>cases(show u=amU a from r);rfl
 |ty n=>cases(show u=apt n from r);rfl
section
variable{P:aly}{w:World}{H:au}{h:Heap}{a C cj:Addr}{aX:List (Str×V)}
def Ee(cf:gg P w H h)(e:H a=some (.ins C cj aX)):∃b,q6 h a cj C b/\(∀f,mY (aX.lookup f) (b f))/\Within b (aX.map (·.1))/\aX.length<=1000/\H cj=some (.own a):=by
 obtain⟨d,z,ne,ba,b,n,r,q⟩:=(show iI P w H h a (.ins C cj aX)from cf a _ e);exact⟨b,⟨ba,n,ne⟩,r,q,z,d⟩
end
structure i0(K:aN)(C:Addr):Prop where
 kH:aoY K C Str.empty=true
 hd:apl K C=true
 po:W.plainOver K C=true
 mC:am3 K (.ref C) "__setattr__"=some (some (.builtin "object.__setattr__"))
def i0.get{K:aN}{C:Addr}(c:i0 K C)(f:Str):aoY K C f=true:=c.kH
def q4(K:aN)(C:Addr)(f:Str):Prop:=am3 K (.ref C) f=some none
def q4.agm{K:aN}{C:Addr}{f:Str}(n:q4 K C f):W.takerIn K C f=some none:=by
 unfold W.takerIn;rw[show am3 K (.ref C) f=some none from n];rfl
structure Meth(K:aN)(C:Addr)(m:Str)(f:Addr):Prop where
 at_:am3 K (.ref C) m=some (some (.ref f))
 fn:W.isFn K (.ref f)=true
 kp:amX K (.ref f)=true
section
variable{X:aQ}{ae:cZ}{U:St}{H:au}{s:alc}{a C cj:Addr}{aX:List (Str×V)}{f:Str}{v:V}{A:alI}{E:dp}
def VU{b:Bool}{Q:dp}(I:Inv X ae U H s)(e:H a=some (.ins C cj aX))(c:i0 X.K C)(n:q4 X.K C f)(l:aX.lookup f=some v)
  (h:∀u d,Inv X ae U H d->RelV v u->Q u d):wpAny (model X.prog X.w) A (getAttr (.ref a) f b) Q E s:=by
 obtain⟨j,O,r,_,_,_⟩:=Ee I.cf e;obtain⟨u,i,g⟩:=mY.some_of (v:=v) (o:=j f) (by rw[<-l];exact r f);exact get_map I.f7 O (c.get f) c.hd n i (Wo g) (h u _ (I.tok _) g)
def Du{m:Str}{g:Addr}{pl:Sem Bool}{Q:Value×List Value->alc->Prop}(I:Inv X ae U H s)(e:H a=some (.ins C cj aX))(c:i0 X.K C)(k:Meth X.K C m g)(l:aX.lookup m=none)
  (h:Q (.ref g,[.ref a]) s):wpAny (model X.prog X.w) A (apg (.ref a) m pl) Q E s:=by
 obtain⟨d,O,r,_,_,_⟩:=Ee I.cf e;have b:=mY.none_of (by rw[<-l];exact r m);exact VT I.f7 O (c.get m) k.at_ k.fn b h
def afl{y:V}{u:Value}{Q:Unit->alc->Prop}(I:Inv X ae U H s)(e:H a=some (.ins C cj aX))(c:i0 X.K C)(n:q4 X.K C f)(hl:aX.length<1000)(p:RelV y u)
  (h:∀j,Inv X ae U (upd H a (.ins C cj (iz f y aX))) j->Q () j):wpAny (model X.prog X.w) A (setAttr (.ref a) f u) Q E s:=by
 obtain⟨k,O,r,wi,_,i⟩:=Ee I.cf e;have hz:(aX.map (·.1)).length<=ald:=by rw[ala,alM];omega
 refine afj I.f7 O c.mC c.po n.agm c.hd wi hz λh' d t=>h _ ?_
 have hd:∃o,h'.get? cj=some o:=let⟨o,_,_,bL,_⟩:=d.ns;⟨o,bL⟩
 refine I.write (by rw[e];exact aoo) (.inr i) (λb q m z=>(t.2 b m).trans z) hd ?_;refine⟨by rw[c3 O.ne];exact i,?_,O.ne,d.obj,_,d.ns,λg=>?_,λg l=>?_⟩
 .have:=Om f y aX;omega
 .show mY ((iz f y aX).lookup g) (if g=f then some u else k g)
  rw[Ov]
  by_cases q:g=f
  .rw[if_pos q,if_pos q];exact p
  .rw[if_neg q,if_neg q];exact r g
 .by_cases q:g=f
  .rw[q];exact(Es f y aX).1
  .refine(Es f y aX).2 g (wi g λz=>l ?_)
   show(if g=f then some u else k g)=none;rw[if_neg q];exact z
def Inv.made(I:Inv X ae U H s):Inv X ae U (upd (upd H s.heap.objs.size (.own (s.heap.objs.size+1))) (s.heap.objs.size+1) (.ins C s.heap.objs.size []))
  { s with heap:=(s.heap.push anr).push (anO C s.heap.objs.size) }:=by
 have aq:(s.heap.push anr).get? s.heap.objs.size=some anr:=alk s.heap rfl;have aE:((s.heap.push anr).push (anO C s.heap.objs.size)).get? (s.heap.objs.size+1)=some (anO C s.heap.objs.size):=by
  have:=alk (s.heap.push anr) (o:=anO C s.heap.objs.size) rfl
  rwa[anx]at this
 have cX:(s.heap.push anr).Ns s.heap.objs.size (λ_=>none):=⟨anr,#[],_,aq,rfl,(λe he=>absurd he (by simp)),λ_=>rfl⟩;refine(I.laid (o:=.own (s.heap.objs.size+1)) (t':=s.toks) (λb u q=>ak9 _ q) (alf _) ⟨_,aq⟩).laid (λb u q=>ak9 _ q) (anQ (anx _ _)) ?_;have ne:s.heap.objs.size≠s.heap.objs.size+1:=alQ (aoc _);refine⟨by rw[c3 ne,dZ],alX _,ne,aE,λ_=>none,(Heap.Ns1.of_empty cX).at λo q=>ak9 _ q,λ_=>aoo,λy c=>absurd rfl c⟩
def Sg{prog:aly}{w:World}{env:Env}{e:Expr}{f:Str}{pos:Pos}{s:alc}{Q:dp}(b:amG e f env (eval e env)=eval e env)
  (h:wpAny (model prog w) A (eval e env) (λo c=>wpAny (model prog w) A (getAttr o f true) Q E c) E s):wpAny (model prog w) A (eval (.Attribute e f pos) env) Q E s:=
 Attribute_any_ h (by rw[arm_eval_Attribute,b])
end
def afV(K:aN)(c:TE)(f:Str):TE:=λU H Q=>c U H λx b=>∃a C d aX v,x=.ref a/\b a=some (.ins C d aX)/\i0 K C/\q4 K C f/\aX.lookup f=some v/\Q v b
def afd(K:aN)(g d:TE)(f:Str):gQ:=λD U H=>d U H λy e=>g U e λx b=>∃a C c aX,x=.ref a/\b a=some (.ins C c aX)/\i0 K C/\q4 K C f/\aX.length<1000/\
 D.bA U (upd b a (.ins C c (iz f y aX)))
section
variable{X:aQ}{o e value:Expr}{f:Str}{pos pos':Pos}{bR AS:TE}
def ad2(he:b6 X e bR)(i:amG e f X.env (eval e X.env)=eval e X.env):b6 X (.Attribute e f pos) (afV X.K bR f):=by
 intro j s U H Q I h;refine Sg i (bZ (he j s U H _ I h) λu w g=>?_);obtain⟨x,b,k,d,a,C,t,aX,v,ex,p,c,n,l,q⟩:=g;subst ex;obtain rfl:=d;exact VU k p c n l λu' s2 m r=>⟨v,b,m,r,q⟩
def aev(i:b6 X o bR)(k:b6 X value AS)(aw:amI value (some (.Attribute o f pos')) pos.line X.env=pure false):iJ X (.Assign [.Attribute o f pos'] value pos) (afd X.K bR AS f):=by
 intro b s U H D I h;refine plainObj_wpAny_Assign_Attribute (bZ (k b s U H _ I h) λu w ⟨y,d,m,j,q⟩=>bZ (i b w U d _ m q) λcp s2 ⟨x,z,p,g,a,C,A,aX,ex,r,c,n,l,bY⟩=>?_) aw;subst ex;obtain rfl:=g;exact afl p r c n l j λs3 t=>⟨U,_,t,bY⟩
def akH{pl:Sem Bool}{m:Str}{b:Pos}{args:List Expr}{j:cZ}{s:alc}{U:St}{H:au}{Q:dp}{r:TE}(he:b6 X e r)(I:Inv X j U H s)
  (h:r U H λx i=>∃a C p aX g,x=.ref a/\i a=some (.ins C p aX)/\i0 X.K C/\Meth X.K C m g/\aX.lookup m=none/\
   ∀d,Inv X j U i d->wpAny (model X.prog X.w) X.A (callWith pos (.ref g) [.ref a] (amY pos (alJ args X.env)) (anP pos (am9 [] X.env))) Q X.dS d)
  (y:eval (.Call (.Attribute e m b) args [] pos) X.env=(do
   let cp <-eval e X.env
   aoh b.atName
   let(f,first) <-am1 [cp] (apg cp m pl)
   callWith pos f first (amY pos (alJ args X.env)) (anP pos (am9 [] X.env)))) :
  wpAny (model X.prog X.w) X.A (eval (.Call (.Attribute e m b) args [] pos) X.env) Q X.dS s:=by
 refine aph (pl:=pl) (bZ (he j s U H _ I h) λu d ⟨x,i,n,t,a,C,p,aX,g,ex,z,c,k,l,q⟩=>?_) y;subst ex;obtain rfl:u=amU a:=t;exact Du n z c k l (q d n)
end
structure cB(k:Nat)(A:alI):Prop where
 hd:A.handled=none
 vE:A.depth+3*k+5<recursionLimit
 un:A.units+16*k+200<cLine
def cB.mono(r:cB k A)(h:j<=k):cB j A:=⟨r.hd,by have:=r.vE;omega,by have:=r.un;omega⟩
def cB.deeper{A:alI}(r:cB (k+1) A)(env:Env):cB k (A.deeper env):=
 ⟨r.hd,by have:=r.vE;show A.depth+1+3*k+5 < _;omega,by have:=r.un;show A.units+3+16*k+200 < _;omega⟩
def cB.in1{A:alI}(r:cB (k+1) A):cB k A.in1:=
 ⟨r.hd,by have:=r.vE;show A.depth+3*k+5 < _;omega,by have:=r.un;show A.units+1+16*k+200 < _;omega⟩
def aaV{A:alI}:(A.under (.builtin "type.__call__" ⟨.ref C::us,kw⟩)).depth=A.depth+1:=by
 rfl
def aaX{A:alI}:(A.under (.builtin "type.__call__" ⟨.ref C::us,kw⟩)).units=A.units+1:=by
 rfl
def cB.make{A:alI}(r:cB (k+1) A)(C:Addr)(us:List Value)(a:List (Str×Value)):cB k (A.under (.builtin "type.__call__" ⟨.ref C::us,a⟩)):=
 ⟨r.hd,by have:=r.vE;rw[aaV];omega,by have:=r.un;rw[aaX];omega⟩
def cB.depth{A:alI}(r:cB k A):A.depth<recursionLimit:=by have:=r.vE;omega
def cB.units{A:alI}(r:cB k A):A.units+64<cLine:=by have:=r.un;omega
def cB.agM{A:alI}(r:cB k A):A.units<cLine:=by have:=r.un;omega
def xy:fV:=λ_ H Q=>Q [] H
def afT(c:TE)(d:fV):fV:=λU H Q=>c U H λx a=>d U a λxs b=>Q (x::xs) b
section
variable{X:aQ}{e:Expr}{az:List Expr}{te:TE}{t:fV}{pos:Pos}
def xg:g9 X [] xy:=λ_ _ _ _ H Q I h=>aoU ⟨[],H,I,.nil,h⟩
theorem uE(g:b6 X e te)(c:g9 X az t)(aw:e_ X e az:=by rfl):g9 X (e::az) (afT te t):=by
 intro pos a s U H Q I h;rw[aw];show wpAny _ _ (spliced ((false,eval e X.env)::amY pos (alJ az X.env))) _ _ s;refine aoG (bZ (g a s U H _ I h) λu m f=>?_);obtain⟨x,b,k,i,bB⟩:=f;exact bZ (c pos a m U b _ k bB) λus s2 ⟨xs,d,l,j,bY⟩=>⟨x::xs,d,l,.cons i j,bY⟩
def aga(t:fV):TE:=λU H Q=>t U H λxs a=>xs.length<=ald/\∀p,a p=none->Q (.ref p) (upd a p (.t xs))
def afX(t:fV):TE:=λU H Q=>t U H λxs a=>xs.length<=ald/\∀p,a p=none->Q (.ref p) (upd a p (.l xs))
theorem Pu{o}(h:g9 X az t):b6 X (.Tuple az o pos) (aga t):=by
 intro g s U H Q I f;refine wpAny_Tuple_spliced (bZ (h pos g s U H _ I f) λus c ⟨xs,d,a,r,z,q⟩=>⟨by rw[<-r.length];exact z,?_⟩);refine⟨.ref c.heap.objs.size,upd d c.heap.objs.size (.t xs),a.laid (λb u e=>ak9 _ e) (alf _) ?_,rfl,q _ (a.cf.fresh (alf _))⟩;exact⟨z,us,r,⟨_,alk _ rfl,rfl,_,rfl⟩⟩
theorem ad8(h:g9 X az t):b6 X (.List az pos) (afX t):=by
 intro g s U H Q I f;refine wpAny_List_spliced (bZ (h pos g s U H _ I f) λus c ⟨xs,d,a,r,z,q⟩=>⟨by rw[<-r.length];exact z,?_⟩);refine⟨.ref c.heap.objs.size,upd d c.heap.objs.size (.l xs),a.laid (λb u e=>ak9 _ e) (alf _) ?_,rfl,q _ (a.cf.fresh (alf _))⟩;exact⟨z,us,0,r,alk _ rfl⟩
end
abbrev en:=List V->au->cI->gx->Prop
abbrev mQ:=List Env->au->alc->gx->Value->alc->Prop
structure kW(P:aly)(w:World)(K:aN)(mg:bp)(base:Heap)(A:alI)(outer:List Env)(s:alc)(H:au):Prop where
 frames:A.frames=some outer
 mod:Mod K mg base
 bs:∀b o,base.get? b=some o->s.heap.get? b=some o/\H b=none
 lV:base.objs.size<=s.heap.objs.size
 kx:s.heap.FunFrames base outer
 qh:∀b∈lZ outer,H b=none
 cf:gg P w H s.heap
 bare:aoi s.gens
def hB(outer:List Env)(P:aly)(w:World)(H:au)(s:alc)(Q:cI)(u:Value)(a:alc):Prop:=
 ∃v b,a.os=s.os/\aoi a.gens/\gR (lZ outer) [] H b s.heap a.heap/\gg P w b a.heap/\RelV v u/\Q v b
def Ha(b:mQ)(outer:List Env)(P:aly)(w:World)(H:au)(s:alc)(Q:cI)(E:gx)(r:Result)(a:alc):Prop:=
 match r with
 |.ok (.ret u)=>hB outer P w H s Q u a|.ok _=>False|.error e=>b outer H s E e a
structure e6(P:aly)(w:World)(K:aN)(mg:bp)(base:Heap)(CX:mQ)(k:Nat)(f:Addr)(fd:ame)(ps:List Str)(sp:en):Prop where
 len:∀vs H Q E,sp vs H Q E->vs.length=ps.length
 run:∀(A:alI)(outer:List Env)(s:alc)(H:au)(args:Args)(us:List Value)(vs:List V)(Q:cI)(E:gx),cB k A->kW P w K mg base A outer s H->BindsTo s fd args (ps.zip us)->Vals vs us->sp vs H Q E->
  anH (model P w) A (.call (.ref f) args) (Ha CX outer P w H s Q E) s
def e6.mono{P:aly}{w:World}{K:aN}{mg:bp}{base:Heap}{a:mQ}{j k:Nat}{f:Addr}{b:ame}{ps:List Str}{sp:en}(F:e6 P w K mg base a j f b ps sp)(h:j<=k) :
  e6 P w K mg base a k f b ps sp:=⟨F.len,λA outer s H args us vs Q E c=>F.run A outer s H args us vs Q E (c.mono h)⟩
def e6.imp{P:aly}{w:World}{K:aN}{mg:bp}{base:Heap}{a:mQ}{k:Nat}{f:Addr}{c:ame}{ps:List Str}{sp b:en}(F:e6 P w K mg base a k f c ps sp)
  (h:∀vs H Q E,b vs H Q E->sp vs H Q E):e6 P w K mg base a k f c ps b:=
 ⟨λvs H Q E q=>F.len vs H Q E (h _ _ _ _ q),λA outer s H args us vs Q E d he e g aw=>F.run A outer s H args us vs Q E d he e g (h _ _ _ _ aw)⟩
def kW.make{P:aly}{w:World}{K:aN}{mg:bp}{base:Heap}{A:alI}{outer:List Env}{s:alc}{H:au}(e:kW P w K mg base A outer s H)(C:Addr)(us:List Value)(a:List (Str×Value)) :
  kW P w K mg base (A.under (.builtin "type.__call__" ⟨.ref C::us,a⟩)) outer s H:=⟨by(simpa[Around.under,Code.envs,Code.isFrame,pushEnvs]using e.frames),e.mod,e.bs,e.lV,e.kx,e.qh,e.cf,e.bare ⟩
def kW.in1{P:aly}{w:World}{K:aN}{mg:bp}{base:Heap}{A:alI}{outer:List Env}{s:alc}{H:au}(e:kW P w K mg base A outer s H) :
  kW P w K mg base A.in1 outer s H:=⟨e.frames,e.mod,e.bs,e.lV,e.kx,e.qh,e.cf,e.bare⟩
section
variable{X:aQ}{ae:cZ}{U:St}{H:au}{s a7:alc}
def Inv.yS(I:Inv X ae U H s):kW X.prog X.w X.K X.mg X.base X.A X.stack s H:=
 ⟨I.ok.frames,I.ok.mod,I.bs,alR I.ok.lV I.pC,I.stack,I.QA,I.cf,I.bare⟩
def Inv.after(I:Inv X ae U H s)(h:hB X.stack X.prog X.w H s Q u a7):ij X ae U Q u a7:=by
 obtain⟨v,a,os,bare,un,cf,r,q⟩:=h;obtain⟨dh,g,d,t,c⟩:=a7;obtain rfl:=os;exact⟨v,a,I.call un cf bare (λb z=>absurd z (by simp)),r,q⟩
end
def QG(sp:en)(dvs:List V)(E:gx)(t:fV):TE:=λU H Q=>t U H λvs a=>sp (vs++dvs) a Q E
def QH(C:Addr)(m:Str)(sp:en)(dvs:List V)(E:gx)(d:TE)(t:fV):TE:=λU H Q=>d U H λx b=>∃a e aX,x=.ref a/\b a=some (.ins C e aX)/\aX.lookup m=none/\
 t U b λvs c=>sp (x::(vs++dvs)) c Q E
def afY(C:Addr)(sp:en)(dvs:List V)(E:gx)(t:fV):TE:=λU H Q=>t U H λvs b=>∀x a,b x=none->b a=none->a≠x->
 sp (.ref x::(vs++dvs)) (upd (upd b a (.own x)) x (.ins C a [])) (λv c=>v=.aH/\Q (.ref x) c) E
def Binds(K:aN)(a:ame)(ps:List Str)(ds:List Value):Prop:=
 ∀(s:alc)(us:List Value),K.In s.heap->(us++ds).length=ps.length->BindsTo s a ⟨us,[]⟩ (ps.zip (us++ds))
def Binds.all{K:aN}{a:ame}{ps:List Str}(h:∀us:List Value,us.length=ps.length->anf a ⟨us,[]⟩=pure (ps.zip us)):Binds K a ps []:=λs us _ hl=>by
 rw[aml]at hl ⊢;exact .of_eq (h us hl)
def Passes(b:mQ)(X:aQ)(E:gx):Prop:=∀(c:cZ)(U:St)(H:au)(s:alc)(e:Value)(a:alc),Inv X c U H s->b X.stack H s E e a->X.dS e a
section
variable{X:aQ}{CX:mQ}{k:Nat}{f C:Addr}{fd:ame}{ps:List Str}{sp:en}{dvs:List V}{ds:List Value}{E:gx}{x m:Str}{p pos apos:Pos}{e o:Expr}{az:List Expr}{bR:TE}{t:fV}
theorem xm{b:cZ}{U:St}{H:au}{s:alc}{Q:cI}{us:List Value}{vs:List V}(F:e6 X.prog X.w X.K X.mg X.base CX k f fd ps sp)(g:cB k X.A)(j:Binds X.K fd ps ds)(hd:Vals dvs ds)(l:Passes CX X E)
  (I:Inv X b U H s) (r:Vals vs us) (h:sp (vs++dvs) H Q E):wpAny (model X.prog X.w) X.A (call (.ref f) us) (ij X b U Q) X.dS s:=by
 have c:Vals (vs++dvs) (us++ds):=r.append hd;have hl:(us++ds).length=ps.length:=by rw[<-c.length];exact F.len _ _ _ _ h
 refine wpAny_call (anz (F.run X.A X.stack s H ⟨us,[]⟩ (us++ds) (vs++dvs) Q E g I.yS (j s us I.f7 hl) c h) λr d a=>?_)
 cases r with
 |error e=>exact l b U H s e d I a|ok i=>
  cases i with
  |ret u=>exact I.after a|next=>exact alV a
  |brk=>exact alV a|cont=>exact alV a
def adV(F:e6 X.prog X.w X.K X.mg X.base CX k f fd ps sp)(b:cB k X.A)(c:ee X x)(hm:X.mg x=some (.ref f))(l:amX X.K (.ref f)=true)(d:Binds X.K fd ps ds)(hd:Vals dvs ds)(i:Passes CX X E)
  (j:g9 X (e::az) t) (n:fX x:=by decide) (he:e_ X e az:=by rfl) (u:f5 X pos az:=by rfl) :
  b6 X (.Call (.Name x p) (e::az) [] pos) (QG sp dvs E t):=by
 intro g s U H Q I h;refine amo (tT I c hm ?_ n);refine ao5 I.ok.mod.tP l (bZ (j pos g s U H _ I h) λus z ⟨vs,y,a,r,q⟩=>⟨a.f7,?_⟩) he u;exact xm F b d hd i a r q
def adW(F:e6 X.prog X.w X.K X.mg X.base CX k f fd ps sp)(a:cB k X.A)(b:ee X x)(hm:X.mg x=some (.ref f))(g:amX X.K (.ref f)=true)(c:Binds X.K fd ps ds)(hd:Vals dvs ds)(d:Passes CX X E)
  (i:fX x:=by decide):b6 X (.Call (.Name x p) [] [] pos) (QG sp dvs E xy):=by
 intro j s U H Q I h;refine amo (tT I b hm ?_ i);exact W.callWith_K0 I.f7 g (xm F a c hd d I .nil h)
theorem Pp{pl:Sem Bool}(he:b6 X o bR)(c:i0 X.K C)(hm:Meth X.K C m f)(F:e6 X.prog X.w X.K X.mg X.base CX k f fd ps sp)(n:cB k X.A)(y:Binds X.K fd ps ds)(hd:Vals dvs ds)(z:Passes CX X E)(B:g9 X (e::az) t)
  (L:e_ X e az:=by rfl) (J:f5 X pos az:=by rfl)
  (D:oi X pl o m apos (e::az) pos:=by rfl) :
  b6 X (.Call (.Attribute o m apos) (e::az) [] pos) (QH C m sp dvs E bR t):=by
 intro b s U H Q I h;refine aph (bZ (he b s U H _ I h) λu M ⟨x,i,d,j,a,O,aX,ex,G,l,q⟩=>?_) D;subst ex;obtain rfl:=j;refine Du d G c hm l<|ao5 I.ok.mod.tP hm.kp (bZ (B pos b M U i _ d q) λus s2 ⟨vs,N,g,r,bY⟩=>⟨g.f7,?_⟩) L J
 exact xm (vs:=.ref a::vs) F n y hd z g (.cons rfl r) bY
theorem Pq{pl:Sem Bool}(he:b6 X o bR)(c:i0 X.K C)(hm:Meth X.K C m f)(F:e6 X.prog X.w X.K X.mg X.base CX k f fd ps sp)(g:cB k X.A)(i:Binds X.K fd ps ds)(hd:Vals dvs ds)(n:Passes CX X E)
  (r:oi X pl o m apos [] pos:=by rfl) :
  b6 X (.Call (.Attribute o m apos) [] [] pos) (QH C m sp dvs E bR xy):=by
 intro j s U H Q I h;refine aph (pl:=pl) (bZ (he j s U H _ I h) λu D ⟨x,z,b,d,a,B,aX,ex,y,l,q⟩=>?_) r;subst ex;obtain rfl:u=amU a:=d;refine Du b y c hm l ?_;exact W.callWith_K0 (first:=[.ref a]) b.f7 hm.kp (xm (us:=[.ref a]) (vs:=[.ref a]) F g i hd n b (.cons rfl .nil) q)
structure Ho(K:aN)(C f:Addr):Prop where
 makes:W.makesIn K C=true
 init:am3 K (.ref C) "__init__"=some (some (.ref f))
 fn:W.isFn K (.ref f)=true
 kp:amX K (.ref C)=true
theorem ae7{d:cZ}{U:St}{H:au}{s:alc}{Q:cI}{us:List Value}{vs:List V}(M:Ho X.K C f)(F:e6 X.prog X.w X.K X.mg X.base CX k f fd ps sp)(n:cB (k+1) X.A)(z:Binds X.K fd ps ds)(hd:Vals dvs ds)
  (B:Passes CX X E) (I:Inv X d U H s) (r:Vals vs us)
  (h:∀x c,H x=none->H c=none->c≠x->sp (.ref x::(vs++dvs)) (upd (upd H c (.own x)) x (.ins C c [])) (λv q=>v=.aH/\Q (.ref x) q) E) :
  wpAny (model X.prog X.w) X.A (call (.ref C) us) (ij X d U Q) X.dS s:=by
 have g:=h (s.heap.objs.size+1) s.heap.objs.size (I.cf.fresh (aoE _)) (I.cf.fresh (alf _)) (alQ (aoc _));have b:=Inv.made (C:=C) I;have i:Vals (V.ref (s.heap.objs.size+1)::(vs++dvs)) (amU (s.heap.objs.size+1)::(us++ds)):=.cons rfl (r.append hd);have hl:(amU (s.heap.objs.size+1)::us++ds).length=ps.length:=by
  have e:=i.length;rw[F.len _ _ _ _ g]at e;exact e.symm
 refine wpAny_call (aaW I.f7 M.makes M.init (beq_iff_eq.mp M.fn) (anz (F.run _ X.stack _ _ ⟨amU (s.heap.objs.size+1)::us,[]⟩ (amU (s.heap.objs.size+1)::(us++ds)) _ _ E (n.make C us [])
  (b.yS.make C us []) (z _ (amU (s.heap.objs.size+1)::us) b.f7 hl) i g) λr l a=>?_))
 cases r with
 |error e=>exact B d U _ _ e l b a|ok y=>
  cases y with
  |ret u=>
   obtain⟨v,j,G,D,L,J⟩:=b.after a;subst L;exact⟨D,⟨V.ref (s.heap.objs.size+1),j,G,rfl,J⟩⟩
  |next=>exact alV a
  |brk=>exact alV a|cont=>exact alV a
def ad9(M:Ho X.K C f)(F:e6 X.prog X.w X.K X.mg X.base CX k f fd ps sp)(b:cB (k+1) X.A)(c:ee X x)(hm:X.mg x=some (.ref C))(d:Binds X.K fd ps ds)(hd:Vals dvs ds)(i:Passes CX X E)
  (j:g9 X (e::az) t) (l:fX x:=by decide) (he:e_ X e az:=by rfl) (n:f5 X pos az:=by rfl) :
  b6 X (.Call (.Name x p) (e::az) [] pos) (afY C sp dvs E t):=by
 intro g s U H Q I h;refine amo (tT I c hm ?_ l);refine ao5 I.ok.mod.tP M.kp (bZ (j pos g s U H _ I h) λus y ⟨vs,u,a,r,q⟩=>⟨a.f7,?_⟩) he n;exact ae7 M F b d hd i a r q
end
structure g8(N P:List Str)(sc:Scope):Prop where
 kind:sc.kind=.function:=by rfl
 co:sc.isCoroutine=false:=by rfl
 gen:sc.isGenerator=false:=by rfl
 fI:N.Nodup:=by decide +kernel
 pre:N.take P.length=P:=by rfl
 par:∀x∈P,sc.names.lookup x=some .local\/sc.names.lookup x=some .cell:=by decide +kernel
 acP:∀y∈sc.names,y.2≠.free:=by decide +kernel
theorem Jx{kindOf:Str->Option ans}{x:Str}:∀{binds:List (Str×Value)}{m:bp},(∀v,(x,v)∉binds)->bindL kindOf binds m x=m x
 |[],_,_=>rfl|(n,v)::r,m,h=>by
  unfold bindL;rw[Jx λw hw=>h w (alh _ hw)];split
  .have:x≠n:=by rintro rfl;exact h v alo
   simp[this]
  .rfl
theorem Jv{kindOf:Str->Option ans}{x:Str}:∀{binds:List (Str×Value)}{m:bp},(∀v,(x,v)∉binds)->bindC kindOf binds m x=m x
 |[],_,_=>rfl|(n,v)::r,m,h=>by
  unfold bindC;rw[Jv λw hw=>h w (alh _ hw)];split
  .rfl
  .have:x≠n:=by rintro rfl;exact h v alo
   simp[this]
theorem Jw{kindOf:Str->Option ans}{v:Value}:∀{P:List Str}{vs:List Value}{i:Nat}{m:bp},P.Nodup->P[i]? = some x->vs[i]? = some v->kindOf x=some .local->
  bindL kindOf (P.zip vs) m x=some v
 |[],_,_,_,_,h,_,_=>by simp at h| _::_,[],_,_,_,_,h,_=>by simp at h|p::P,w::vs,0,m,fI,o,C,I=>by
  simp at o C;subst o;subst C;show bindL kindOf ((p,w)::P.zip vs) m p=_;unfold bindL;rw[Jx λv a=>(al7.mp fI).1 (anK a).1,if_pos I];simp
 |p::P,w::vs,i+1,m,fI,o,C,I=>by
  unfold bindL;exact Jw (al7.mp fI).2 o C I
theorem Ju{kindOf:Str->Option ans}{v:Value}:∀{P:List Str}{vs:List Value}{i:Nat}{m:bp},P.Nodup->P[i]? = some x->vs[i]? = some v->kindOf x≠some .local->
  bindC kindOf (P.zip vs) m x=some v
 |[],_,_,_,_,h,_,_=>by simp at h| _::_,[],_,_,_,_,h,_=>by simp at h|p::P,w::vs,0,m,fI,o,C,I=>by
  simp at o C;subst o;subst C;show bindC kindOf ((p,w)::P.zip vs) m p=_;unfold bindC;rw[Jv λv a=>(al7.mp fI).1 (anK a).1,if_neg I];simp
 |p::P,w::vs,i+1,m,fI,o,C,I=>by
  show bindC kindOf ((p,w)::P.zip vs) m x=_;unfold bindC;exact Ju (i:=i) (al7.mp fI).2 (by simpa using o) (by simpa using C) I
def start(N:List Str)(vs:List V):St:=vs.map some++alp (N.length-vs.length) none
def ha(b:mQ)(P:aly)(w:World)(K:aN)(mg:bp)(base:Heap)(N:List Str)(qual:Str)(scope:Scope)(f:Addr)(cd:Value)(A:alI)(outer:List Env)(s:alc)(H:au)(E:gx):aQ where
 prog:=P
 w:=w
 K:=K
 mg:=mg
 base:=base
 A:=A.deeper (anA qual scope s.heap.objs.size f cd)
 N:=N
 g4:=s
 H₀:=H
 env:=anA qual scope s.heap.objs.size f cd
 outer:=outer
 stack:=anA qual scope s.heap.objs.size f cd::outer
 ex:=[]
 calm:=true
 fn:=λ_=>true
 nW:=[]
 dS:=λe c=>wpAny (model P w) (A.deeper (anA qual scope s.heap.objs.size f cd)) (leaving (anA qual scope s.heap.objs.size f cd) e) (λ_ a=>b outer H s E e a) (λd a=>b outer H s E d a) c
def JL{a:Scope}(h:a.names.lookup x=some .cell):∃c,(cellsFrom n a.names []).lookup x=some c:=ao6.mp (ao7 a.names n [] (.inl h))
def NB{t:mQ}{P:aly}{w:World}{K:aN}{mg:bp}{base:Heap}{N ps:List Str}{qual:Str}{scope:Scope}{f:Addr}{cd:Value}{A:alI}{outer:List Env}{s G:alc}{H:au}{E:gx}{us:List Value}{vs:List V}
  (S:g8 N ps scope) (hd:A.handled=none) (g:kW P w K mg base A outer s H) (hl:vs.length=ps.length) (r:Vals vs us)
  (x:InCallC s s.heap.objs.size (bindL (anA qual scope s.heap.objs.size f cd).kindOf (ps.zip us) λ_=>none) (cellsFrom (s.heap.objs.size+1) scope.names []) (bindC (anA qual scope s.heap.objs.size f cd).kindOf (ps.zip us) λ_=>none) G) :
  Inv (ha t P w K mg base N qual scope f cd A outer s H E) [] (start N vs) H G:=by
 have O:ps.length<=N.length:=by have:=congrArg amO S.pre;rw[ama]at this;omega
 obtain⟨m,tk,rfl,D⟩:=x.done;have n:∀b:Addr,b∉(ha t P w K mg base N qual scope f cd A outer s H E).ex:=λb z=>absurd (show b∈([]:List Addr)from z) (by simp)
 refine⟨⟨g.mod,S.kind,rfl,rfl,alf _,λy z c m d=>?_,λy j=>?_,λy c _ h=>?_,λ_=>hd,Around.frames_deeper g.frames,.inr ⟨rfl,rfl⟩,λb z=>absurd z (n b),g.bs,g.lV,λb _ _=>n b,λb z=>absurd z (n b),g.kx,g.qh⟩,
  rfl,g.bare,gR.kept D,⟨_,x.toInCall.ns,λi y v m d M=>?_⟩,λy c h=>⟨_,x.cell y c h⟩,g.cf.fresh (alf _),λy c h=>?_,λp l=>absurd (show p∈([]:cZ)from l) (by simp),g.cf.kept D,?_⟩
 .exact name_of_addr x.apart (amu m) (amu d)
 .have j:=j
  rcases j with j|j
  .exact JL j
  .exact absurd rfl (S.acP _ (amu j))
 .exact amP (x.above y c (amu h))
 .have hi:i<vs.length:=by
   unfold start at d
   by_cases hi:i<vs.length
   .exact hi
   .rw[alw (by simpa using hi)]at d
    rw[amA]at d;split at d<;>cases d
  have J:vs[i]? = some v:=by
   unfold start at d;rw[alz (by simpa using hi),alr]at d
   cases e:vs[i]? with
   |none=>rw[e]at d;cases d
   |some a=>rw[e]at d;cases d;rfl
  obtain⟨u,F,L⟩:=r.get J;have l:ps[i]? = some y:=by
   rw[<-S.pre,List.getElem?_take_of_lt (by omega)];exact m
  have B:ps.Nodup:=by rw[<-S.pre];exact S.fI.sublist (List.take_sublist _ _)
  refine⟨u,L,?_⟩;rcases S.par y (alF l)with k|k
  .exact .inl ⟨k,Jw B l F k⟩
  .obtain⟨c,e⟩:=JL k
   refine .inr ⟨.inl k,c,e,?_⟩;have q:=x.cell y c e;rw[Ju B l F (by show scope.names.lookup y≠_;rw[k];decide)]at q;exact q
 .exact g.cf.fresh (amP (x.above y c (amu h)))
 .unfold start
  show _=N.length;rw[alb,ala,al8];omega
def Di{i:mQ}{P:aly}{w:World}{K:aN}{mg:bp}{base:Heap}{k:Nat}{f:Addr}{name qual:Str}{params:anR}{body:List Stmt}{scope:Scope}{F dy h D d cz c1:Value}{p Y:Option Addr}
  {Z:Array (Option Value)}{N ps:List Str}{sp:en}(U:K.lookup f=some ⟨c1,Y,.func (amW name qual params body scope F dy h D p d cz),Z⟩) (C:aoz K d qual=true) (S:g8 N ps scope)
  (len:∀vs H Q E,sp vs H Q E->vs.length=ps.length)
  (v3:∀(A:alI)(outer:List Env)(s:alc)(H:au)(vs:List V)(Q:cI)(E:gx),cB k (A.deeper (anA qual scope s.heap.objs.size f d))->sp vs H Q E->
   ∃t,ip (ha i P w K mg base N qual scope f d A outer s H E) body t/\t { bA:=λ_ a=>Q .aH a,b9:=Q } (start N vs) H) :
  e6 P w K mg base i (k+1) f (amW name qual params body scope F dy h D p d cz) ps sp:=by
 refine⟨len,λA outer s H args us vs Q E l g T r B=>?_⟩;have z:=g.mod.tP.keeps λb o e=>(g.bs b o e).1
 have J:∀y∈ps.zip us,scope.names.lookup y.1=some .local\/(scope.names.lookup y.1=some .cell/\((cellsFrom (s.heap.objs.size+1) scope.names []).lookup y.1).isSome=true):=λR M=>by
  obtain⟨n,v⟩:=R;rcases S.par n (anK M).1 with q|q
  .exact .inl q
  .exact .inr ⟨q,ao7 _ _ _ (.inl q)⟩
 refine codeAny_call_function l.depth (z _ _ U) rfl S.co S.gen rfl (W.codeRec_of z C) (T _ _ _ _ ?_);refine wpAny_newFunctionEnv_cells S.kind J λenv he G x=>?_
 subst he;refine⟨(g.mod.nolimit.keeps λb o e=>(g.bs b o e).1).keeps x.toInCall.keep,codeAny_func ?_⟩;obtain⟨t,X,L⟩:=v3 A outer s H vs Q E (l.deeper _) B;have I:Inv (ha i P w K mg base N qual scope f d A outer s H E) [] (start N vs) H G:=NB S l.hd g (len _ _ _ _ B) r x;refine al9 (X [] G (start N vs) H _ I L) (λO j aw=>?_) λe j aw=>aw
 have fin:∀{U':St}{a:au}{v:V}{u:Value},Inv (ha i P w K mg base N qual scope f d A outer s H E) [] U' a j->RelV v u->Q v a->hB outer P w H s Q u j:=
  λ{U' a v u} c m q=>⟨v,a,c.os,c.bare,c.base,c.cf,m,q⟩
 cases O with
 |ret u=>
  obtain⟨v,U',a,c,m,q⟩:=aw;exact fin c m q
 |next=>
  obtain⟨U',a,c,q⟩:=aw;exact fin (v:=V.aH) c rfl q
 |brk=>
  obtain⟨_,_,_,q⟩:=aw;exact alV q
 |cont=>
  obtain⟨_,_,_,q⟩:=aw;exact alV q
section
variable{X:aQ}{x:Str}{p pos:Pos}{e:Expr}{az:List Expr}{t:fV}{id T:String}{r:List V->au->cI->Prop}
def Gw(r:List V->au->cI->Prop)(t:fV):TE:=λU H Q=>t U H λvs a=>r vs a Q
def adX(m:kc X (.builtin id) r)(d:ee X x)(hm:X.mg x=none)(i:al2 x=some (.builtin id))(f:g9 X (e::az) t)(c:x≠"__name__":=by decide)(k:fX x:=by decide)
  (he:e_ X e az:=by rfl) (l:f5 X pos az:=by rfl):b6 X (.Call (.Name x p) (e::az) [] pos) (Gw r t):=by
 intro a s U H Q I h;refine amo (nK I d hm i ?_ c k);exact PyProof.Rows.callWith_builtin1 (bZ (f pos a s U H _ I h) λus n ⟨vs,b,j,g,bB⟩=>m a n U b vs us Q j g bB) he l
def adY(m:kc X (.type T) r)(d:ee X x)(hm:X.mg x=none)(i:al2 x=some (.type T))(f:g9 X (e::az) t)(c:x≠"__name__":=by decide)(k:fX x:=by decide)
  (he:e_ X e az:=by rfl) (l:f5 X pos az:=by rfl):b6 X (.Call (.Name x p) (e::az) [] pos) (Gw r t):=by
 intro a s U H Q I h;refine amo (nK I d hm i ?_ c k);exact amn (bZ (f pos a s U H _ I h) λus n ⟨vs,b,j,g,bB⟩=>m a n U b vs us Q j g bB) he l
end
end aA
namespace c7
open PySem PyProof.Rows
def U8(A:alI)(s:alc)(a:Int)(t:Tok)(c:Int)(u:Tok):∃e,SeqAt.EqAt A s (.int a t) (.int c u) e/\(e=true↔a=c):=
 ⟨(a==c),apG a t c u,by simp⟩
section
variable{prog:aly}{w:World}{A:alI}{E:dp}{s:alc}
def cw(n d:Nat):Option Int->Nat
 |none=>d|some v=>if v<0 then(v+(n:Int)).toNat else min v.toNat n
def Ay(n d:Nat):cw n d none=d:=rfl
def Ax(n d k:Nat):cw n d (some (k:Int))=min k n:=by
 show(if(k:Int)<0 then((k:Int)+(n:Int)).toNat else min (k:Int).toNat n)=min k n;rw[if_neg (by omega),aoV]
def afe(n d:Nat)(hd:d<=n)(o:Option Int):cw n d o<=n:=by
 cases o with
 |none=>exact hd|some v=>
  show(if v<0 then(v+(n:Int)).toNat else min v.toNat n)<=n
  by_cases a:v<0
  .rw[if_pos a];omega
  .rw[if_neg a];exact Nat.min_le_right _ _
def JP(v:Int)(n d:Nat):(if v<0 then max (v+(n:Int)) 0 else min v (n:Int))=((cw n d (some v):Nat):Int):=by
 show(if v<0 then max (v+(n:Int)) 0 else min v (n:Int))=(((if v<0 then(v+(n:Int)).toNat else min v.toNat n):Nat):Int)
 by_cases a:v<0
 .simp only[if_pos a];omega
 .simp only[if_neg a];omega
def R0(lo hi:Option Int)(n:Nat):anL lo hi 1 (n:Int)=(((cw n 0 lo:Nat):Int),((cw n n hi:Nat):Int)):=by
 have a:¬((1:Int)<0):=by omega
 unfold anL;refine Prod.ext ?_ ?_
 .cases lo with
  |none=>rfl|some v=>exact JP v n 0
 .cases hi with
  |none=>rfl|some v=>exact JP v n n
def aep(i j:Nat):am7 (i:Int) (j:Int) 1=j-i:=by
 unfold am7;have a:(1:Int) > 0:=by omega
 simp only[a,if_true,Int.ediv_one];split<;>omega
def Qu{v:Value}{o:Option Int}{Q:Option Int->alc->Prop}(p:an2 v o)(h:Q o s):wpAny (model prog w) A (Builtin.Slice.slicePartIndex v) Q E s:=by
 cases p with
 |none=>exact slicePart_none h|int i t=>exact slicePart_int h
def Qt{bc:Addr}{a b:Value}{lo hi:Option Int}{n:Nat}{Q:Int×Int×Nat->alc->Prop}(aw:s.heap.IsSliceOf bc a b .none)(pl:an2 a lo)(e:an2 b hi)
  (h:Q (((cw n 0 lo:Nat):Int),1,cw n n hi-cw n 0 lo) s):wpAny (model prog w) A (aoO (.ref bc) (pure (n:Int))) Q E s:=by
 obtain⟨os,d,f,c⟩:=id aw;unfold aoO Builtin.Slice.sliceFields;refine ak7 (ak7 (ana d c (x:=a) rfl (ak7 (ana d c (x:=b) rfl (ak7 (ana d c (x:=.none) rfl (alm ?_)))))));refine ak7 (slicePart_none ?_);show wpAny _ _ (if((1:Int)==0)=true then _ else _) _ _ s;rw[if_neg (by decide)];refine ak7 (Qu pl (ak7 (Qu e (ak7 (alm ?_)))));show wpAny _ _ (match anL lo hi 1 (n:Int)with|(lo,hi)=>pure (lo,(1:Int),am7 lo hi 1)) _ _ s;rw[R0 lo hi n];show wpAny _ _ (pure (((cw n 0 lo:Nat):Int),(1:Int),am7 ((cw n 0 lo:Nat):Int) ((cw n n hi:Nat):Int) 1)) _ _ s;rw[aep];exact alm h
def aem(xs:Array Value)(i k:Nat):((alD k).filterMap λ(m:Nat)=>xs[((i:Int)+(m:Int)*1).toNat]?).toArray=((xs.toList.drop i).take k).toArray:=by
 have e:(λ(m:Nat)=>xs[((i:Int)+(m:Int)*1).toNat]?)=λm=>xs[i+m]?:=by
  funext m
  have:((i:Int)+(m:Int)*1).toNat=i+m:=by omega
  rw[this]
 rw[e];have:=pick_run xs i k;rw[List.filterMap_map]at this;have aE:((λx=>xs[x]?)∘λx=>i+x)=λm=>xs[i+m]?:=rfl
 rw[aE]at this;rw[this]
def VO{t bc:Addr}{a:Array Value}{c d:Value}{lo hi:Option Int}{Q:dp}(b:IsTup s.heap t a)(aw:s.heap.IsSliceOf bc c d .none)(pl:an2 c lo)(i:an2 d hi)
  (hw:¬(cw a.size 0 lo=0/\cw a.size a.size hi=a.size))
  (h:Q (.ref s.heap.objs.size) { s with heap:=s.heap.push { cls:=.type "tuple",data:=.seq ((a.toList.drop (cw a.size 0 lo)).take (cw a.size a.size hi-cw a.size 0 lo)).toArray } })
  (n:a.size<=ald):wpAny (model prog w) A (aoj (.ref t) (.ref bc)) Q E s:=by
 have g:sizeOk (.seq ((a.toList.drop (cw a.size 0 lo)).take (cw a.size a.size hi-cw a.size 0 lo)).toArray):=by
  show((a.toList.drop (cw a.size 0 lo)).take (cw a.size a.size hi-cw a.size 0 lo)).toArray.size<=ald;rw[ali,ama,amb,al0];omega
 have l:cw a.size a.size hi<=a.size:=afe _ _ (alf _) hi;obtain⟨os,j,k,p⟩:=id aw;have e:s.TypeIs (.ref bc) "slice":=⟨os,j,k⟩;unfold aoj
 try with_reducible refine amF ?_
 skip
 refine ak7 (wpAny_sequenceKey b.typeIs (by decide) ?_);refine ak7 (ank (name:=alG "__getitem__") b.typeIs amd
  (aod amd b.typeIs entry_tuple_getitem ?_ (args_tuple_getitem _ _)))
 show wpAny _ _ (aoP (.ref t) >>= _) _ _ s;refine ak7 (tupleItemsOf_ b ?_);refine ak7 (wpAny_typeOf e ?_);rw[if_pos (by decide)];refine ak7 (Qt aw pl i ?_);have f:¬((((cw a.size 0 lo:Nat):Int)==0&&(1:Int)==1&&(cw a.size a.size hi-cw a.size 0 lo)==a.size)=true):=by
  intro q;rw[alC,alC]at q;have bB:((cw a.size 0 lo:Nat):Int)=0:=eq_of_beq q.1.1;have bY:cw a.size a.size hi-cw a.size 0 lo=a.size:=eq_of_beq q.2;exact hw ⟨by omega,by omega⟩
 show wpAny _ _ (if(((cw a.size 0 lo:Nat):Int)==0&&(1:Int)==1&&(cw a.size a.size hi-cw a.size 0 lo)==a.size)=true then _ else _) _ _ s;rw[if_neg f,aem];exact ak7 (m:=Builtin.Tuple.tupleExact _) (an0 (alm ⟨_,rfl,alm h⟩) g)
end
end c7
namespace aA
open PySem PySem.Spec PyProof.Rows
abbrev fD:=St->au->(Option Int->au->Prop)->Prop
def vi(X:aQ)(e:Option Expr)(t:fD):Prop:=
 ∀(b:cZ)(s:alc)(U:St)(H:au)(Q:Option Int->au->Prop),Inv X b U H s->t U H Q->
  wpAny (model X.prog X.w) X.A (evalPart e X.env) (λu c=>∃o a,Inv X b U a c/\an2 u o/\Q o a) X.dS s
def af1:fD:=λ_ H Q=>Q none H
def af5(t:TE):fD:=λU H Q=>t U H λx a=>∃i,x=.int i/\Q (some i) a
def intsAre_of{ns:List Int}:∀{us:List Value},Vals (ns.map V.int) us->anc us ns:=by
 induction ns with
 |nil=>intro us r;cases r;exact .nil
 |cons n ns a=>
  intro us r
  cases r with
  |cons b c=>
   obtain⟨t,e⟩:=b;subst e;exact .cons n t (a c)
section
variable{X:aQ}{e:Expr}{te:TE}{lo hi:Option Expr}{jh AN:fD}{pos cG:Pos}
def aeq:vi X none af1:=by
 intro a s U H Q I h;rw[evalPart_none];exact alm ⟨none,H,I,.none,h⟩
def aer(h:b6 X e te):vi X (some e) (af5 te):=by
 intro c s U H Q I hw;rw[evalPart_some];refine bZ (h c s U H _ I hw) λu g b=>?_
 obtain⟨x,a,f,d,bB⟩:=b;obtain⟨i,rfl,q⟩:=bB;obtain⟨t,rfl⟩:=d;exact⟨some i,a,f,.int i t,q⟩
def oe(X:aQ)(r:V->Option Int->Option Int->au->cI->Prop):Prop:=
 ∀(a:cZ)(s:alc)(U:St)(H:au)(x:V)(v b c:Value)(lo hi:Option Int)(bc:Addr)(Q:cI),Inv X a U H s->RelV x v->s.heap.IsSliceOf bc b c .none->an2 b lo->an2 c hi->r x lo hi H Q->
  ∃T id,typeLookup (.type T) "__getitem__"=pure (some (.builtin id))/\s.TypeIs v T/\wpAny (model X.prog X.w) X.A (aoj v (.ref bc)) (ij X a U Q) X.dS s
def oe.or{r c:V->Option Int->Option Int->au->cI->Prop}(h:oe X r)(h':oe X c):oe X (λx lo hi H Q=>r x lo hi H Q\/c x lo hi H Q):=by
 intro b s U H x v d f lo hi bc Q I a aw pl g q;rcases q with q|q
 .exact h b s U H x v d f lo hi bc Q I a aw pl g q
 .exact h' b s U H x v d f lo hi bc Q I a aw pl g q
def af8(r:V->Option Int->Option Int->au->cI->Prop)(te:TE)(jh AN:fD):TE:=λU H Q=>te U H λx a=>jh U a λl b=>AN U b λu c=>r x l u c Q
def FJ{r:V->Option Int->Option Int->au->cI->Prop}(j:oe X r)(he:b6 X e te)(hl:vi X lo jh)(w:vi X hi AN):b6 X (.Subscript e (.Slice lo hi none cG) pos) (af8 r te jh AN):=by
 intro a s U H Q I h;refine Subscript_ (bZ (he a s U H _ I h) λv F c=>?_);obtain⟨x,i,t,n,bB⟩:=c;refine wpAny_Slice (bZ (hl a F U i _ t bB) λd s2 ⟨l,k,y,pl,bY⟩=>bZ (w a s2 U k _ y bY) λf s3 c=>?_);obtain⟨u,g,z,E,A⟩:=c;refine alm ?_;have D:Inv X a U g { s3 with heap:=s3.heap.push { cls:=.type "slice",data:=.fields #[d,f,.none] } }:=z.kept λb ba q=>ak9 _ q
 obtain⟨T,id,B,p,m⟩:=j a { s3 with heap:=s3.heap.push { cls:=.type "slice",data:=.fields #[d,f,.none] } } U g x v d f l u s3.heap.objs.size Q D n (Heap.IsSliceOf.new ..) pl E A;exact tail_any p B m (by with_unfolding_all rfl)
def tb(xs:List V)(lo hi:Option Int):List V:=(xs.drop (c7.cw xs.length 0 lo)).take (c7.cw xs.length xs.length hi-c7.cw xs.length 0 lo)
def J0(xs:List V)(lo hi:Option Int):(tb xs lo hi).length<=xs.length:=by
 unfold tb;rw[ama,amb];omega
def aeQ(K:aN):V->Option Int->Option Int->au->cI->Prop:=λx lo hi H Q=>∃a xs,x=.ref a/\dB K H a xs/\
 ¬(c7.cw xs.length 0 lo=0/\c7.cw xs.length xs.length hi=xs.length)/\∀p,H p=none->Q (.ref p) (upd H p (.t (tb xs lo hi)))
theorem Qs:oe X (aeQ X.K):=by
 intro k s U H x v l m lo hi bc Q I g aw pl j h;obtain⟨a,xs,rfl,i,hw,q⟩:=h;cases g;obtain⟨d,r,f,hz⟩:=I.tuple i;have c:d.toArray.size=xs.length:=by exact r.length.symm
 refine⟨"tuple",_,amd.lookup,f.typeIs,?_⟩;refine c7.VO f aw pl j (by rw[c];exact hw) ?_ (by rw[c];exact hz);rw[c];refine⟨.ref s.heap.objs.size,_,I.laid (λb ba q=>ak9 _ q) (alf _) ?_,rfl,q _ (I.cf.fresh (alf _))⟩;exact⟨alR (J0 xs lo hi) hz,_,(r.drop (c7.cw xs.length 0 lo)).take (c7.cw xs.length xs.length hi-c7.cw xs.length 0 lo),IsTup.new _ _⟩
end
def nC(n:Nat)(i:Int):Option Nat:=if 0<=i then(if i<n then some i.toNat else none)else if -(n:Int)<=i then some (i+n).toNat else none
def d4{α:Type}(xs:List α)(i:Int):Option α:=(nC xs.length i).bind λj=>xs[j]?
def NJ{i:Int}(h:nC n i=some j):seqIndex? i n=some j/\j<n/\-(n:Int)<=i/\i<n:=by
 unfold nC at h
 by_cases b:0<=i
 .rw[if_pos b]at h
  by_cases a:i<n
  .rw[if_pos a]at h
   have e:i.toNat=j:=alE h;exact⟨by rw[seqIndex_of b a,e],by omega,by omega,a⟩
  .rw[if_neg a]at h;cases h
 .rw[if_neg b]at h
  by_cases a:-(n:Int)<=i
  .rw[if_pos a]at h
   have e:(i+n).toNat=j:=alE h;exact⟨by rw[seqIndex_neg (by omega) a,e],by omega,a,by omega⟩
  .rw[if_neg a]at h;cases h
def yo{α:Type}{xs:List α}{i:Int}{v:α}(h:d4 xs i=some v):∃j,seqIndex? i xs.length=some j/\xs[j]? = some v/\j<xs.length/\-(xs.length:Int)<=i/\i<xs.length:=by
 unfold d4 at h
 cases e:nC xs.length i with
 |none=>rw[e]at h;cases h
 |some j=>
  rw[e]at h;obtain⟨a,b,c,d⟩:=NJ e;exact⟨j,a,h,b,c,d⟩
def HI{α:Type}{xs:List α}{j:Nat}{v:α}(h:xs[j]? = some v):d4 xs (j:Int)=some v:=by
 have a:=(ak8.mp h).1;have e:nC xs.length (j:Int)=some j:=by
  unfold nC;rw[if_pos (by omega),if_pos (by omega)];simp
 unfold d4;rw[e];exact h
def Hs(b:Expr):Prop:=∀o i,apm b false o i=operate [o,i] (aoj o i)
def mV(X:aQ)(r:fm):Prop:=
 ∀(value a:Expr)(b:cZ)(s:alc)(U:St)(H:au)(x y:V)(v u:Value)(Q:cI),Inv X b U H s->RelV x v->RelV y u->r x y H Q->
  apm a false v u=operate [v,u] (aoj v u)->wpAny (model X.prog X.w) X.A (subscriptTail value a v u) (ij X b U Q) X.dS s
def vh(X:aQ)(id:String)(r:V->List V->au->cI->Prop):Prop:=
 ∀(a:cZ)(s:alc)(U:St)(H:au)(x:V)(xs:List V)(v:Value)(us:List Value)(Q:cI),Inv X a U H s->RelV x v->Vals xs us->r x xs H Q->
  wpAny (model X.prog X.w) X.A (call (.builtin id) (v::us)) (ij X a U Q) X.dS s
section
variable{X:aQ}{a b:Expr}{bR cL:TE}{pos:Pos}
def mV.or{r g:fm}(h:mV X r)(h':mV X g):mV X (λx y H Q=>r x y H Q\/g x y H Q):=by
 intro value c e s U H x y v u Q I d f q aw;rcases q with q|q
 .exact h value c e s U H x y v u Q I d f q aw
 .exact h' value c e s U H x y v u Q I d f q aw
def ad6{r:fm}(d:mV X r)(i:b6 X a bR)(f:b6 X b cL)(aw:Hs b):b6 X (.Subscript a b pos) (xA r bR cL):=by
 intro g s U H Q I h;exact Subscript_ (Cr i f I h λv u s2 x y e k c j q=>d a b g s2 U e x y v u Q k c j q (aw _ _))
def P5(K:aN):fm:=λx y H Q=>∃p xs i v,x=.ref p/\y=.int i/\dw K H p xs/\d4 xs i=some v/\Q v H
def P7(K:aN):fm:=λx y H Q=>∃p xs i v,x=.ref p/\y=.int i/\dB K H p xs/\d4 xs i=some v/\Q v H
def P6:fm:=λx y H Q=>∃z i c,x=.str z/\y=.int i/\z.length<=ald/\d4 z.cps.toList i=some c/\Q (.str ⟨#[c]⟩) H
def ZM:mV X (P5 X.K):=by
 intro value f n s U H x y v u Q I l B h aw;obtain⟨p,xs,i,z,rfl,rfl,m,he,q⟩:=h;cases l;obtain⟨t,rfl⟩:=B;obtain⟨e,r,pl,hz⟩:=I.list m;obtain⟨j,c,A,J,D,E⟩:=yo he;obtain⟨w,k,F⟩:=r.get A;have hl:=r.length;have G:=tU;have fin:ij X n U Q w s:=⟨z,H,I,F,q⟩
 by_cases g:0<=i
 .have d:i.toNat=j:=by
   rw[seqIndex_of g E]at c;exact alE c
  exact item_listR pl.isList g (by omega) (by rw[d];simpa using k) fin aw
 .have d:(i+(e.toArray.size:Int)).toNat=j:=by
   rw[seqIndex_neg (by omega) D]at c;rw[ali,<-hl];exact alE c
  exact subscriptTail_builtinR pl.isList.typeIs slot_list_getitem.lookup
   (wpAny_getItem_list_neg pl.isList (by omega) (by rw[ali]<;>omega) (by omega) (by rw[d];simpa using k) ⟨rfl,fin⟩) aw
def ZO:mV X (P7 X.K):=by
 intro value c g s U H x y v u Q I d l h aw;obtain⟨p,xs,i,z,rfl,rfl,e,he,q⟩:=h;cases d;obtain⟨t,rfl⟩:=l;obtain⟨n,r,pl,hz⟩:=I.tuple e;obtain⟨j,f,k,D,E,F⟩:=yo he;obtain⟨w,m,A⟩:=r.get k;have B:=tU;have fin:ij X g U Q w s:=⟨z,H,I,A,q⟩;exact subscriptTail_builtinR pl.typeIs slot_tuple_getitem.lookup
  (getItem_tuple pl (by omega) (by omega) (by rw[ali,<-r.length];exact f) (by simpa using m) ⟨rfl,fin⟩) aw
def ZN:mV X P6:=by
 intro value d p s U H x y v u Q I f k h aw;obtain⟨z,i,c,rfl,rfl,hz,he,q⟩:=h;obtain⟨t,rfl⟩:=f;obtain⟨t',rfl⟩:=k;obtain⟨j,e,g,r,l,m⟩:=yo he;have hl:z.cps.toList.length=z.length:=by simp[Str.length]
 rw[hl]at e l m;have n:=tU;exact tail_any (typeIs_str s z t) slot_str_getitem.lookup (getItem_str (by
  have aq:decide (i < -(2 ^ 63:Int))=false:=decide_eq_false (by omega);have aE:decide (i≥2 ^ 63)=false:=decide_eq_false (by omega);rw[aq,aE,Bool.or_false]) (by rw[e];simpa using g) ⟨.str ⟨#[c]⟩,H,I.tok _,⟨_,rfl⟩,q⟩) aw
def P4(K:aN):fm:=λx y H Q=>P5 K x y H Q\/P7 K x y H Q\/P6 x y H Q
def hs:mV X (P4 X.K):=ZM.or (ZO.or ZN)
def aaZ(c:List Value)(n j:Nat)(u:Value):alL (·.setIfInBounds j u) { cls:=.type "list",data:=.seq c.toArray n }={ cls:=.type "list",data:=.seq (c.set j u).toArray n }:=by
 simp[alL]
def Inv.l{d:cZ}{U:St}{H:au}{s:alc}{p:Addr}{xs:List V}(I:Inv X d U H s)(h:H p=some (.l xs)) :
  ∃(c:List Value)(n:Nat),Vals xs c/\s.heap.get? p=some { cls:=.type "list",data:=.seq c.toArray n }/\xs.length<=ald:=by
 obtain⟨z,c,n,r,e⟩:=I.cf p _ h;exact⟨c,n,r,e,z⟩
theorem Inv.aaK{i:cZ}{U:St}{H:au}{s:alc}{p:Addr}{xs g:List V}{c its':List Value}{n d:Nat}{f:Obj->Obj}(I:Inv X i U H s)(h:H p=some (.l xs))
  (k:s.heap.get? p=some { cls:=.type "list",data:=.seq c.toArray n }) (j:f { cls:=.type "list",data:=.seq c.toArray n }={ cls:=.type "list",data:=.seq its'.toArray d }) (r:Vals g its') (hz:g.length<=ald) (t:Nat) :
  Inv X i U (upd H p (.l g)) { s with heap:=s.heap.update p f,toks:=t }:=by
 have e:(s.heap.update p f).get? p=some { cls:=.type "list",data:=.seq its'.toArray d }:=by
  rw[Heap.get?_update_self f k (by rw[j]<;>rfl),j]
 refine I.write (x:=p) (e:=p) (by rw[h];trivial) (.inl rfl) (λb u m q=>(apn _ _ (anG m)).trans q) ⟨_,e⟩ ?_;exact⟨hz,its',d,r,e⟩
def aeO:V->V->V->au->(au->Prop)->Prop:=λo i v H Q=>∃p xs k j,o=.ref p/\i=.int k/\H p=some (.l xs)/\nC xs.length k=some j/\Q (upd H p (.l (xs.set j v)))
def set_list:Hr X aeO:=by
 intro A s U H o i v cp J u Q I E f B h;obtain⟨p,xs,k,j,rfl,rfl,m,D,q⟩:=h;cases E;obtain⟨t,rfl⟩:=f;obtain⟨c,n,r,e,hz⟩:=I.l m;obtain⟨d,G,w,x⟩:=NJ D;have hl:=r.length;have F:=tU;have y:Inv X A U (upd H p (.l (xs.set j v))) { s with heap:=s.heap.update p (alL (·.setIfInBounds j u)) }:=
  I.aaK m e (aaZ c n j u) (r.set B j) (by rw[alS];exact hz) s.toks
 by_cases z:0<=k
 .have g:k.toNat=j:=by
   rw[seqIndex_of z x]at d;exact alE d
  exact W.ki_setAt e z (by omega) (by rw[ali,<-hl];exact x) (by rw[g];exact⟨_,y,q⟩)
 .have g:(k+(c.toArray.size:Int)).toNat=j:=by
   rw[seqIndex_neg (by omega) w]at d;rw[ali,<-hl];exact alE d
  exact W.ki_setBack e (by omega) (by rw[ali,<-hl];exact w) (by omega) (by rw[g];exact⟨_,y,q⟩)
def Qv(lo hi:Option Int)(n:Nat):(anb lo hi none n).1=((c7.cw n 0 lo:Nat):Int)/\(anb lo hi none n).2.1=((c7.cw n n hi:Nat):Int)/\(anb lo hi none n).2.2=1:=by
 refine⟨?_,?_,rfl⟩
 .cases lo with
  |none=>simp[anb,c7.cw]|some i=>
   simp only[anb,c7.cw,Option.getD_none,show(1:Int) > 0 by decide,if_true]
   by_cases h:i<0
   .simp only[h,if_true]<;>omega
   .simp only[h,if_false]<;>omega
 .cases hi with
  |none=>simp[anb,c7.cw]|some i=>
   simp only[anb,c7.cw,Option.getD_none,show(1:Int) > 0 by decide,if_true]
   by_cases h:i<0
   .simp only[h,if_true]<;>omega
   .simp only[h,if_false]<;>omega
def afs(c:List Value)(lo hi:Option Int):slicePick c.toArray lo hi none=((c.drop (c7.cw c.length 0 lo)).take (c7.cw c.length c.length hi-c7.cw c.length 0 lo)).toArray:=by
 obtain⟨d,e,f⟩:=Qv lo hi c.toArray.size;unfold slicePick;rw[d,e,f];simp only[sliceRange_one,pick_run]<;>rfl
def aeP(K:aN):V->Option Int->Option Int->au->cI->Prop:=λx lo hi H Q=>∃a xs,x=.ref a/\dw K H a xs/\∀p,H p=none->Q (.ref p) (upd H p (.l (tb xs lo hi)))
theorem afp:oe X (aeP X.K):=by
 intro j s U H x v k l lo hi bc Q I e aw pl i h;obtain⟨a,xs,rfl,f,q⟩:=h;cases e;obtain⟨g,r,d,hz⟩:=I.list f;have c:=r.length;refine⟨"list",_,slot_list_getitem.lookup,d.isList.typeIs,?_⟩;refine wpAny_getItem_list_slice d.isList aw pl i .none (by simp) ?_ (by rw[ali]<;>omega);rw[afs,<-c];refine⟨.ref s.heap.objs.size,_,I.laid (λb ba q=>ak9 _ q) (alf _) ?_,rfl,q _ (I.cf.fresh (alf _))⟩;exact⟨alR (J0 xs lo hi) hz,_,0,(r.drop (c7.cw xs.length 0 lo)).take (c7.cw xs.length xs.length hi-c7.cw xs.length 0 lo),alk _ rfl⟩
def ni:V->Bool
 |.aH=>true|.av _=>true|.int _=>true|.str _=>true|_=>false
def nf:V->V->Bool
 |.aH,.aH=>true|.av a,.av b=>a==b|.av a,.int b=>(if a then 1 else 0)==b|.int a,.av b=>a==(if b then 1 else 0)|.int a,.int b=>a==b|.str a,.str b=>a==b|_,_=>false
theorem U7{s:alc}{u v:Value}(d:RelV y u)(c:RelV x v)(f:ni y=true)(e:ni x=true):SeqAt.EqAt A s u v (nf y x):=by
 cases y with
 |aH=>
  cases d
  cases x with
  |aH=>cases c;exact SeqAt.EqAt.same _
  |av b=>cases c;exact SeqAt.EqAt.none_bool b
  |int b=>obtain⟨t,rfl⟩:=c;exact SeqAt.EqAt.none_int b t
  |str b=>obtain⟨t,rfl⟩:=c;exact SeqAt.EqAt.none_str b t
  |_=>exact absurd (show false=true from e) alg
 |av a=>
  cases d
  cases x with
  |aH=>cases c;exact SeqAt.EqAt.bool_none a
  |av b=>cases c;exact SeqAt.EqAt.bool_bool a b
  |int b=>obtain⟨t,rfl⟩:=c;exact SeqAt.EqAt.bool_int a b t
  |str b=>obtain⟨t,rfl⟩:=c;exact SeqAt.EqAt.bool_str a b t
  |_=>exact absurd (show false=true from e) alg
 |int a=>
  obtain⟨t',rfl⟩:=d
  cases x with
  |aH=>cases c;exact SeqAt.EqAt.int_none a t'
  |av b=>cases c;exact SeqAt.EqAt.int_bool a t' b
  |int b=>obtain⟨t,rfl⟩:=c;exact apG a t' b t
  |str b=>obtain⟨t,rfl⟩:=c;exact apE a t' b t
  |_=>exact absurd (show false=true from e) alg
 |str a=>
  obtain⟨t',rfl⟩:=d
  cases x with
  |aH=>cases c;exact SeqAt.EqAt.str_none a t'
  |av b=>cases c;exact SeqAt.EqAt.str_bool a t' b
  |int b=>obtain⟨t,rfl⟩:=c;exact apF a t' b t
  |str b=>obtain⟨t,rfl⟩:=c;exact SeqAt.EqAt.str_str a t' b t
  |_=>exact absurd (show false=true from e) alg
 |_=>exact absurd (show false=true from f) alg
def oz(x:V)(u:Value):Bool:=match u with
 |.none=>nf .aH x|.bool b=>nf (.av b) x|.int i _=>nf (.int i) x|.str z _=>nf (.str z) x|_=>false
theorem L8(r:RelV y u)(f:ni y=true):oz x u=nf y x:=by
 cases y with
 |aH=>cases r;rfl
 |av b=>cases r;rfl
 |int i=>obtain⟨t,rfl⟩:=r;rfl
 |str z=>obtain⟨t,rfl⟩:=r;rfl
 |_=>exact absurd (show false=true from f) alg
theorem BS:∀{xs:List V}{us:List Value},Vals xs us->xs.all ni=true->us.any (oz x)=xs.any λy=>nf y x
 |_,_,.nil,_=>rfl|y::xs,u::us,.cons r t,f=>by
  rw[anE,alC]at f;rw[aoQ,aoQ,L8 r f.1,BS t f.2]
theorem E6{s:alc}{v:Value}(d:RelV x v)(e:ni x=true):∀{xs:List V}{us:List Value},Vals xs us->xs.all ni=true->∀u∈us,SeqAt.EqAt A s u v (oz x u)
 |_,_,.nil,_=>λu c=>by cases c
 |y::xs,u::us,.cons r t,f=>λu' c=>by
  rw[anE,alC]at f;rcases alj.mp c with rfl|c
  .rw[L8 r f.1];exact U7 r d f.1 e
  .exact E6 d e t f.2 u' c
def Ec(x:V)(xs:List V):Bool:=xs.any λy=>nf y x
def P1(K:aN)(neg:Bool):fm:=λx y H Q=>∃p xs,y=.ref p/\(dw K H p xs\/dB K H p xs)/\ni x=true/\xs.all ni=true/\Q (.av (if neg then !Ec x xs else Ec x xs)) H
def Pd:d0 X (alY .In) (P1 X.K false):=by
 intro i s U H x y v u Q I e g h;obtain⟨p,xs,rfl,d,f,aX,q⟩:=h;cases g;rcases d with d|d
 .obtain⟨c,r,pl,hz⟩:=I.list d
  refine SeqAt.in_listAt (oz x) pl.isList (λw hw=>E6 e f r aX w (by simpa using hw)) ⟨.av _,H,I,rfl,?_⟩;rw[show c.toArray.any (oz x)=c.any (oz x)by simp,BS r aX];exact q
 .obtain⟨c,r,pl,hz⟩:=I.tuple d
  refine SeqAt.in_tupleAt (oz x) pl (λw hw=>E6 e f r aX w (by simpa using hw)) ⟨.av _,H,I,rfl,?_⟩;rw[show c.toArray.any (oz x)=c.any (oz x)by simp,BS r aX];exact q
def Uj:kc X (.builtin "len") (λxs H Q=>∃p d,xs=[.ref p]/\(dw X.K H p d\/dB X.K H p d)/\Q (.int d.length) H):=by
 intro k s U H xs us Q I r h;obtain⟨p,d,rfl,e,q⟩:=h;obtain⟨u,rfl,i⟩:=vals1 r;cases i;have j:=tU;rcases e with e|e
 .obtain⟨g,f,pl,hz⟩:=I.list e
  have c:=f.length;exact Calls.call_len_list pl.isList (by simp only[ali]<;>omega) ⟨.int d.length,H,I.tok _,⟨s.toks+1,by rw[ali,c]⟩,q⟩
 .obtain⟨g,f,pl,hz⟩:=I.tuple e
  have c:=f.length;exact len_tuple pl (by simp only[ali]<;>omega) ⟨.int d.length,H,I.tok _,⟨s.toks+1,by rw[ali,c]⟩,q⟩
def Uk:kc X (.builtin "len") (λxs H Q=>∃z,xs=[.str z]/\z.length<=ald/\Q (.int z.length) H):=by
 intro d s U H xs us Q I r h;obtain⟨z,rfl,hz,q⟩:=h;obtain⟨u,rfl,t,rfl⟩:=vals1 r;have c:=tU;exact len_str (by omega) ⟨.int z.length,H,I.tok _,⟨_,rfl⟩,q⟩
theorem Ul:kc X (.type "list") (λxs H Q=>∃p f,xs=[.ref p]/\(dw X.K H p f\/dB X.K H p f)/\∀l,H l=none->Q (.ref l) (upd H l (.l f))):=by
 intro x s U H xs us Q I r h;obtain⟨p,f,rfl,g,q⟩:=h;obtain⟨u,rfl,t⟩:=vals1 r;cases t;have fin:∀(c:List Value),Vals f c->f.length<=ald->∀(h':Heap)(c':Nat),(∀b m,s.heap.get? b=some m->h'.get? b=some m)->
   h'.get? s.heap.objs.size=some { cls:=.type "list",dict:=none,data:=.seq c.toArray c',slots:=#[] }->ij X x U Q (.ref s.heap.objs.size) { s with heap:=h' }:=λc d hz h' c' kp e=>
  ⟨.ref s.heap.objs.size,_,I.laid (t':=s.toks) kp (alf _) (show iI X.prog X.w _ h' _ (.l f)from⟨hz,c,c',d,e⟩),rfl,q _ (I.cf.fresh (alf _))⟩
 rcases g with g|g
 .obtain⟨c,d,pl,hz⟩:=I.list g
  have i:=d.length;obtain⟨o,j,k,n,hd⟩:=pl.isList;exact call_list_seq p (.inl rfl) j k hd (λh' c' kp e=>fin c d hz h' c' kp e) (by simp only[ali]<;>omega)
 .obtain⟨c,d,pl,hz⟩:=I.tuple g
  have i:=d.length;obtain⟨o,j,k,n,hd⟩:=pl;exact call_list_seq p (.inr rfl) j k hd (λh' c' kp e=>fin c d hz h' c' kp e) (by simp only[ali]<;>omega)
theorem yC:kc X (.type "tuple") (λxs H Q=>∃p d,xs=[.ref p]/\((dw X.K H p d/\∀l,H l=none->Q (.ref l) (upd H l (.t d)))\/(dB X.K H p d/\Q (.ref p) H))):=by
 intro m s U H xs us Q I r h;obtain⟨p,d,rfl,h⟩:=h;obtain⟨u,rfl,j⟩:=vals1 r;cases j;rcases h with⟨C,q⟩|⟨C,q⟩
 .obtain⟨c,f,pl,hz⟩:=I.list C
  have i:=f.length;refine call_tuple_list pl.isList (λh' kp=>?_) (by simp only[ali]<;>omega);have g:=I.kept (t':=s.toks) kp;have k:=
   g.laid (t':=s.toks) (λb o e=>ak9 _ e) (alf _) (show iI X.prog X.w _ _ _ (.t d)from⟨hz,c,f,IsTup.new _ _⟩)
  exact⟨.ref h'.objs.size,_,k,rfl,q _ (g.cf.fresh (alf _))⟩
 .obtain⟨c,f,pl,hz⟩:=I.tuple C
  exact call_tuple_same pl ⟨.ref p,H,I,rfl,q⟩
def AU(K:aN)(T:String)(x:V)(H:au):Prop:=match x with
 |.str _=>T="str"|.int _=>T="int"|.ref p=>(T="list"/\∃xs,dw K H p xs)\/(T="tuple"/\∃o,K.lookup p=some o/\o.cls=.type "tuple"/\o.dict=none)\/
   (T="dict"/\((∃c,H p=some (.td c))\/∃c,H p=some (.fY c)))\/(T="set"/\∃S n,H p=some (.set S n))
 |_=>False
def QR{s:alc}{v:Value}(I:Inv X ae U H s)(r:RelV x v)(ty:AU X.K T x H) :
  s.TypeIs v T/\∀a,v=.ref a->∃ba,s.heap.get? a=some ba/\ba.dict=none:=by
 cases x with
 |str z=>
  obtain⟨t,rfl⟩:=r;cases(show T="str" from ty);exact⟨typeIs_str s z t,λ_ e=>nomatch e⟩
 |int i=>
  obtain⟨t,rfl⟩:=r;cases(show T="int" from ty);exact⟨typeIs_int s i t,λ_ e=>nomatch e⟩
 |ref p=>
  cases r;rcases ty with⟨rfl,xs,a9⟩|⟨rfl,o,C,hc,hd⟩|⟨rfl,C⟩|⟨rfl,S,n,C⟩
  .obtain⟨d,_,pl,_⟩:=I.list a9
   refine⟨pl.isList.typeIs,λa e=>?_⟩;cases e;obtain⟨o,n,e,c,hd,_⟩:=pl;exact⟨o,e,hd⟩
  .refine⟨⟨o,I.f7 p o C,hc⟩,λa e=>?_⟩
   cases e;exact⟨o,I.f7 _ o C,hd⟩
  .have z:∃o,s.heap.get? p=some o/\o.ExactDict:=by
    rcases C with⟨du,C⟩|⟨du,C⟩
    .obtain⟨_,_,_,_,o,_,_,e,ex,_⟩:=I.cf p _ C
     exact⟨o,e,ex⟩
    .obtain⟨_,_,_,_,o,_,_,e,ex,_⟩:=I.cf p _ C
     exact⟨o,e,ex⟩
   obtain⟨o,e,ex⟩:=z;refine⟨⟨o,e,ex.1⟩,λa aE=>?_⟩;cases aE;exact⟨o,e,ex.2.1⟩
  .obtain⟨o,_,_,_,e,ex,_⟩:=I.cf p _ C
   refine⟨⟨o,e,ex.1⟩,λa aE=>?_⟩;cases aE;exact⟨o,e,ex.2.1⟩
 |_=>exact alV ty
def afS(K:aN)(T:String)(r:V->List V->au->cI->Prop)(to:TE):TE:=λU H Q=>to U H λx c=>AU K T x c/\r x [] c Q
def afR(K:aN)(T:String)(r:V->List V->au->cI->Prop)(to:TE)(t:fV):TE:=λU H Q=>to U H λx c=>AU K T x c/\t U c λxs d=>r x xs d Q
variable{o e:Expr}{az:List Expr}{to:TE}{t:fV}{name:Str}{apos dM:Pos}{T id:String}{r:V->List V->au->cI->Prop}
def adU(g:PlainAttrs T)(slot:Slot T name id)(q:typeOf (.builtin id)=pure (.type "method_descriptor"))(hm:vh X id r)(j:b6 X o to)
  (n:amG o name X.env (eval o X.env)=eval o X.env:=by rfl) (p:(apos.endLine==dM.line)=true:=by rfl):b6 X (.Call (.Attribute o name apos) [] [] dM) (afS X.K T r to):=by
 intro c s U H Q I h;refine wpAny_Call_method0_late n p (bZ (j c s U H _ I h) λv u k=>?_);obtain⟨x,i,f,d,ty,bB⟩:=k;obtain⟨l,m⟩:=QR f d ty;exact⟨T,id,g,slot,q,l,m,an3 rfl (PySem.evalArgs_none (hm c u U i x [] v [] Q f d .nil bB))⟩
def FH(i:PlainAttrs T)(slot:Slot T name id)(B:typeOf (.builtin id)=pure (.type "method_descriptor"))(hm:vh X id r)(k:b6 X o to)(q:g9 X (e::az) t)
  (z:amG o name X.env (eval o X.env)=eval o X.env:=by rfl)
  (D:((amY dM (alJ (e::az) X.env)).all (λx=>!x.1)&&(anP dM (am9 [] X.env)).all (λx=>x.1.isSome)
&&decide ((e::az).length+([]:List anW).length+(if([]:List anW).isEmpty then 0 else 1)<30))=true:=by rfl)
  (A:(apos.endLine==dM.line)=true:=by rfl) (aw:e_ X e az:=by rfl) (y:f5 X dM az:=by rfl) :
  b6 X (.Call (.Attribute o name apos) (e::az) [] dM) (afR X.K T r to t):=by
 intro c s U H Q I h;refine wpAny_Call_method_late z D A rfl (bZ (k c s U H _ I h) λv E m=>?_);obtain⟨x,j,f,d,ty,bB⟩:=m;obtain⟨n,p⟩:=QR f d ty;refine⟨T,id,i,slot,B,n,p,?_⟩;have g:=q dM c E U j _ f bB;rw[aw]at g ⊢;refine an3 (by show(false||(amY dM (alJ az X.env)).any (·.1))=false;rw[y]<;>rfl) (Calls.evalArgs_plain ?_);exact bZ g λus s2 ⟨vs,l,w,u,bY⟩=>hm c s2 U l x vs v us Q w d u bY
end
def vg(X:aQ)(id:String)(r:V->List V->au->cI->Prop):Prop:=
 ∀(a:cZ)(s:alc)(U:St)(H:au)(x:V)(xs:List V)(v:Value)(us:List Value)(Q:cI),Inv X a U H s->RelV x v->Vals xs us->r x xs H Q->
  wpAny (model X.prog X.w) X.A (call (.builtin id) (v::us)) (ij X a U Q) X.dS s
def Vals.one:∀{x:V}{us:List Value},Vals [x] us->∃u,us=[u]/\RelV x u
 |_,_,.cons r .nil=>⟨_,rfl,r⟩
theorem Vals.rep(h:Vals xs us):∀k:Nat,Vals (alp k xs).flatten (alp k us).flatten
 |0=>.nil|k+1=>by
  rw[amC,amC,am5,am5];exact Vals.append h (Vals.rep h k)
theorem foldl_rep(b:List Value):∀(k:Nat)(a:List Value),
  List.foldl (λc d=>c++d) a.toArray (alp k b.toArray)=(a++(alp k b).flatten).toArray
 | 0,a=>by simp|k+1,a=>by
  have e:a.toArray++b.toArray=(a++b).toArray:=by simp
  have aE:(a++b)++(alp k b).flatten=a++(alp (k+1) b).flatten:=by
   rw[amC,am5,am6]
  rw[<-aE,<-foldl_rep b k (a++b),<-e,amC,api]
section
variable{X:aQ}{ae:cZ}{U:St}{H:au}{s:alc}{l:Addr}{xs ys:List V}
def Inv.EK{a its':List Value}{n:Nat}{f:Array Value->Array Value}{t':Nat}(I:Inv X ae U H s)(g:H l=some (.l xs))
  (e:s.heap.get? l=some { cls:=.type "list",data:=.seq a.toArray n }) (h:f a.toArray=its'.toArray) (c:Vals ys its') (hz:ys.length<=ald) :
  Inv X ae U (upd H l (.l ys)) { s with heap:=s.heap.update l (alL f),toks:=t' }:=by
 have q:=IsL.update e f;rw[h]at q;refine I.write (by rw[g];exact trivial) (.inl rfl) (λi u b d=>(apn s.heap (alL f) (anG b)).trans d) ⟨_,q⟩ ?_;exact⟨hz,its',_,c,q⟩
def Inv.EH{t':Nat}(I:Inv X ae U H s)(a:Vals ys its)(hz:ys.length<=ald) :
  Inv X ae U (upd H s.heap.objs.size (.l ys)) { s with heap:=s.heap.push { cls:=.type "list",data:=.seq its.toArray },toks:=t' }:=
 I.laid (λ_ _ q=>ak9 _ q) (alf _) ⟨hz,its,0,a,alk _ rfl⟩
def Inv.fresh(I:Inv X ae U H s):H s.heap.objs.size=none:=I.cf.fresh (alf _)
def Inv.rX(I:Inv X ae U H s)(b:H l=some (.l xs)):xs.length<=ald/\∃(a:List Value)(n:Nat),Vals xs a/\xs.length=a.length/\s.heap.get? l=some { cls:=.type "list",data:=.seq a.toArray n }:=by
 obtain⟨z,a,n,r,e⟩:=I.cf l _ b;exact⟨z,a,n,r,r.length,e⟩
def Fg(h:n<=ald):amR n=false:=decide_eq_false (by omega)
end
section
variable{X:aQ}
def PX:V->List V->au->cI->Prop:=λx vs H Q=>∃l xs y,x=.ref l/\vs=[y]/\H l=some (.l xs)/\xs.length<ald/\Q .aH (upd H l (.l (xs++[y])))
def uk:vg X "list.append" PX:=by
 intro g s U H x vs v us Q I c d h;obtain⟨l,xs,y,rfl,rfl,b,hz,q⟩:=h;cases c;obtain⟨u,rfl,f⟩:=d.one;obtain⟨z,a,n,r,hl,e⟩:=I.rX b;refine aoZ F.slot_list_append ⟨_,e,rfl⟩ F.entry_list_append (F.args_list_append_2 _ _) (PySem.list_append l a.toArray n u (by rw[ali];omega)) ⟨e,?_⟩;refine⟨.aH,_,I.EK b e (by simp) (r.append (.cons f .nil)) ?_,rfl,q⟩;rw[alb,amj];omega
def P0:V->List V->au->cI->Prop:=λx vs H Q=>∃l b xs a,x=.ref l/\vs=[.ref b]/\H l=some (.l xs)/\H b=some (.l a)/\xs.length+a.length<=ald/\Q .aH (upd H l (.l (xs++a)))
def abb:vg X "list.extend" P0:=by
 intro w s U H x vs v us Q I f g h;obtain⟨l,b,xs,B,rfl,rfl,d,p,hz,q⟩:=h;cases f;obtain⟨u,rfl,k⟩:=g.one;cases k;obtain⟨z,a,n,r,hl,e⟩:=I.rX d;obtain⟨y,c,j,i,A,aE⟩:=I.rX p;have m:a.toArray.size+c.toArray.size<=ald:=by rw[ali,ali];omega
 have t:¬(!a.toArray.isEmpty&&amR (a.toArray.size+c.toArray.size))=true:=by
  rw[Fg m,Bool.and_false];exact alg
 refine aoZ F.slot_list_extend ⟨_,e,rfl⟩ F.entry_list_extend (F.args_list_extend_2 _ _)
  (AutoSeq1.list_extend_list_list_0 l a.toArray n b c.toArray j t (by omega) (by omega)) ⟨e,aE,?_⟩
 refine⟨.aH,_,I.EK d e (by simp) (r.append i) ?_,rfl,q⟩;rw[alb];omega
def PY:fm:=λx y H Q=>∃l b xs a,x=.ref l/\y=.ref b/\H l=some (.l xs)/\H b=some (.l a)/\xs.length+a.length<=ald/\∀p,H p=none->Q (.ref p) (upd H p (.l (xs++a)))
def ac6:d0 X (amQ .Add) PY:=by
 intro m s U H x y v u Q I d f h;obtain⟨l,b,xs,A,rfl,rfl,j,k,hz,q⟩:=h;cases d;cases f;obtain⟨z,a,n,r,hl,e⟩:=I.rX j;obtain⟨t,c,p,g,w,aE⟩:=I.rX k;refine P.add_list e aE ?_ (by rw[ali,ali];omega);have i:a.toArray++c.toArray=(a++c).toArray:=by simp
 rw[i];exact⟨.ref _,_,I.EH (r.append g) (by rw[alb];omega),rfl,q _ I.fresh⟩
def P8:fm:=λx y H Q=>∃l k xs,x=.ref l/\y=.int k/\H l=some (.l xs)/\-(2 ^ 63)<=k/\k<2 ^ 63/\xs.length*k.toNat<=ald/\
 ∀p,H p=none->Q (.ref p) (upd H p (.l (alp k.toNat xs).flatten))
def len_rep{α:Type}(xs:List α)(k:Nat):(alp k xs).flatten.length=k*xs.length:=by
 induction k with
 |zero=>simp|succ k a=>rw[amC,am5,alb,a,Nat.succ_mul,Nat.add_comm]
def adh:d0 X (amQ .Mult) P8:=by
 intro K s U H x y v u Q I p D h;obtain⟨l,k,xs,rfl,rfl,E,A,B,hz,q⟩:=h;cases p;obtain⟨t,rfl⟩:=D;obtain⟨z,b,n,r,hl,e⟩:=I.rX E;have c:b.toArray.size*k.toNat<=ald:=by rw[ali,<-hl];exact hz
 have g:¬b.toArray.size*k.toNat > (2 ^ 63-1) / 8:=by
  have:(ald:Nat)<=(2 ^ 63-1) / 8:=by decide
  omega
 have j:¬(!Builtin.List.listFitsIndex k)=true:=by
  rw[fitsIndex_both A B];exact alg
 have J:¬amR (b.toArray.size*k.toNat)=true:=by
  rw[Fg c];exact alg
 have i:List.foldl (λd f=>d++f) #[] (alp (if b.toArray.isEmpty=true then 0 else k.toNat) b.toArray)=(alp k.toNat b).flatten.toArray:=by
  have G:∀m:Nat,List.foldl (λd f=>d++f) #[] (alp m b.toArray)=(alp m b).flatten.toArray:=λm=>by
   have:=foldl_rep b m [];rw[List.nil_append]at this;exact this
  rw[G]
  cases b with
  |nil=>simp| cons a L=>rw[if_neg (by simp)]
 refine wpAny_binaryOp_repeat_ref (T:="list") (U:="int") (by decide) ⟨_,e,rfl⟩ (λw=>typeIs_int w k t) noFill_list_mul F.fills_int_mul F.slot_int_rmul repeat_list F.slot_int_index.lookup
  (aoZ F.slot_int_rmul (typeIs_int s k t) F.entry_int_rmul (F.args_int_rmul_2 _ _) (int___rmul___int_list k t l b.toArray n)
   ⟨e,rfl,⟨_,e,rfl⟩,aoZ F.slot_list_mul ⟨_,e,rfl⟩ F.entry_list_mul (F.args_list_mul_2 _ _) (AutoListH.list___mul___list_int_3 l b.toArray n k t j g J) ⟨e,?_⟩⟩)
 rw[i];exact⟨.ref _,_,I.EH (t':=s.toks) (r.rep k.toNat) (by rw[len_rep,Nat.mul_comm];exact hz),rfl,q _ I.fresh⟩
end
end aA
namespace G6
open PySem PySem.W PySem.Calls PyProof.Rows
def Zy:∀(ns:List Int)(vs:List Value),WellAll P h vs (ns.map WData.int)->anc vs ns:=by
 intro ns
 induction ns with
 |nil=>
  intro vs w;rw[List.map_nil]at w;cases w;exact .nil
 |cons n ns c=>
  intro vs w;rw[alv]at w
  cases w with
  |cons a b=>
   cases a;exact .cons _ _ (c _ b)
def afh{l:OpenLaw}{n:Nat}(p:l.most=some n){P:Params}{h:Heap}{args:List WData}{b:List Value}
  (j:l.row.toRowW.claim.pre args=true) (k:WellAll P h b args) :
  ∃a vs ns,b=[amU a]/\args=[WData.list (ns.map WData.int)]/\h.get? a=some { cls:=.type "list",data:=.seq vs.toArray }/\anc vs ns/\ns.length<=n:=by
 have w:WShape.hasAll [] args [.list .int]=true:=(pre_splitW j).1;have i:l.pre.holds [] { args:=args }=true:=(pre_splitW j).2;obtain⟨d,r,rfl,s,t⟩:=hasAllW_cons w;obtain rfl:=hasAllW_nil t;obtain⟨xs,rfl,u⟩:=hasW_list s;obtain⟨ns,rfl⟩:=items_int u;have e:ns.length<=n:=by
  unfold OpenLaw.pre at i;have f:(WTm.not (.lt (.lit (.int (n:Int))) (.len (.arg 0)))).holds [] { args:=[.list (ns.map .int)] }=true:=by
   have f:=(holds_andW i).1;rw[p]at f;exact f
  have g:=condW_of f (w_not (w_lt w_lit (w_len_list (w_arg rfl))));rw[ala]at g;refine Nat.le_of_not_lt λq=>?_
  have z:(n:Int)<((ns.length:Nat):Int):=by omega
  (simp at g;omega)
 cases k with
 |cons x y=>
  cases y
  cases x with
  |list m c=>exact⟨_,_,ns,rfl,rfl,m,Zy ns _ c,e⟩
def aes(l:OpenLaw)(args:List WData):l.row.toRowW.claim.post args (.bool true) args=true:=
 postW_of (r:=l.row.toRowW) (X:=(true==true))
  (show WShape.has [] (.bool true) .bool=true by rfl)
  (show(WTm.eq .res (.lit (.bool true))).value [] { args:=args,res:=some (.bool true),after:=args }=some (.bool (true==true))from w_eq_bool (w_res rfl) w_lit) rfl
def Sf{l:OpenLaw}{n:Nat}{q:aly}{c:List Str}{t:(Str->Option Value)->Heap->Prop}{s:World->Heap->Prop}{d:DefRec}
  (B:l.most=some n) (x:d.params.defaults=[])
  (call:∀(w:World)(g4 b:alc)(mg j:bp)(fa:Addr)(o:Obj)(k cd e:Value)(a:Addr)(vs:List Value)(ns:List Int),
   Ground q c [] t w g4 mg j b.heap->s w b.heap->
   b.heap.get? fa=some o->o.data=.func (docDef d.name d.params d.body d.scope k cd e)->b.heap.CodeRec cd d.name->mg d.name=some (.ref fa)->
   b.heap.get? a=some { cls:=.type "list",data:=.seq vs.toArray }->anc vs ns->ns.length<=n->b.gens=#[]->
   anH (model l.prog w) ao3 (.call (.ref fa) ⟨[.ref a],[]⟩) (λr i=>r=.ok (.ret (.bool true))/\OldK b.heap i.heap/\i.os=b.os/\aoi i.gens) b) :
  WalkO q c t s l.row.toRowW d [] (λf vs=>PySem.call f vs):=by
 intro w g4 b mg j G Y fa o k cd e N dy z hd M m O D args p as P F J u H;obtain rfl:N=.none:=Dflts.none m x;obtain rfl:dy=.none:=Dflts.noKw m;obtain⟨a,vs,ns,rfl,rfl,y,g,h⟩:=afh B P u;refine enter_call (anz (call w g4 b mg j fa o k cd e a vs ns G Y z (fd_plain hd) M O y g h D) λr i A=>?_);obtain⟨rfl,E,K,L⟩:=A;exact⟨.inl ⟨.bool true,.bool true,[],rfl,λ_=>rfl,.bool true,aes l _,λ_=>⟨List.Pairwise.nil,λ_ hm=>(nomatch hm)⟩⟩,E,K,L⟩
end G6
namespace aA
open PySem PySem.Spec PyProof.Rows
theorem QW:∀{vs:List Value}{ns:List Int},anc vs ns->Vals (ns.map V.int) vs
 |_,_,.nil=>.nil|_,_,.cons n t h=>.cons ⟨t,rfl⟩ (QW h)
abbrev iF{K:aN}{h:Heap}(_:K.In h):aN:=K
def inClass(s:Stmt)(j:Nat):Stmt:=match s with
 |.ClassDef _ _ _ body _ _ _ _ _ _ _=>body.getD j (.Pass ⟨0,0,0,0⟩)|_=>.Pass ⟨0,0,0,0⟩
def iO(s:Stmt):anR:=match s with
 |.FunctionDef _ a _ _ _ _ _ _ _ _=>a|_=>{ posonlyargs:=[],args:=[],vararg:=none,kwonlyargs:=[],kw_defaults:=[],kwarg:=none,defaults:=[] }
def fO(s:Stmt):List Stmt:=match s with
 |.FunctionDef _ _ b _ _ _ _ _ _ _=>b|_=>[]
def dm(s:Stmt):Scope:=match s with
 |.FunctionDef _ _ _ _ _ _ a _ _ _=>a|_=>{ kind:=.function,names:=[],isGenerator:=false,isCoroutine:=false }
abbrev eC:mQ:=λ_ _ _ _ _ _=>False
abbrev i1:gx:=λ_ _ _=>False
def qF:Passes eC X i1:=λ_ _ _ _ _ _ _ h=>h.elim
structure kX(K:aN)(x qual:Str)(st:Stmt)(f:Addr)(fd:ame):Prop where
 ex:∃(c1:Value)(di:Option Addr)(dy doc pm:Value)(an:Option Addr)(bP cz:Value)(f':Array (Option Value)),
  fd=amW x qual (iO st) (fO st) (dm st) .none dy doc pm an bP cz/\K.lookup f=some ⟨c1,di,.func fd,f'⟩/\aoz K bP qual=true
 kp:amX K (.ref f)=true
section
variable{P:aly}{w:World}{K:aN}{mg:bp}{base:Heap}
def kX.ok{x qual:Str}{st:Stmt}{f:Addr}{b:ame}{N ps:List Str}{k:Nat}{sp:en}(F:kX K x qual st f b)(S:g8 N ps (dm st))(len:∀vs H Q E,sp vs H Q E->vs.length=ps.length)
  (l:∀(a:Value)(A:alI)(outer:List Env)(s:alc)(H:au)(vs:List V)(Q:cI)(E:gx),cB k (A.deeper (anA qual (dm st) s.heap.objs.size f a))->sp vs H Q E->
   ∃t,ip (ha eC P w K mg base N qual (dm st) f a A outer s H E).gI (fO st) t/\t { bA:=λ_ c=>Q .aH c,b9:=Q } (start N vs) H):e6 P w K mg base eC (k+1) f b ps sp:=by
 obtain⟨c1,n,dy,e,r,m,a,cz,p,rfl,j,g⟩:=F.ex;refine Di j g S len λA outer s H vs Q E d i=>?_
 obtain⟨t,h,q⟩:=l a A outer s H vs Q E d i;exact⟨t,h.gI,q⟩
def kX.binds{x qual:Str}{st:Stmt}{f:Addr}{e:ame}{ps:List Str}(F:kX K x qual st f e)
  (h:∀(dy a d:Value)(b:Option Addr)(c cz:Value)(us:List Value),us.length=ps.length->anf (amW x qual (iO st) (fO st) (dm st) .none dy a d b c cz) ⟨us,[]⟩=pure (ps.zip us)):Binds K e ps []:=by
 obtain⟨c1,g,dy,a,d,b,c,cz,i,rfl,k,j⟩:=F.ex;exact .all (h dy a d b c cz)
def yZ{x qual:Str}{st:Stmt}{f:Addr}{c1:Value}{g d:Option Addr}{h:Array (Option Value)}{dy a e b cz:Value}(l:K.lookup f=some ⟨c1,g,.func (amW x qual (iO st) (fO st) (dm st) .none dy a e d b cz),h⟩)
  (c:aoz K b qual=true) (k:amX K (.ref f)=true):kX K x qual st f (amW x qual (iO st) (fO st) (dm st) .none dy a e d b cz):=⟨⟨c1,g,dy,a,e,d,b,cz,h,rfl,l,c⟩,k⟩
end
def gb(h:n<=1000):n<ald:=Nat.lt_of_le_of_lt h (by decide)
def nA{A B:Prop}(h:B):if false=true then A else B:=h
def nB{A B:Prop}(h:A):if true=true then A else B:=h
end aA
set_option maxHeartbeats 4000000
namespace aA
open PySem PySem.Spec PyProof.Rows
section
variable{κ:Type}[DecidableEq κ]
def GJ(a:List (κ×V))(k:κ):Option V:=(a.find? λb=>decide (b.1=k)).map (·.2)
end
def Bz(i:Expr):Prop:=∀cp a,apm i false cp a=operate [cp,a] (aoj cp a)
def afM{prog:aly}{w:World}{A:alI}{E:dp}{s:alc}{env:Env}{value a:Expr}{pos:Pos}{T id:String}{Q:dp}
  (hl:typeLookup (.type T) "__getitem__"=pure (some (.builtin id))) (aw:Bz a)
  (h:wpAny (model prog w) A (eval value env) (λo d=>wpAny (model prog w) A (eval a env) (λi b=>b.TypeIs o T/\wpAny (model prog w) A (aoj o i) Q E b) E d) E s) :
  wpAny (model prog w) A (eval (.Subscript value a pos) env) Q E s:=by
 refine Subscript_ (al9 h (λo d g=>al9 g (λi b c=>?_) λ_ _ x=>x) λ_ _ x=>x);obtain⟨f,c⟩:=c;refine ak7<|ak7 (wpAny_specialOf f hl ?_)
 have fin:wpAny (model prog w) A (apm a false o i) (λr e=>wpAny (model prog w) A (letTemporaryGo value o r >>= λ_=>pure r) Q E e) E b:=by
  rw[aw o i];exact wpAny_operating (al9 c (λr e j=>ak7 (wpAny_letTemporaryGo (alm j))) λ_ _ x=>x)
 first
  |exact alm (ak7 fin)
  |exact ak7 (alm (ak7 fin))
  |exact ak7 fin
structure gh(X:aQ)(o:Expr)(m:Str)(apos:Pos)(e:Expr)(dM:Pos):Prop where
 base:amG o m X.env (eval o X.env)=eval o X.env
 Vg:((amY dM (alJ [e] X.env)).all (λx=>!x.1)&&(anP dM (am9 [] X.env)).all (λx=>x.1.isSome)
&&decide (([e]:List Expr).length+([]:List anW).length+(if([]:List anW).isEmpty then 0 else 1)<30))=true
 line:(apos.endLine==dM.line)=true
 trees:amY dM (alJ [e] X.env)=[(false,eval e X.env)]
class a0 where
 ic:Addr->Prop
 uJ:Addr->Str
def pa:gP->Prop
 |.gc _=>False|_=>True
def rj(c:Addr)(q:Str):Heap->Prop:=λh=>h.CodeRec (.ref c) q
def RR[a0](H:au)(P:Addr):Prop:=∃ps:Array Value,H P=some (.gc ps)/\apj ps.toList/\∀pos a,aoH pos ps.toList=some a->∃c,a=.ref c/\H c=some (.ext (rj c (a0.uJ P)))
def TabsOk[a0](H:au):Prop:=∀P,a0.ic P->RR H P
structure eD[a0](H H':au):Prop where
 at':∀b o,H b=some o->(h:pa o:=by exact trivial)->H' b=some o
 cL:∀b ps,H b=some (.gc ps)->∃ly,H' b=some (.gc ly)
 b4:TabsOk H->TabsOk H'
variable[a0]
def abj(o:gP):pa o\/∃ps,o=.gc ps:=by cases o<;>first|exact .inl trivial|exact .inr ⟨_,rfl⟩
def eD.refl(H:au):eD H H:=⟨λ_ _ h _=>h,λ_ ps h=>⟨ps,h⟩,id⟩
def eD.trans(a:eD H H1)(b:eD H1 C):eD H C:=
 ⟨λc o h n=>b.at' c o (a.at' c o h n) n,λc ps h=>let⟨p1,aq⟩:=a.cL c ps h;b.cL c p1 aq,λg=>b.b4 (a.b4 g)⟩
def eD.some{H a:au}(s:eD H a)(h:H b≠none):a b≠none:=by
 cases e:H b with
 |none=>exact absurd e h|some o=>
  rcases abj o with n|⟨ps,rfl⟩
  .rw[s.at' b o e n];intro z;cases z
  .obtain⟨p,q⟩:=s.cL b ps e;rw[q];intro z;cases z
def eD.free{H a:au}(e:eD H a)(h:a l=Option.none):H l=Option.none:=by
 cases q:H l with
 |none=>rfl| some o=>exact absurd h (e.some (by rw[q];intro z;cases z))
def eD.seq{K:aN}{H b:au}{a:Addr}{xs:List V}(e:eD H b)(h:dw K H a xs):dw K b a xs:=by
 rcases h with(h|⟨o,h⟩)|h
 .exact .inl (.inl (e.at' _ _ h))
 .exact .inl (.inr ⟨o,e.at' _ _ h⟩)
 .exact .inr h
def TabsOk.put{H:au}(g:TabsOk H)(o:gP)(a:∀ps,H p≠some (.gc ps))(b:∀q,H p≠some (.ext (rj p q))):TabsOk (upd H p o):=λP d=>by
 obtain⟨ps,e,t,c⟩:=g P d;refine⟨ps,by rw[c3 (by rintro rfl;exact a _ e)];exact e,t,λpos h f=>?_⟩;obtain⟨c',aq,aE⟩:=c pos h f;exact⟨c',aq,by rw[c3 (by rintro rfl;exact b _ aE)];exact aE⟩
def TabsOk.new{H:au}(g:TabsOk H)(h:H p=none)(o:gP):TabsOk (upd H p o):=g.put o (λps=>by rw[h];intro z;cases z) (λa=>by rw[h];intro z;cases z)
def TabsOk.l{H:au}{p:Addr}{a:List V}(g:TabsOk H)(h:H p=some (.l a))(o:gP):TabsOk (upd H p o):=g.put o (λps=>by rw[h];intro z;cases z) (λb=>by rw[h];intro z;cases z)
def uP{H:au}(h:H p=none)(o:gP):eD H (upd H p o):=
 ⟨λb u q _=>by rw[c3 (kF q h)];exact q,λb ps q=>⟨ps,by rw[c3 (kF q h)];exact q⟩,λg=>g.new h o⟩
def xJ{a H:au}{D:Addr}(c:a D=none)(s:eD a H)(hl:H D=some (.l zs))(o:gP):eD a (upd H D o):=
 ⟨λb u q n=>by rw[c3 (kF q c)];exact s.at' b u q n,λb ps q=>by rw[c3 (kF q c)];exact s.cL b ps q,λg=>(s.b4 g).l hl o⟩
end aA
namespace aA
open PySem
def ou(env:Env):List (Str×ans)->List (Str×Addr)->List (Str×Addr)
 |[],acc=>acc|(n,k)::r,acc=>if(k==aoa)=true then ou env r ((n,(env.cells.lookup n).getD 0)::acc)else ou env r acc
abbrev p_(scope:Scope)(env:Env):List (Str×Addr):=ou env scope.names []
def JQ{scope:Scope}{env:Env}(h:∀y∈scope.names,y.2=.free->∃c,env.cells.lookup y.1=some c):anY scope env=pure (p_ scope env):=by
 unfold anY p_;generalize scope.names=ns at h;generalize([]:List (Str×Addr))=a;show(forIn ns a _ >>= _)=_
 induction ns generalizing a with
 |nil=>rfl|cons y r g=>
  obtain⟨n,k⟩:=y;rw[List.forIn_cons];have d:=λa=>g (λy f=>h y (alh _ f)) a
  by_cases b:(k==aoa)=true
  .have i:k=.free:=by simpa using b
   obtain⟨c,e⟩:=h (n,k) alo i;have aq:cellOf env n=pure c:=by unfold cellOf;rw[e]
   simp only[b,aq,ou,e];exact d _
  .simp only[b,ou]
   exact d _
theorem CF{env:Env}:∀{ns:List (Str×ans)}{acc:List (Str×Addr)}{p:Str×Addr},p∈ou env ns acc->p∈acc\/∃k,(p.1,k)∈ns/\k=aoa/\p.2=(env.cells.lookup p.1).getD 0
 |[],_,_,h=>.inl h|(n,k)::r,acc,p,h=>by
  unfold ou at h;split at h
  .rename_i c
   rcases CF h with h|⟨o,a,b⟩
   .rcases alj.mp h with rfl|h
    .exact .inr ⟨k,alo,by simpa using c,rfl⟩
    .exact .inl h
   .exact .inr ⟨o,alh _ a,b⟩
  .rcases CF h with h|⟨o,a,b⟩
   .exact .inl h
   .exact .inr ⟨o,alh _ a,b⟩
theorem CE:∀{ns:List (Str×ans)}{acc:List (Str×Addr)}{y:Str},((y,aoa)∈ns\/∃c,(y,c)∈acc)->∃c,(y,c)∈ou env ns acc
 |[],_,_,h=>by
  rcases h with h|h
  .cases h
  .exact h
 |(n,k)::r,acc,y,h=>by
  unfold ou;split
  .refine CE ?_
   rcases h with h|⟨c,h⟩
   .rcases alj.mp h with e|h
    .cases e;exact .inr ⟨_,alo⟩
    .exact .inl h
   .exact .inr ⟨c,alh _ h⟩
  .rename_i a
   refine CE ?_;rcases h with h|h
   .rcases alj.mp h with e|h
    .cases e;exact absurd rfl a
    .exact .inl h
   .exact .inr h
theorem Ou{α:Type}{y:Str}{c:α}:∀{l:List (Str×α)},(y,c)∈l->∃c',l.lookup y=some c'
 |(n,k)::r,h=>by
  by_cases e:(y==n)=true
  .exact⟨k,by rw[als,e]⟩
  .have a:(y==n)=false:=by simpa using e
   rcases alj.mp h with z|z
   .cases z;simp at e
   .obtain⟨c',q⟩:=Ou z
    exact⟨c',by rw[als,a];exact q⟩
def Uw{scope:Scope}{env:Env}(h:∀y∈scope.names,y.2=.free->∃c,env.cells.lookup y.1=some c)(e:(p_ scope env).lookup y=some c):env.cells.lookup y=some c:=by
 rcases CF (amu e)with z|⟨k,a,b,d⟩
 .cases z
 .obtain⟨c',q⟩:=h _ a b
  have d':=d;rw[q]at d' ⊢;exact congrArg some d'.symm
def JO{scope:Scope}(h:scope.names.lookup y=some .free):∃c,(p_ scope env).lookup y=some c:=by
 obtain⟨c,q⟩:=CE (.inl (amu h));exact Ou q
theorem OD{g:Str×ans->Str×ans}{y:Str}(a:∀p,(g p).1=p.1)(b:∀p,p.2≠.cell->(g p).2=.cell\/(g p).2=.free->p.2=.free) :
  ∀{ns:List (Str×ans)},(∀z∈ns,z.2≠apy)->((ns.map g).lookup y=some .cell\/(ns.map g).lookup y=some .free)->ns.lookup y=some .free
 | [],_,h=>by simp at h|p::r,hc,h=>by
  rw[alv]at h;have bB:=a p;have bY:=b p (hc p alo);generalize g p=q at h bB bY;obtain⟨iW,c⟩:=q;obtain⟨n,k⟩:=p;subst bB;rw[als]at h ⊢
  cases e:(y==iW)with
  |true=>
   rw[e]at h;exact congrArg some (bY (h.imp alE alE))
  |false=>
   rw[e]at h;exact(OD a b λz hz=>hc z (alh _ hz)) h
def aeU{scope:Scope}(c:∀z∈scope.names,z.2≠apy)(h:(relabel scope env).names.lookup y=some .cell\/(relabel scope env).names.lookup y=some .free):scope.names.lookup y=some .free:=by
 refine OD (λp=>?_) (λp a q=>?_) c h
 .obtain⟨n,k⟩:=p
  dsimp only;split<;>rfl
 .obtain⟨n,k⟩:=p
  dsimp only at q a ⊢;split at q
  .rename_i b
   have:=(alC _ _▸(alC _ _▸b).1).1;simpa using this
  .exact q.elim (λz=>absurd z a) id
end aA
namespace aA
open PySem PySem.Spec PyProof.Rows
def d6(X:aQ)(scope:Scope)(N:List Str)(C:Addr)(a:List Addr)(s:alc)(H:au):aQ where
 prog:=X.prog
 w:=X.w
 K:=X.K
 mg:=X.mg
 base:=X.base
 A:=X.A
 N:=N
 g4:=s
 H₀:=H
 env:=compEnvC scope (p_ scope X.env) C X.env
 outer:=X.stack
 stack:=X.stack
 ex:=a
 fn:=λ_=>false
 calm:=X.calm
 nW:=[]
 dS:=λ_ _=>False
abbrev oh(X:aQ)(scope:Scope)(N:List Str)(x:Str):Prop:=∀C a s H,Loc (d6 X scope N C a s H).env.scope x/\(d6 X scope N C a s H).env.scope.names.lookup x=some .local
abbrev Hw(X:aQ)(scope:Scope)(N:List Str)(x:Str)(p1:Pos)(y:Str)(cG:Pos):Prop:=∀C a s H,(al4 [.Name x p1,.Name y cG] (d6 X scope N C a s H).env).length=2/\(al4 [.Name x p1,.Name y cG] (d6 X scope N C a s H).env).findIdx? (·.1)=none/\(al4 [.Name x p1,.Name y cG] (d6 X scope N C a s H).env).map (·.2)=anm (.Name x p1) (d6 X scope N C a s H).env::(al4 [.Name y cG] (d6 X scope N C a s H).env).map (·.2)/\(al4 [.Name y cG] (d6 X scope N C a s H).env).map (·.2)=anm (.Name y cG) (d6 X scope N C a s H).env::(al4 [] (d6 X scope N C a s H).env).map (·.2)
structure kV(esc scope:Scope)(EN N:List Str)(n:Nat)(cap:List Nat):Prop where
 kind:scope.kind=.function
 cell:∀y∈scope.names,y.2≠.cell
 loc:∀y∈scope.names,y.2=.local->scope.names.lookup y.1=some .local
 free:∀y∈scope.names,y.2=.free->esc.names.lookup y.1=some .cell\/esc.names.lookup y.1=some .free
 fI:N.Nodup
 len:N.length=n+cap.length
 Uo:∀j<cap.length,N[n+j]? = EN[cap.getD j 0]?/\∀x,N[n+j]? = some x->scope.names.lookup x=some .free
def gj(n:Nat)(cap:List Nat)(U:St):St:=alp n none++cap.map λk=>(U[k]?).join
def UD{cap:List Nat}:(gj n cap U).length=n+cap.length:=by
 unfold gj;rw[alb,al8,ala]
def UC{cap:List Nat}{U:St}{v:V}(h:(gj n cap U)[i]? = some (some v)):∃j,i=n+j/\j<cap.length/\U[cap.getD j 0]? = some (some v):=by
 unfold gj at h
 by_cases hi:i<n
 .rw[alz (by simpa using hi),amA,if_pos hi]at h
  cases h
 .rw[alw (by simpa using hi),al8,alr]at h
  cases e:cap[i-n]? with
  |none=>rw[e]at h;cases h
  |some k=>
   rw[e]at h;refine⟨i-n,by omega,((ak8.mp e).1),?_⟩;have h':(U[k]?).join=some v:=alE h;rw[al1,e,Option.getD_some]
   cases q:U[k]? with
   |none=>rw[q]at h';cases h'
   |some z=>rw[q]at h';exact congrArg some h'
section
variable{X:aQ}{scope esc:Scope}{EN N:List Str}{n:Nat}{cap:List Nat}{ae:cZ}{U:St}{H:au}{s:alc}{bf:List Addr}
def ZC{h':Heap}{tk:Nat}{m:bp}(S:kV esc scope EN N n cap)(he:X.env.scope=esc)(hN:X.N=EN)(I:Inv X ae U H s)(g:∀b∈bf,hn X ae H b)(J:∀b∈bf,∃o,s.heap.get? b=some o)
  (T:h'.Ns s.heap.objs.size m) (k:∀b o,s.heap.get? b=some o->h'.get? b=some o) :
  Inv (d6 X scope N s.heap.objs.size bf s H) [] (gj n cap U) H { s with heap:=h',toks:=tk }:=by
 have R:∀y∈scope.names,y.2=.free->∃c,X.env.cells.lookup y.1=some c:=λy A P=>by
  refine I.ok.has y.1 ?_;show X.env.scope.names.lookup y.1=_\/X.env.scope.names.lookup y.1=_;rw[he];exact S.free y A P
 have up:∀{y:Str}{c:Addr},(p_ scope X.env).lookup y=some c->X.env.cells.lookup y=some c:=λ{y c} e=>Uw R e
 have B:∀y,(d6 X scope N s.heap.objs.size bf s H).env.kindOf y=some .cell\/(d6 X scope N s.heap.objs.size bf s H).env.kindOf y=some .free->scope.names.lookup y=some .free:=λy h=>aeU S.cell h
 have a:∀c v,s.heap.IsCell c v->h'.IsCell c v:=λc v ⟨o,e,d⟩=>⟨o,k c o e,d⟩
 refine⟨⟨I.ok.mod,S.kind,I.ok.glob,I.ok.blt,alf _,λx y c L M=>I.ok.inj x y c (up L) (up M),λy A=>JO (B y A),λ_ _ z=>absurd z alg,I.ok.hd,I.ok.frames,.inl rfl,λb f=>⟨?_,λx c e=>(g b f).2.2.2.2.1 x c (up e)⟩,I.bs,alR I.ok.lV I.pC,λb o e f=>?_,λb f hz=>?_,I.stack,I.QA⟩,
  rfl,I.bare,gR.kept k,⟨m,T,λi x v aq aE cX=>?_⟩,λx c e=>?_,I.cf.fresh (alf _),λx c e=>I.lY x c (up e),λp K=>absurd (show p∈([]:cZ)from K) (by simp),I.cf.kept k,?_⟩
 .obtain⟨o,e⟩:=J b f
  exact alQ (alq e)
 .rcases(g b f).2.2.2.1 with z|z
  .exact I.ok.w7 b o e z
  .exact absurd (alO (alq e) (alR I.ok.lV z)) (al5 _)
 .rcases alj.mp (I.Gr b hz)with z|z
  .exact(g b f).2.1 z
  .exact(g b f).2.2.1 z
 .obtain⟨j,rfl,Q,eO⟩:=UC aE
  obtain⟨bg,aj⟩:=S.Uo j Q;have aq:N[n+j]? = some x:=aq;have t:=aj x aq;rw[aq,<-hN]at bg;obtain⟨c,E⟩:=JO t;obtain⟨V,O,hl⟩:=I.loc;have F:X.env.scope.names.lookup x=some .cell\/X.env.scope.names.lookup x=some .free:=by
   rw[he];exact S.free (x,.free) (amu t) rfl
  obtain⟨u,r,l⟩:=hl _ x v bg.symm eO (F.elim (λz=>.inr (.inl z)) λz=>.inr (.inr z));refine⟨u,r,.inr ⟨?_,c,E,?_⟩⟩
  .rcases cX with z|z|z
   .exfalso
    have hz:∀ns:List (Str×ans),ns.lookup x=some .free->(ns.map λ(n,k)=>if(k==aoa&&X.env.scope.kind==.function&&X.env.kindOf n==some .cell)then(n,apy)else(n,k)).lookup x≠some .local:=by
     intro ns
     induction ns with
     |nil=>intro h;simp at h|cons p r D=>
      obtain⟨nW,W⟩:=p;intro h;rw[alv];rw[als]at h
      cases q:(x==nW)with
      |true=>
       rw[q]at h;have h':=alE h;subst h';dsimp only;split
       .rw[als,q];intro w;cases w
       .rw[als,q];intro w;cases w
      |false=>
       rw[q]at h;dsimp only;split
       .rw[als,q];exact D h
       .rw[als,q];exact D h
    exact hz _ t z
   .exact .inl z
   .exact .inr z
  .rcases l with⟨q,_⟩|⟨_,c',k8,z⟩
   .exfalso
    have G:X.env.scope.names.lookup x=some .local:=q;rcases F with w|w<;>rw[w]at G<;>cases G
   .rw[up E]at k8
    cases k8;exact a c _ z
 .obtain⟨v,z⟩:=I.cell x c (up e)
  exact⟨v,a c v z⟩
 .show(gj n cap U).length=N.length
  rw[UD,S.len]
def Zz{N:List Str}(I:Inv X ae U H s)(d:∀b∈bf,hn X ae H b)(c:Inv (d6 X scope N C bf s H) akN U' H' o):Inv X ae U H' o:=
 I.Uc c.os c.base c.cf c.bare λb a=>⟨(d b a).2.2.2.1,(d b a).2.1,(d b a).2.2.2.2.1,(d b a).2.2.2.2.2⟩
end
section
variable{X:aQ}
def sS(X:aQ)(a:List Expr)(t:TT):Prop:=
 ∀(b:cZ)(s:alc)(U:St)(H:au)(Q:Bool->au->Prop),Inv X b U H s->t U H Q->
  wpAny (model X.prog X.w) X.A (forIn a true λc r=>if r=true then do let ok <-isTrue c X.env (eval c X.env);pure (aop ok)else pure (aop r)) (BF X b U Q) X.dS s
def Gy:TT:=λ_ H Q=>Q true H
def Px:sS X [] Gy:=λ_ _ _ H _ I h=>wpAny_tests_nil ⟨H,I,h⟩
def aei{t:TT}(h:iq X c t):sS X [c] t:=λb s U H Q I a=>wpAny_tests_one (h b s U H Q I a)
end
section
variable{prog:aly}{w:World}{A:alI}{R:Result->alc->Prop}{s:alc}
def Ux{d a f:Expr}{e:List Expr}{scope:Scope}{pos:Pos}{it b:Value}{env:Env}(I:Nat->alc->Prop)
  (turn:∀n s,I n s->wpAny (model prog w) A (pyNext it) (λr g=>match r with
   |none=>R (.ok .next) g| some v=>wpAny (model prog w) A (aon a it v) (λ_ k=>wpAny (model prog w) A (anm a env v) (λ_ p=>
     wpAny (model prog w) A (forIn e true λc r=>if r=true then do let ok <-isTrue c env (eval c env);pure (aop ok)else pure (aop r)) (λok i=>
      if ok=true then wpAny (model prog w) A (eval d env) (λx j=>
       wpAny (model prog w) A (call (.builtin "list.append") [b,x]) (λ_ l=>∃m,m<n/\I m l) (λ_ _=>False) j) (λ_ _=>False) i
      else ∃m,m<n/\I m i) (λ_ _=>False) p) (λ_ _=>False) k) (λ_ _=>False) g) (λ_ _=>False) s)
  (n:Nat) (h:I n s) :
  anH (model prog w) A (.compLoop (.ListComp d [⟨a,f,e,0⟩] scope pos) 0 it b env) R s:=by
 refine codeAny_loop rfl I (λn s z=>?_) n h;refine wpAny_noted<|ak7 (an8 (ak7 (al9 (turn n s z) (λr g q=>?_) λ_ _ h'=>h'.elim)))
 cases r with
 |none=>exact alm q|some v=>
  refine ak7 (al9 q (λ_ k y=>?_) λ_ _ h'=>h'.elim);refine ak7 (al9 y (λ_ p D=>ak7 (al9 D (λok i t=>?_) λ_ _ h'=>h'.elim)) λ_ _ h'=>h'.elim)
  cases ok with
  |false=>exact alm ⟨rfl,t⟩|true=>
   exact ak7 (ak7 (al9 t (λx j u=>ak7 (al9 u (λ_ l B=>alm (alm ⟨rfl,B⟩)) λ_ _ h'=>h'.elim)) λ_ _ h'=>h'.elim))
end
def mT(U a:St):Prop:=U.length=a.length/\∀(i:Nat) v,U[i]? = some (some v)->a[i]? = some (some v)
def mT.refl(U:St):mT U U:=⟨rfl,λ_ _ h=>h⟩
def mT.set{U b:St}(h:mT U b)(c:U[i]? = some none):mT U (b.set i (some x)):=by
 refine⟨by rw[alS];exact h.1,λj v e=>?_⟩
 by_cases a:i=j
 .subst a;rw[c]at e;cases e
 .rw[ale a];exact h.2 j v e
def CJ(e:il)(U':St)(g:iL)(q:TT)(p:TE)(D:Addr)(k:au)(Q:cI):Prop:=
  ∃W:Nat->Nat->List V->au->Prop,(∃m,W 0 m [] (upd k D (.l [])))/\∀i m a H,W i m a H->
   ((e.stop i H/\Q (.ref D) H)\/(e.go i H/\∀x f,e.pT i H x f->g x U' f λd n=>mT U' d/\q d n λb h=>
       if b=true then p d h λy j=>j D=some (.l a)/\a.length<ald/\∃c,c<m/\W (i+1) c (a++[y]) (upd j D (.l (a++[y])))else ∃c,c<m/\W (i+1) c a h))
def uW(n:Nat)(cap:List Nat)(wi:TI)(g:iL)(d:TT)(c:TE):TE:=λU H Q=>wi U H λb a=>∀D,a D=none->CJ b (gj n cap U) g d c D a Q
section
variable{X:aQ}{scope esc:Scope}{EN N:List Str}{n:Nat}{cap:List Nat}{ae:cZ}{U:St}{s:alc}{elt cg iter:Expr}{ifs:List Expr}{pos:Pos}{g:iL}{tt:TT}{te:TE}
def JX{E:dp}{H:au}{ct:il}{a:List Addr}{it:Addr}{e5:Nat->Heap->Prop}{Q:cI}{yf:Value->Addr->Result->alc->Prop}(S:kV esc scope EN N n cap)(he:X.env.scope=esc)(hN:X.N=EN)(hc:X.calm=true)
  (aK:∀C a s H,oc (d6 X scope N C a s H) cg g) (bJ:∀C a s H,sS (d6 X scope N C a s H) ifs tt) (h6:∀C a s H,b6 (d6 X scope N C a s H) elt te)
  (I:Inv X ae U H s) (T:Turn X.prog X.w X.K cg ct a it e5) (st:e5 0 s.heap) (hf:∀b∈a,hn X ae H b) (a9:∀D,H D=none->CJ ct (gj n cap U) g tt te D H Q)
  (Wj:∀D C c h m,Inv X ae U c h->hn X ae c C->h.heap.Ns C m->Q (.ref D) c->yf (.ref D) C (.ok .next) h) :
  wpAny (model X.prog X.w) X.A (newList []) (λF B=>wpAny (model X.prog X.w) X.A (newFunctionEnv scope X.env.globals (p_ scope X.env) [] X.env.qual none .none (some X.env)) (λJM AH=>
   anH (model X.prog X.w) X.A (.compStart (.ListComp elt [⟨cg,iter,ifs,0⟩] scope pos) 0 (.ref it) F { JM with scope:=relabel scope X.env }) (yf F JM.locals) AH) E B) E s:=by
 refine an0 (wpAny_newFunctionEnv S.cell (by intro y aO;simp at aO) (λrQ Nc Nh=>?_) S.kind);have J:=I.EH (t':=s.toks) .nil (alX _);obtain⟨W,⟨m0,xK⟩,turn⟩:=a9 _ I.fresh;generalize rP:({ s with heap:=s.heap.push { cls:=.type "list",data:=.seq ([]:List Value).toArray },toks:=s.toks }:alc)=s3 at J;have wj:∀b o,s.heap.get? b=some o->s3.heap.get? b=some o:=λb o e=>by rw[<-rP];exact ak9 _ e
 have dh:s.heap.push { cls:=.type "list",data:=.seq ([]:List Value).toArray }=s3.heap:=by rw[<-rP]
 try rw[dh]at Nc
 try rw[dh]at Nh
 have O:∀b∈a,hn X ae (upd H s.heap.objs.size (.l [])) b:=λb f=>by
  refine⟨?_,(hf b f).2⟩;obtain⟨o,e,_⟩:=T.obj _ _ st b f;rw[c3 (alQ (alq e))];exact(hf b f).1
 have rT:=λb o e=>Nh.extBut b o (alQ (alq e)) (ak9 _ e)
 have ba:∀b∈a,∃o,s3.heap.get? b=some o:=λb f=>by
  obtain⟨o,e,_⟩:=T.obj _ _ st b f;exact⟨o,wj b o e⟩
 have uS:=T.keep _ _ _ st λb _ o e=>rT b o (wj b o e)
 have Wd:s3.heap.objs.size<=s3.heap.objs.size:=alf _;have j:∀B:alc,B.heap=rQ->Inv (d6 X scope N s3.heap.objs.size a s3 (upd H s.heap.objs.size (.l []))) [] (gj n cap U) (upd H s.heap.objs.size (.l [])) B->
   anH (model X.prog X.w) X.A (.compLoop (.ListComp elt [⟨cg,iter,ifs,0⟩] scope pos) 0 (.ref it) (.ref s.heap.objs.size) (compEnvC scope (p_ scope X.env) s3.heap.objs.size X.env)) (yf (.ref s.heap.objs.size) s3.heap.objs.size) B:=by
  intro B Vd M;have sm:∀{c:au},(∀b∈a,c b=none)->∀b∈a,hn (d6 X scope N s3.heap.objs.size a s3 (upd H s.heap.objs.size (.l []))) [] c b:=λ{c} R b f=>
   ⟨R b f,(M.ok.yT b f).1,M.ok.vI b f,.inl f,(M.ok.yT b f).2,λp aI=>absurd (show p∈([]:cZ)from aI) (by simp)⟩
  refine Ux (λk h=>∃i t c,Inv (d6 X scope N s3.heap.objs.size a s3 (upd H s.heap.objs.size (.l []))) [] (gj n cap U) c h/\e5 i h.heap/\(∀b∈a,c b=none)/\W i k t c) ?_ m0
   ⟨0,[],_,M,by rw[Vd];exact uS,λb f=>(O b f).1,xK⟩
  rintro k s5 ⟨i,t,L,sN,uT,yY,agR⟩;rcases turn i k t L agR with⟨stop,q⟩|⟨go,step⟩
  .refine bZ (T.done (d6 X scope N s3.heap.objs.size a s3 (upd H s.heap.objs.size (.l []))) rfl rfl rfl hc i [] s5 _ L _ sN (sm yY) uT stop) λr g0 ⟨V,vf⟩=>?_
   subst V;obtain⟨m,R,_⟩:=vf.loc;exact Wj _ _ L g0 m (Zz J O vf) (J.rC Wd vf.free) R q
  .refine bZ (T.item (d6 X scope N s3.heap.objs.size a s3 (upd H s.heap.objs.size (.l []))) rfl rfl rfl hc i [] s5 _ L (λ_ _=>False) sN (sm yY) uT go) λr g0 ⟨u,V,fZ⟩=>?_
   subst V;refine bZ fZ λ_ iA ⟨x,jJ,ki,F7,Bg,P,VA⟩=>?_
   refine bZ (aK _ _ _ _ _ iA _ jJ x u _ (ki.pinned (sm VA) (T.obj _ _ P)) F7 (step x jJ Bg)) λ_ sl ⟨G,RD,RJ,yU,Y⟩=>?_
   refine bZ (bJ _ _ _ _ _ sl G RD _ RJ Y) λb Aw ⟨Hg,Hi,PT⟩=>?_
   have back:∀{c:au}{h:alc},Inv (d6 X scope N s3.heap.objs.size a s3 (upd H s.heap.objs.size (.l []))) ([]++uG a iA.heap) G c h->
     Inv (d6 X scope N s3.heap.objs.size a s3 (upd H s.heap.objs.size (.l []))) [] (gj n cap U) c h/\e5 (i+1) h.heap/\∀b∈a,c b=none:=λ{c h} ef=>by
    refine⟨ef.xI.weak yU.1 yU.2,T.keep _ _ _ P λb f o e=>(ef.pin (b,o) (alN _ (alN _ (z1 f e)))).1,λb f=>?_⟩;obtain⟨o,e,d⟩:=T.obj _ _ P b f;exact(ef.pin (b,o) (alN _ (alN _ (z1 f e)))).2.1
   cases b with
   |false=>
    obtain⟨gn,hm,ed⟩:=PT;obtain⟨cx,cD,ho⟩:=back Hi;exact⟨gn,hm,i+1,t,Hg,cx,cD,ho,ed⟩
   |true=>
    refine bZ (h6 _ _ _ _ _ Aw G Hg _ Hi PT) λv pw ⟨y,Hf,RH,Z,Wf,hz,gn,hm,ed⟩=>?_
    refine bZ (uk _ pw G Hf (.ref s.heap.objs.size) [y] (.ref s.heap.objs.size) [v] (λz c=>z=.aH/\c=upd Hf s.heap.objs.size (.l (t++[y]))) RH rfl (.cons Z .nil) ⟨_,t,y,rfl,rfl,Wf,hz,rfl,rfl⟩) λz nZ ⟨ahV,aiz,RI,_,_,tg⟩=>?_
    subst tg;obtain⟨cx,cD,ho⟩:=back RI;exact⟨gn,hm,i+1,t++[y],_,cx,cD,ho,ed⟩
 have Hh:=(ZC (tk:=s3.toks) S he hN J O ba Nc rT);exact codeAny_compStart_list (j _ rfl Hh) (T.self _ 0 _ _ _ uS (j _ rfl Hh))
theorem FI(S:kV esc scope EN N n cap){wi:TI}(hi:jK X cg iter wi)(k:∀C a s H,oc (d6 X scope N C a s H) cg g)(w:∀C a s H,sS (d6 X scope N C a s H) ifs tt)(B:∀C a s H,b6 (d6 X scope N C a s H) elt te)
  (he:X.env.scope=esc:=by rfl) (hN:X.N=EN:=by rfl) (E:X.calm=true:=by rfl) (aw:k4 X iter:=by intro _;rfl):b6 X (.ListComp elt [⟨cg,iter,ifs,0⟩] scope pos) (uW n cap wi g tt te):=by
 intro ae s U H Q I h;have d:=JQ λy l u=>I.ok.has y.1 (by
  show X.env.scope.names.lookup y.1=_\/X.env.scope.names.lookup y.1=_;rw[he];exact S.free y l u)
 refine wpAny_comprehension_free rfl aw d S.kind S.loc (bZ (hi ae s U H _ I h) λv L r=>bZ r λM s2 t=>?_);obtain⟨it,a,e5,K,J,e,x,T,bM,A,i⟩:=t;subst e;refine JX S he hN E k w B x T bM A i λD C f G m z c j q=>?_
 exact⟨m,j,λh' F=>⟨.ref D,f,z.turned (λb o p e=>F.extBut b o p e) c.1 c.2.1 c.2.2.2.1 c.2.2.2.2.1 c.2.2.2.2.2,rfl,q⟩⟩
theorem aeu{i:Nat}{y:Str}{py k:Pos}(S:kV esc scope EN N n cap){wi:TI}(Z:X.N.Nodup)(W:X.N[i]? = some y)(f:X.env.scope.names.lookup y=some .local)(hi:jK X cg iter wi)(E:∀C d s H,oc (d6 X scope N C d s H) cg g)(M:∀C d s H,sS (d6 X scope N C d s H) ifs tt)(R:∀C d s H,b6 (d6 X scope N C d s H) elt te)
  (he:X.env.scope=esc:=by rfl) (hN:X.N=EN:=by rfl) (V:X.calm=true:=by rfl) (aw:k4 X iter:=by intro _;rfl)
  (Y:amI (.ListComp elt [⟨cg,iter,ifs,0⟩] scope pos) (some (.Name y py)) k.line X.env=pure true:=by rfl) :
  iJ X (.Assign [.Name y py] (.ListComp elt [⟨cg,iter,ifs,0⟩] scope pos) k) (uV (uW n cap wi g tt te) (l0 i)):=by
 intro ae s U H D I h;have l:=JQ λy f L=>I.ok.has y.1 (by
  show X.env.scope.names.lookup y.1=_\/X.env.scope.names.lookup y.1=_;rw[he];exact S.free y f L)
 rw[exec_Assign_Name_used _ _ _ _ Y];refine ak7 (an8 (ak7 ?_));refine ak7 (al9 (wpAny_comprehension_free rfl aw l S.kind S.loc
  (bZ (hi ae s U H _ I h) λv s1 G=>bZ G λzo s2 J=>?_)) (λ_ A j=>alm (alm j)) λ_ _ e=>e)
 obtain⟨it,d,e5,ct,aJ,e,O,T,bM,Q,j⟩:=J;subst e;refine JX S he hN V E M R O T bM Q j λr C p A m P c B q=>?_
 refine wpAny_assign_Name (QC (v:=.ref r) P Z W (.inl f) rfl (λAv t ch=>?_) (.inr f));obtain⟨a,x,K⟩:=ch;have u:C≠a:=by
  rcases K with z|z
  .rw[z];exact c.2.1
  .exact λw=>c.2.2.2.2.1 y a z w.symm
 refine⟨m,B.sameBut x u,λh' v'=>?_⟩;exact⟨_,p,t.turned (λb o F e=>v'.extBut b o F e) c.1 c.2.1 c.2.2.2.1 c.2.2.2.2.1 c.2.2.2.2.2,q⟩
end
def d2(p:V->V->au->cI->Prop):en:=λvs H Q _=>∃a b,vs=[a,b]/\p a b H Q
structure eH(P:aly)(w:World)(K:aN)(mg:bp)(base:Heap)(x:Str)(ps:List Str)(k:Nat)(sp:en):Prop where
 ex:∃f fd,e6 P w K mg base eC k f fd ps sp/\Binds K fd ps []/\amX K (.ref f)=true/\mg x=some (.ref f)
structure g7(K:aN)(mg:bp)(x:Str)(st:Stmt)(ps:List Str):Prop where
 ex:∃f fd,kX K x x st f fd/\Binds K fd ps []/\mg x=some (.ref f)
section
variable{P:aly}{w:World}{K:aN}{mg:bp}{base:Heap}{x:Str}{ps:List Str}{k:Nat}{sp:en}
def eH.mono(h:eH P w K mg base x ps k sp)(c:k<=j):eH P w K mg base x ps j sp:=by
 obtain⟨f,d,a,b⟩:=h.ex;exact⟨f,d,a.mono c,b⟩
end
section
variable{X:aQ}{x:Str}{ps:List Str}{k:Nat}{sp:en}{p pos:Pos}{e:Expr}{az:List Expr}{t:fV}
def AJ(sp:en)(t:fV):TE:=λU H Q=>t U H λvs a=>sp vs a Q i1
def Po(h:eH X.prog X.w X.K X.mg X.base x ps k sp)(d:cB k X.A)(g:ee X x)(j:g9 X (e::az) t)(l:fX x:=by decide)
  (he:e_ X e az:=by rfl) (n:f5 X pos az:=by rfl):b6 X (.Call (.Name x p) (e::az) [] pos) (AJ sp t):=by
 obtain⟨f,r,F,b,kp,m⟩:=h.ex;intro i s U H Q I c;refine adV F d g m kp b .nil qF j l he n i s U H Q I ?_;have q:t U H λvs a=>sp vs a Q i1:=c
 show t U H λvs a=>sp (vs++[]) a Q i1
 simpa only[aml]using q
def ad3(h:eH X.prog X.w X.K X.mg X.base x ps k sp)(c:cB k X.A)(d:ee X x)(i:fX x:=by decide):b6 X (.Call (.Name x p) [] [] pos) (AJ sp xy):=by
 obtain⟨f,j,F,b,kp,m⟩:=h.ex;intro g s U H Q I a;exact adW F c d m kp b .nil qF i g s U H Q I a
end
structure ya(K:aN):Prop where
 dt:∀t∈["NoneType","bool","int","str","list","tuple"],∀c∈["int","bool","tuple","list","str"],W.kitOne K (.type t) (.type c)=some (t==c||(t == "bool"&&c == "int"))
inductive m1(K:aN)(H:au):V->String->Prop where
 |aH:m1 K H .aH "NoneType"
 |av (x:Bool):m1 K H (.av x) "bool"
 |int (i:Int):m1 K H (.int i) "int"
 |str (x:Str):m1 K H (.str x) "str"
 |l {a:Addr}{xs:List V}(e:dw K H a xs):m1 K H (.ref a) "list"
 |t {a:Addr}{xs:List V}(e:dB K H a xs):m1 K H (.ref a) "tuple"
abbrev agH:List String:=["NoneType","bool","int","str","list","tuple"]
def m1.mem{K:aN}{H:au}{x:V}{t:String}(h:m1 K H x t):t∈agH:=by
 cases h<;>decide
section
variable{X:aQ}
def wh(t n:String):Bool:=t==n||(t == "bool"&&n == "int")
def P2(K:aN):List V->au->cI->Prop:=λxs H Q=>∃x n t,xs=[x,.ty n]/\m1 K H x t/\n∈["int","bool","tuple","list","str"]/\Q (.av (wh t n)) H
def Ui(kt:ya X.K):kc X (.builtin "isinstance") (P2 X.K):=by
 intro k s U H xs us Q I m h;obtain⟨x,n,t,rfl,ty,j,q⟩:=h;obtain⟨u,r,rfl,b,p⟩:=vals2 m;cases(show r=apt n from p);have e:=kt.dt t ty.mem n j;have fin:∀tk,ij X k U Q (.bool (wh t n)) { s with toks:=tk }:=λtk=>⟨.av _,H,I.tok tk,rfl,q⟩
 cases ty with
 |aH=>cases(show u=Value.none from b);exact aoI W.kitx_none I.f7 aoo e (λz=>nomatch z) fin
 |av y=>cases(show u=aps y from b);exact aoI W.kitx_bool I.f7 aoo e (λz=>nomatch z) fin
 |int i=>obtain⟨t,q⟩:=(show ∃t,u=apC i t from b);cases q;exact aoI W.kitx_int I.f7 aoo e (λz=>nomatch z) fin
 |str y=>obtain⟨t,q⟩:=(show ∃t,u=apD y t from b);cases q;exact aoI W.kitx_str I.f7 aoo e (λz=>nomatch z) fin
 |@l a xs f=>
  cases(show u=amU a from b);obtain⟨g,_,⟨o,w,c,d,_⟩,_⟩:=I.list f;exact aoI W.kitx_list I.f7 ⟨o,c,d⟩ e (λz=>nomatch z) fin
 |@t a xs f=>
  cases(show u=amU a from b);obtain⟨g,_,⟨o,c,d,_⟩,_⟩:=I.tuple f;exact aoI W.kitx_tuple I.f7 ⟨o,c,d⟩ e (λz=>nomatch z) fin
def aa9:vh X "int.bit_length" (λx xs H Q=>∃i,x=.int i/\xs=[]/\Q (.int (amg i:Nat)) H):=by
 intro c s U H x xs v us Q I a b h;obtain⟨i,rfl,rfl,q⟩:=h;obtain⟨t,rfl⟩:=a;cases b;exact call_int_bit_length ⟨.int _,H,I.tok _,⟨_,rfl⟩,q⟩
end
mutual
def Rep(K:aN)(H:au):PyData->V->Prop
 |.none,v=>v=.aH|.bool b,v=>v=.av b|.int i,v=>v=.int i|.str x,v=>v=.str x|.list ds,v=>∃a xs,v=.ref a/\dw K H a xs/\bh K H ds xs|.tuple ds,v=>∃a xs,v=.ref a/\dB K H a xs/\bh K H ds xs|.dict _,_=>False
def bh(K:aN)(H:au):List PyData->List V->Prop
 |[],xs=>xs=[]|d::ds,xs=>∃x r,xs=x::r/\Rep K H d x/\bh K H ds r
end
def eD.xp[a0]{K:aN}{H b:au}{a:Addr}{xs:List V}(e:eD H b)(h:dB K H a xs):dB K b a xs:=by
 rcases h with(h|⟨o,h⟩)|h
 .exact .inl (.inl (e.at' _ _ h))
 .exact .inl (.inr ⟨o,e.at' _ _ h⟩)
 .exact .inr h
section
variable{X:aQ}{ae:cZ}{U:St}{H:au}{s:alc}
mutual
theorem Rep.reads(I:Inv X ae U H s):∀{d:PyData}{v:V}{u:Value},Rep X.K H d v->RelV v u->∃as,Reads s.heap u d as
 |.none,_,_,h,r=>by cases h;cases r;exact⟨_,.none⟩
 |.bool _,_,_,h,r=>by cases h;cases r;exact⟨_,.bool _⟩
 |.int _,_,_,h,r=>by cases h;obtain⟨t,rfl⟩:=r;exact⟨_,.int _ _⟩
 |.str _,_,_,h,r=>by cases h;obtain⟨t,rfl⟩:=r;exact⟨_,.str _ _⟩
 |.list _,_,_,h,r=>by
  obtain⟨a,xs,rfl,l,q⟩:=h;cases r;obtain⟨f,b,⟨o,n,e,c,_,d⟩,_⟩:=I.list l;obtain⟨as,z⟩:=bh.reads I q b;exact⟨_,.list e c d (by simpa using z)⟩
 |.tuple _,_,_,h,r=>by
  obtain⟨a,xs,rfl,l,q⟩:=h;cases r;obtain⟨f,b,⟨o,e,c,n,d⟩,_⟩:=I.tuple l;obtain⟨as,z⟩:=bh.reads I q b;exact⟨_,.tuple e c d (by simpa using z)⟩
 |.dict _,_,_,h,_=>h.elim
theorem bh.reads(I:Inv X ae U H s):∀{ds:List PyData}{xs:List V}{us:List Value},bh X.K H ds xs->Vals xs us->∃as,ReadsAll s.heap us ds as
 |[],_,_,h,r=>by cases h;cases r;exact⟨_,.nil⟩
 |_::_,_,_,h,r=>by
  obtain⟨x,t,rfl,a,b⟩:=h
  cases r with
  |cons c d=>
   obtain⟨as,f⟩:=Rep.reads I a c;obtain⟨bs,e⟩:=bh.reads I b d;exact⟨_,.cons f e⟩
end
end
section
variable{X:aQ}
def As(K:aN)(neg:Bool):fm:=λx y H Q=>∃d e,Rep K H d x/\Rep K H e y/\apH d=true/\apH e=true/\Q (.av (if neg then !apu d e else apu d e)) H
def Fz(g:X.A.units+64<cLine):d0 X (alY .Eq) (As X.K false):=by
 intro l s U H x y v u Q I c f h;obtain⟨d,e,a,b,mC,i,q⟩:=h;obtain⟨as,k⟩:=a.reads I c;obtain⟨bs,j⟩:=b.reads I f;exact eq_dataH k j mC i g ⟨.av _,H,I,rfl,q⟩
def uB(g:X.A.units+64<cLine):d0 X (alY .NotEq) (As X.K true):=by
 intro l s U H x y v u Q I c f h;obtain⟨d,e,a,b,mC,i,q⟩:=h;obtain⟨as,k⟩:=a.reads I c;obtain⟨bs,j⟩:=b.reads I f;exact ne_dataH k j mC i g ⟨.av _,H,I,rfl,q⟩
end
def JE:al2 "len"=some (.builtin "len"):=by decide +kernel
def T5:al2 "isinstance"=some (.builtin "isinstance"):=by decide +kernel
def T6:al2 "max"=some (.builtin "max"):=by decide +kernel
def T2:al2 "any"=some (.builtin "any"):=by decide +kernel
def T1:al2 "all"=some (.builtin "all"):=by decide +kernel
def T4:al2 "int"=some (.type "int"):=by decide +kernel
def T3:al2 "bool"=some (.type "bool"):=by decide +kernel
def Cu:al2 "list"=some (.type "list"):=by decide +kernel
def vu:al2 "tuple"=some (.type "tuple"):=by decide +kernel
def T9:al2 "str"=some (.type "str"):=by decide +kernel
variable[a0]
def x7(a:il)(c:au)(xs:List V):Prop:=∀H,eD c H->∀i,(i<xs.length->a.go i H/\∀x b,a.pT i H x b->b=H/\xs[i]? = some x)/\(xs.length<=i->a.stop i H)
def NG{K:aN}{H:au}{a:Addr}{xs:List V}(h:dw K H a xs):x7 (pZ K a) H xs:=λb s i=>
 ⟨λhi=>⟨⟨xs,xs[i],s.seq h,by simp⟩,λx c y=>⟨y.1,y.2 xs (s.seq h)⟩⟩,λhi=>⟨xs,s.seq h,hi⟩⟩
def NI{K:aN}{H:au}{a:Addr}{xs:List V}(h:dB K H a xs):x7 (sP K a) H xs:=λb s i=>
 ⟨λhi=>⟨⟨xs,xs[i],s.xp h,by simp⟩,λx c y=>⟨y.1,y.2 xs (s.xp h)⟩⟩,λhi=>⟨xs,s.xp h,hi⟩⟩
def mB(lo:Int)(n:Nat):List V:=(alD n).map λi=>V.int (lo+(i:Nat))
def zm(lo:Int)(n:Nat):x7 (mU lo n) H (mB lo n):=λa s i=>by
 have hl:(mB lo n).length=n:=by unfold mB;rw[ala,amt]
 refine⟨λhi=>⟨by rw[hl]at hi;exact hi,λx b y=>⟨y.1,?_⟩⟩,λhi=>by rw[hl]at hi;exact hi⟩;rw[hl]at hi;rw[y.2];unfold mB;rw[alr,amv hi];rfl
end aA
namespace aA
open PySem PySem.Spec PyProof.Rows
def g7.none{P:aly}{w:World}{K:aN}{mg:bp}{base:Heap}{x:Str}{st:Stmt}{ps:List Str}{k:Nat}{sp:en}(D:g7 K mg x st ps)(no:∀vs H Q E,¬sp vs H Q E):eH P w K mg base x ps k sp:=by
 obtain⟨f,a,F,b,m⟩:=D.ex;exact⟨f,a,⟨λvs H Q E h=>absurd h (no vs H Q E),λA outer s H args us vs Q E _ _ _ _ h=>absurd h (no vs H Q E)⟩,b,F.kp,m⟩
def aae(K:aN):ya K:=⟨by
 intro t a c b;simp only[alj,List.mem_nil_iff,or_false]at a b;rcases a with rfl|rfl|rfl|rfl|rfl|rfl<;>rcases b with rfl|rfl|rfl|rfl|rfl<;>kernel_rfl⟩
def range_any(bs:List Bool):(alD bs.length).any (λi=>bs.getD i false)=bs.any id:=by
 rw[amB,aoe,aoe];constructor
 .rintro⟨i,hi,h⟩
  have a:=alZ.mp hi;refine⟨bs[i],amH a,?_⟩;rw[al1,aln a]at h;exact h
 .rintro⟨b,c,h⟩
  obtain⟨i,hi,rfl⟩:=List.getElem_of_mem c;refine⟨i,alZ.mpr hi,?_⟩;rw[al1,aln hi];exact h
def range_all(bs:List Bool):(alD bs.length).all (λi=>bs.getD i false)=bs.all id:=by
 rw[amB,alW,alW];constructor
 .intro h b c
  obtain⟨i,hi,rfl⟩:=List.getElem_of_mem c;have:=h i (alZ.mpr hi);rw[al1,aln hi]at this;exact this
 .intro h i hi
  have a:=alZ.mp hi;rw[al1,aln a];exact h _ (amH a)
section
variable{X:aQ}{K:aN}
def QM{bs:List Bool}{a:List Value}(b:Vals (bs.map V.av) a):TruthOf prog w A (λi v=>a.toArray[i]? = some v) (λi=>bs.getD i false):=by
 intro i v s Q E h f;have e:a[i]? = some v:=by simpa using h
 have hi:i<bs.length:=by
  have k:=(ak8.mp e).1;have g:=b.length;rw[ala]at g;omega
 obtain⟨u,c,j⟩:=b.get (by rw[alr,aln hi];rfl);rw[e]at c;cases c;cases j;have d:Q (bs.getD i false) s:=f;rw[al1,aln hi]at d;exact ami d
def Uh(t:X.calm=true):kc X (.builtin "any") (λxs H Q=>∃(l:Addr)(bs:List Bool),xs=[.ref l]/\dw X.K H l (bs.map V.av)/\Q (.av (bs.any id)) H):=by
 intro w s U H xs us Q I j h;obtain⟨l,bs,rfl,m,q⟩:=h;obtain⟨u,rfl,g⟩:=vals1 j;cases g;obtain⟨a,d,p,hz⟩:=I.list m;have r:l<s.heap.objs.size:=by obtain⟨o,n,e,_⟩:=p;exact alq e
 refine call_any_walk (am4 p.isList ?_);refine⟨s.heap.objs.size,_,_,_,_,_,λi=>bs.getD i false,rfl,apv (A:=X.A.in1) (show X.A.in1.handled=none from I.ok.hd t) s.heap.objs.size l (alQ r) a.toArray,⟨⟨_,alk _ rfl,rfl,rfl⟩,p.isList.at λo e=>ak9 _ e⟩,QM d,λh' tk k=>?_⟩;have f:a.toArray.size=bs.length:=by
  have c:=d.length;rw[ala]at c;simp[c]
 rw[f,range_any];exact⟨.av _,H,I.kept (h':=h') (t':=tk) λb o e=>k b o (by intro z;rw[alB.mp z]at e;exact absurd (alq e) (al5 _)) (ak9 _ e),rfl,q⟩
def Ug(t:X.calm=true):kc X (.builtin "all") (λxs H Q=>∃(l:Addr)(bs:List Bool),xs=[.ref l]/\dw X.K H l (bs.map V.av)/\Q (.av (bs.all id)) H):=by
 intro w s U H xs us Q I j h;obtain⟨l,bs,rfl,m,q⟩:=h;obtain⟨u,rfl,g⟩:=vals1 j;cases g;obtain⟨a,d,p,hz⟩:=I.list m;have r:l<s.heap.objs.size:=by obtain⟨o,n,e,_⟩:=p;exact alq e
 refine call_all_walk (am4 p.isList ?_);refine⟨s.heap.objs.size,_,_,_,_,_,λi=>bs.getD i false,rfl,apv (show X.A.in1.handled=none from I.ok.hd t) s.heap.objs.size l (alQ r) a.toArray,⟨⟨_,alk _ rfl,rfl,rfl⟩,p.isList.at λo e=>ak9 _ e⟩,QM d,λh' tk k=>?_⟩;have f:a.toArray.size=bs.length:=by
  have c:=d.length;rw[ala]at c;simp[c]
 rw[f,range_all];exact⟨.av _,H,I.kept λb o e=>k b o (by intro z;rw[alB.mp z]at e;exact absurd (alq e) (al5 _)) (ak9 _ e),rfl,q⟩
end
section
variable{X:aQ}
def qG{v:V}(a:ee X x)(h:∃u,X.mg x=some u/\RelV v u)(hd:fX x:=by decide):b6 X (.Name x pos) (pD v):=by
 obtain⟨u,hm,r⟩:=h;exact ad4 a hm r hd
variable[a0]
end
end aA
set_option maxHeartbeats 1000000
namespace aC
open PySem PySem.Spec aA
variable[aA.a0]
inductive D where
 |aH|av (b:Bool)|int (i:Int)|str (x:Str)|t (xs:List D)|l (xs:List D)|ref (n:Nat)|fn (f:Str)|ty (n:String)
inductive Slot where
 |e|v (d:D)|dO (p:Bool) (xs:List D)|b5 (xs:List D)
abbrev aG:=List Slot
inductive ey where
 |l (xs:List D)|LR (du:List (Key×D))|rq (du:List (List Key×D))|ba (c:Str) (aX:List (Str×D))
abbrev bG:=List ey
inductive Out(α:Type) where
 |ok (a:α) (S:bG)|exc (c:Str) (S:bG)|bad
structure M(α:Type):Type where
 run:bG->Out α
 e3:∀S a ah,run S=.ok a ah->ah=S
def M.hK{α g:Type}(m:M α)(f:α->M g):M g:=⟨λS=>match m.run S with
 |.ok a d=>(f a).run d|.exc c d=>.exc c d|.bad=>.bad,λS b d h=>by
  cases e:m.run S with
  |ok a i=>rw[e]at h;exact((f a).e3 _ _ _ h).trans (m.e3 _ _ _ e)|exc c i=>rw[e]at h;cases h
  |bad=>rw[e]at h;cases h⟩
noncomputable instance:Monad M where
 pure a:=⟨λS=>.ok a S,λ_ _ _ h=>by cases h;rfl⟩
 bind:=M.hK
omit [aA.a0]in
theorem M.ext{α:Type}{x y:M α}(h:∀S,x.run S=y.run S):x=y:=by
 cases x with|mk f p=>cases y with|mk g q=>obtain rfl:=funext h;rfl
omit [aA.a0]in
theorem M.TC{α a:Type}(m:M α)(f:α->M a):(m >>= f)=M.hK m f:=rfl
instance:LawfulMonad M:=LawfulMonad.mk'
 (id_map:=λx=>M.ext λS=>by show(M.hK x (λa=>pure (id a))).run S=x.run S;unfold M.hK;dsimp only;cases x.run S<;>rfl)
 (pure_bind:=λx f=>rfl)
 (bind_assoc:=λx f g=>M.ext λS=>by show(M.hK (M.hK x f) g).run S=(M.hK x (λa=>M.hK (f a) g)).run S;unfold M.hK;dsimp only;cases x.run S<;>rfl)
 (bind_pure_comp:=λf x=>rfl)
def bad{α:Type}:M α:=⟨λ_=>.bad,λ_ _ _ h=>by cases h⟩
omit [aA.a0]in
theorem M.inv{α i:Type}{m:M α}{f:α->M i}{S g:bG}{b:i}(h:(m >>= f).run S=.ok b g):∃a d,m.run S=.ok a d/\(f a).run d=.ok b g:=by
 rw[M.TC]at h;unfold M.hK at h;dsimp only at h
 cases e:m.run S with
 |ok a d=>rw[e]at h;exact⟨a,d,rfl,h⟩|exc c d=>rw[e]at h;cases h
 |bad=>rw[e]at h;cases h
def hL(p:Prop)[Decidable p]:M Unit:=if p then pure ()else bad
omit [aA.a0]in
theorem JN{p:Prop}[Decidable p](h:p):hL p=pure ():=if_pos h
omit [aA.a0]in
theorem rk{p:Prop}[Decidable p]{S b:bG}(h:(hL p).run S=.ok u b):p/\S=b:=by
 unfold hL at h
 by_cases a:p
 .rw[if_pos a]at h;cases h;exact⟨a,rfl⟩
 .rw[if_neg a]at h;cases h
inductive R where
 |v (d:D)|fr (xs:List D)|b5 (xs:List D)|mv (xs:List D)
abbrev bt:=aG->M R
inductive Own where
 |free|out|dI|loc (i:Nat)
 deriving DecidableEq
structure a5 where
 own:Addr->Own
 bK:List Addr
instance:CoeFun a5 (λ_=>Addr->Own):=⟨a5.own⟩
def Bv(K:aN)(a:Addr)(xs:List V):Prop:=
 ∃(o:Obj)(b:Array Value)(n:Nat),K.lookup a=some o/\o.cls=.type "list"/\o.dict=none/\o.data=.seq b n/\b.size<=ald/\Vals xs b.toList
def sQ(_:aN)(O:a5)(H:au)(a:Addr)(b:List V):Prop:=H a=some (.l b)/\O a=.free
mutual
def Rep(K:aN)(mg:bp)(O:a5)(H:au):D->V->Prop
 |.aH,v=>v=.aH|.av b,v=>v=.av b|.int i,v=>v=.int i|.str x,v=>v=.str x|.t xs,v=>∃a c,v=.ref a/\dB K H a c/\bh K mg O H xs c|.l xs,v=>∃a c,v=.ref a/\sQ K O H a c/\bh K mg O H xs c|.ref n,v=>∃a,v=.ref a/\O.bK[n]? = some a|.fn f,v=>∃a,v=.ref a/\mg f=some (.ref a)|.ty n,v=>v=.ty n
def bh(K:aN)(mg:bp)(O:a5)(H:au):List D->List V->Prop
 |[],ys=>ys=[]|x::xs,ys=>∃y r,ys=y::r/\Rep K mg O H x y/\bh K mg O H xs r
end
structure Go(O ai:a5)(H H':au):Prop where
 same:eD H H'
 own:∀b,H b≠none->ai b=O b
 bK:ai.bK=O.bK
def Go.refl(O:a5)(H:au):Go O O H H:=⟨eD.refl _,λ_ _=>rfl,rfl⟩
def Go.trans{O d e:a5}(a:Go O d H H1)(b:Go d e H1 o):Go O e H o:=
 ⟨a.same.trans b.same,λc h=>(b.own c (a.same.some h)).trans (a.own c h),b.bK.trans a.bK⟩
def hE.same(s:eD H H')(h:hE H a u)(n:pa u:=by exact trivial):hE H' a u:=by
 rcases h with h|⟨o,h⟩
 .exact .inl (s.at' _ _ h n)
 .exact .inr ⟨o,s.at' _ _ h⟩
omit [aA.a0]in
theorem hE.some{H:au}(h:hE H a u):H a≠none:=by
 rcases h with h|⟨o,h⟩<;>rw[h]<;>intro z<;>cases z
def sQ.cT{O:a5}(h:sQ K O H a ys):dw K H a ys:=dw.of h.1
def hY(K:aN)(O:a5)(H:au)(a:Addr)(b:List V):Prop:=(hE H a (.l b)/\(O a=.free\/O a=.out))\/Bv K a b
def hY.cT{O:a5}(h:hY K O H a ys):dw K H a ys:=h.elim (λz=>.inl z.1) .inr
def hY.go{O b:a5}(g:Go O b H H')(h:hY K O H a ys):hY K b H' a ys:=by
 rcases h with⟨l,f⟩|l
 .exact .inl ⟨hE.same g.same l,by rw[g.own a (hE.some l)];exact f⟩
 .exact .inr l
def sQ.go{O b:a5}(g:Go O b H H')(h:sQ K O H a ys):sQ K b H' a ys:=⟨g.same.at' _ _ h.1,(g.own a (by rw[h.1];intro z;cases z)).trans h.2⟩
section
variable{K:aN}{mg:bp}{O ai:a5}{H H':au}
mutual
theorem Rep.go(g:Go O ai H H'):∀{d:D}{v:V},Rep K mg O H d v->Rep K mg ai H' d v
 |.aH,_,h=>h|.av _,_,h=>h|.int _,_,h=>h|.str _,_,h=>h| .t _,_,h=>by obtain⟨a,b,q,l,r⟩:=h;exact⟨a,b,q,g.same.xp l,bh.go g r⟩
 |.l _,_,h=>by obtain⟨a,b,q,l,r⟩:=h;exact⟨a,b,q,l.go g,bh.go g r⟩
 |.ref _,_,h=>by obtain⟨a,q,l⟩:=h;exact⟨a,q,by rw[g.bK];exact l⟩
 |.fn _,_,h=>h|.ty _,_,h=>h
theorem bh.go(g:Go O ai H H'):∀{ds:List D}{c:List V},bh K mg O H ds c->bh K mg ai H' ds c
 |[],_,h=>h| _::_,_,h=>by obtain⟨x,r,q,a,b⟩:=h;exact⟨x,r,q,Rep.go g a,bh.go g b⟩
end
structure lK(O ai:a5):Prop where
 fr:∀a,O a=.free->ai a=.free
 bK:ai.bK=O.bK
mutual
theorem Rep.dd(g:lK O o):∀{d:D}{v:V},Rep K mg O H d v->Rep K mg o H d v
 |.aH,_,h=>h|.av _,_,h=>h|.int _,_,h=>h|.str _,_,h=>h| .t _,_,h=>by obtain⟨a,b,q,l,r⟩:=h;exact⟨a,b,q,l,bh.dd g r⟩
 |.l _,_,h=>by obtain⟨a,b,q,l,r⟩:=h;exact⟨a,b,q,⟨l.1,g.fr _ l.2⟩,bh.dd g r⟩
 |.ref _,_,h=>by obtain⟨a,q,l⟩:=h;exact⟨a,q,by rw[g.bK];exact l⟩
 |.fn _,_,h=>h|.ty _,_,h=>h
theorem bh.dd(g:lK O o):∀{ds:List D}{c:List V},bh K mg O H ds c->bh K mg o H ds c
 |[],_,h=>h| _::_,_,h=>by obtain⟨x,r,q,a,b⟩:=h;exact⟨x,r,q,Rep.dd g a,bh.dd g b⟩
end
theorem bh.len:∀{ds:List D}{xs:List V},bh K mg O H ds xs->xs.length=ds.length
 |[],_,h=>by cases h;rfl
 |_::_,_,h=>by obtain⟨x,r,rfl,_,b⟩:=h;rw[alP,alP,bh.len b]
theorem bh.get:∀{ds:List D}{xs:List V}{i:Nat}{d:D},bh K mg O H ds xs->ds[i]? = some d->∃x,xs[i]? = some x/\Rep K mg O H d x
 |[],_,_,_,_,e=>by simp at e| _::_,_,0,d,h,e=>by obtain⟨x,r,rfl,a,_⟩:=h;cases(show some _=some d from e);exact⟨x,rfl,a⟩
 |_::ds,_,i+1,d,h,e=>by
  obtain⟨x,r,rfl,_,b⟩:=h;obtain⟨y,aq,aE⟩:=bh.get b e;exact⟨y,by simpa using aq,aE⟩
theorem bh.Mz:∀{ds:List D}{xs:List V}{i:Nat}{x:V},bh K mg O H ds xs->xs[i]? = some x->∃d,ds[i]? = some d/\Rep K mg O H d x
 |[],_,_,_,h,e=>by cases h;simp at e
 |_::_,_,0,x,h,e=>by obtain⟨y,r,rfl,a,_⟩:=h;cases(show some _=some x from e);exact⟨_,rfl,a⟩
 |_::ds,_,i+1,d,h,e=>by
  obtain⟨x,r,rfl,_,b⟩:=h;obtain⟨y,aq,aE⟩:=bh.Mz b e;exact⟨y,by simpa using aq,aE⟩
theorem bh.append:∀{ds c:List D}{xs d:List V},bh K mg O H ds xs->bh K mg O H c d->bh K mg O H (ds++c) (xs++d)
 |[],_,_,_,h,q=>by cases h;exact q
 |_::_,_,_,_,h,q=>by obtain⟨x,r,rfl,a,b⟩:=h;exact⟨x,_,rfl,a,bh.append b q⟩
def bh.one(h:Rep K mg O H d x):bh K mg O H [d] [x]:=⟨x,[],rfl,h,rfl⟩
theorem bh.take:∀{ds:List D}{xs:List V}(n:Nat),bh K mg O H ds xs->bh K mg O H (ds.take n) (xs.take n)
 |[],_,_,h=>by cases h;rw[apz,apz];rfl
 |_::_,_,0,_=>by rfl| _::_,_,n+1,h=>by obtain⟨x,r,rfl,a,b⟩:=h;exact⟨x,_,rfl,a,bh.take n b⟩
theorem bh.drop:∀{ds:List D}{xs:List V}(n:Nat),bh K mg O H ds xs->bh K mg O H (ds.drop n) (xs.drop n)
 |[],_,_,h=>by cases h;rw[List.drop_nil,List.drop_nil];rfl
 |_::_,_,0,h=>h| _::_,_,n+1,h=>by obtain⟨x,r,rfl,a,b⟩:=h;exact bh.drop n b
theorem bh.set(hd:Rep K mg O H d x):∀{ds:List D}{xs:List V}(n:Nat),bh K mg O H ds xs->bh K mg O H (ds.set n d) (xs.set n x)
 |[],_,_,h=>by cases h;exact rfl
 |_::_,_,0,h=>by obtain⟨y,r,rfl,a,b⟩:=h;exact⟨x,r,rfl,hd,b⟩
 |_::_,_,n+1,h=>by obtain⟨y,r,rfl,a,b⟩:=h;exact⟨y,_,rfl,a,bh.set hd n b⟩
def Qa(ns:List Int):bh K mg O H (ns.map D.int) (ns.map V.int):=by
 induction ns with
 |nil=>rfl|cons n r a=>exact⟨.int n,_,rfl,rfl,a⟩
def fC{κ:Type}(K:aN)(mg:bp)(O:a5)(H:au)(a:List (κ×D))(b:List (κ×V)):Prop:=a.map (·.1)=b.map (·.1)/\bh K mg O H (a.map (·.2)) (b.map (·.2))
def ek(K:aN)(mg:bp)(O:a5)(H:au):R->V->Prop
 |.v d,v=>Rep K mg O H d v|.fr xs,v=>∃a b,v=.ref a/\H a=some (.l b)/\O a=.dI/\bh K mg O H xs b|.b5 xs,v=>∃a b,v=.ref a/\hY K O H a b/\bh K mg O H xs b|.mv xs,v=>∃a b,v=.ref a/\H a=some (.l b)/\bh K mg O H xs b
def ek.go(g:Go O C H H'):∀{r:R}{v:V},ek K mg O H r v->ek K mg C H' r v
 |.v _,_,h=>Rep.go g h| .fr _,_,h=>by obtain⟨a,b,q,l,o,r⟩:=h;exact⟨a,b,q,g.same.at' _ _ l,(g.own a (by rw[l];intro z;cases z)).trans o,r.go g⟩
 |.b5 _,_,h=>by obtain⟨a,b,q,l,r⟩:=h;exact⟨a,b,q,l.go g,r.go g⟩
 |.mv _,_,h=>by obtain⟨a,b,q,l,r⟩:=h;exact⟨a,b,q,g.same.at' _ _ l,r.go g⟩
theorem bh.imp{c:a5}(f:∀d v,Rep K mg O H d v->Rep K mg c H' d v):∀{ds:List D}{e:List V},bh K mg O H ds e->bh K mg c H' ds e
 |[],_,h=>h| _::_,_,h=>by obtain⟨x,r,q,a,b⟩:=h;exact⟨x,r,q,f _ _ a,bh.imp f b⟩
def Ry(K:aN)(mg:bp)(c:Str)(C:Addr):Prop:=mg c=some (.ref C)/\i0 K C
def jl(K:aN)(mg:bp)(O:a5)(H:au)(w:Own):Slot->Option V->Prop
 |.e,_=>True|.v d,u=>∃v,u=some v/\Rep K mg O H d v|.dO _ xs,u=>∃a b,u=some (.ref a)/\O a=w/\H a=some (.l b)/\bh K mg O H xs b|.b5 xs,u=>∃a b,u=some (.ref a)/\hY K O H a b/\bh K mg O H xs b
def jl.go(g:Go O C H H'):∀{s:Slot}{u:Option V},jl K mg O H w s u->jl K mg C H' w s u
 |.e,_,_=>trivial| .v _,_,h=>by obtain⟨v,q,r⟩:=h;exact⟨v,q,r.go g⟩
 |.dO _ _,_,h=>by obtain⟨a,b,q,o,l,r⟩:=h;exact⟨a,b,q,(g.own a (by rw[l];intro z;cases z)).trans o,g.same.at' _ _ l,r.go g⟩
 |.b5 _,_,h=>by
  obtain⟨a,b,q,l,r⟩:=h;exact⟨a,b,q,l.go g,r.go g⟩
end
def jk(O:a5):Prop:=O.bK.Nodup/\∀a∈O.bK,O a=.out
structure df(O:a5)(H:au):Prop where
 has:∀a,O a≠.free->H a≠none
 tabs:TabsOk H
 rh:jk O
def ob(K:aN)(mg:bp)(O:a5)(H:au)(a:Addr):ey->Prop
 |.l xs=>∃f,H a=some (.l f)/\bh K mg O H xs f|.LR d=>∃b,H a=some (.td b)/\fC K mg O H d b|.rq d=>∃b,H a=some (.fY b)/\fC K mg O H d b|.ba c aX=>∃C g e,H a=some (.ins C g e)/\Ry K mg c C/\fC K mg O H aX e
def fN(K:aN)(mg:bp)(O:a5)(H:au)(S:bG):Prop:=∀(n:Nat)(o:ey),S[n]? = some o->∃a,O.bK[n]? = some a/\ob K mg O H a o
def ob.all{O j:a5}{H i:au}(f:∀d v,Rep K mg O H d v->Rep K mg j i d v)(g:∀u,H a=some u->pa u->i a=some u):∀{o:ey},ob K mg O H a o->ob K mg j i a o
 |.l _,h=>by obtain⟨b,l,r⟩:=h;exact⟨b,g _ l trivial,r.imp f⟩
 |.LR _,h=>by obtain⟨b,l,e,r⟩:=h;exact⟨b,g _ l trivial,e,r.imp f⟩
 |.rq _,h=>by obtain⟨b,l,e,r⟩:=h;exact⟨b,g _ l trivial,e,r.imp f⟩
 |.ba _ _,h=>by obtain⟨C,k,m,l,c,e,r⟩:=h;exact⟨C,k,m,g _ l trivial,c,e,r.imp f⟩
def fN.all{O c:a5}{H b:au}{S:bG}(s:fN K mg O H S)(f:∀d v,Rep K mg O H d v->Rep K mg c b d v)(e:c.bK=O.bK)(g:∀a∈O.bK,∀u,H a=some u->pa u->b a=some u):fN K mg c b S:=λn o h=>by
 obtain⟨a,i,j⟩:=s n o h;exact⟨a,by rw[e];exact i,j.all f (g a (alF i))⟩
def fN.go{O b:a5}{S:bG}(s:fN K mg O H S)(g:Go O b H H'):fN K mg b H' S:=
 s.all (λ_ _ z=>Rep.go g z) g.bK λa _ u l n=>g.same.at' _ _ l n
def fN.nil{O:a5}:fN K mg O H []:=λn o h=>by cases n<;>cases h
structure cC(K:aN)(mg:bp)(O:a5)(U:aG)(S:bG)(ak:St)(H:au):Prop where
 cm:df O H
 len:U.length=ak.length
 loc:∀i s,U[i]? = some s->jl K mg O H (.loc i) s (ak[i]?.join)
 gK:fN K mg O H S
def cC.go{O a:a5}{S:bG}(h:cC K mg O U S o H)(g:Go O a H H')(d:df a H'):cC K mg a U S o H':=
 ⟨d,h.len,λi s e=>(h.loc i s e).go g,h.gK.go g⟩
def gL(O:a5)(a:Addr)(o:Own):a5:=⟨λb=>if b=a then o else O b,O.bK⟩
omit [aA.a0]in
theorem lC{O:a5}:gL O a o a=o:=if_pos rfl
omit [aA.a0]in
theorem pK{O:a5}(h:b≠a):gL O a o b=O b:=if_neg h
section
variable{K:aN}{mg:bp}{O:a5}{U:aG}{S:bG}{ak:St}{H:au}{p:Addr}{u:gP}{o:Own}
def Go.new(a:H p=none):Go O (gL O p o) H (upd H p u):=
 ⟨uP a u,λb c=>pK (by rintro rfl;exact c a),rfl⟩
def Go.gH(a:H p=none):Go O O H (upd H p u):=⟨uP a u,λ_ _=>rfl,rfl⟩
def df.new(d:df O H)(b:H p=none):df (gL O p o) (upd H p u):=⟨λa c=>by
 by_cases e:a=p
 .subst e;rw[dZ];intro z;cases z
 .rw[c3 e];rw[pK e]at c;exact d.has a c,d.tabs.new b u,d.rh.1,λa h=>by rw[pK (by rintro rfl;exact d.has _ (by rw[d.rh.2 _ h];intro z;cases z) b)];exact d.rh.2 a h⟩
def df.same(d:df O H)(s:eD H H'):df O H':=⟨λa b=>s.some (d.has a b),s.b4 d.tabs,d.rh⟩
def cC.new(h:cC K mg O U S ak H)(a:H p=none):cC K mg (gL O p o) U S ak (upd H p u):=h.go (Go.new a) (h.cm.new a)
def cC.gH(h:cC K mg O U S ak H)(a:H p=none):cC K mg O U S ak (upd H p u):=h.go (Go.gH a) (h.cm.same (uP a u))
end
def iH(H:au):R->V->Prop
 |.fr _,v=>∀a,v=.ref a->H a=none|_,_=>True
def iH.back(s:eD H H1):∀{r:R}{v:V},iH H1 r v->iH H r v
 |.v _,_,_=>trivial|.b5 _,_,_=>trivial|.mv _,_,_=>trivial|.fr _,_,h=>λa e=>s.free (h a e)
def kj(H:au):List R->List V->Prop
 |r::rs,v::vs=>iH H r v/\kj H rs vs|_,_=>True
theorem kj.back(s:eD H H1):∀{rs:List R}{vs:List V},kj H1 rs vs->kj H rs vs
 |[],_,_=>trivial|_::_,[],_=>trivial|_::_,_::_,h=>⟨h.1.back s,kj.back s h.2⟩
def vj(K:aN)(mg:bp)(O:a5)(U:aG)(c:bG)(d:St)(H:au)(r:R)(Q:cI):Prop:=
 ∀b v a,Go O b H a->cC K mg b U c d a->ek K mg b a r v->iH H r v->Q v a
inductive p4{α:Type}(K:aN)(mg:bp)(m:aG->M α)(ak:St)(H:au)(P:a5->aG->bG->α->Prop):Prop
 |mk (O:a5) (U:aG) (S:bG) (x:α) (ah:bG) (st:cC K mg O U S ak H) (h:(m U).run S=.ok x ah) (q:P O U ah x):p4 K mg m ak H P
def gr(K:aN)(mg:bp)(m:bt):TE:=λa H Q=>p4 K mg m a H λO U b r=>vj K mg O U b a H r Q
def pH(K:aN)(mg:bp)(m:aG->M Bool):TT:=λd H Q=>p4 K mg m d H λO U e b=>∀c a,Go O c H a->cC K mg c U e d a->Q b a
abbrev hB(X:aQ)(e:Expr)(m:bt):Prop:=b6 X e (gr X.K X.mg m)
abbrev Hb(X:aQ)(e:Expr)(m:aG->M Bool):Prop:=iq X e (pH X.K X.mg m)
abbrev x3(X:aQ)(e:Expr)(m:aG->M Bool):Prop:=k0 X e (pH X.K X.mg m)
def i3(K:aN)(mg:bp)(O:a5)(H:au):List R->List V->Prop
 |[],ys=>ys=[]|x::xs,ys=>∃y r,ys=y::r/\ek K mg O H x y/\i3 K mg O H xs r
abbrev cP:=aG->M (List R)
def n1(K:aN)(mg:bp)(m:cP):fV:=λc H Q=>p4 K mg m c H λO U d rs=>∀b vs a,Go O b H a->cC K mg b U d c a->i3 K mg b a rs vs->kj H rs vs->Q vs a
abbrev G_(X:aQ)(a:List Expr)(m:cP):Prop:=g9 X a (n1 X.K X.mg m)
def eb{t t':TE}(h:b6 X e t)(i:∀U H Q,t' U H Q->t U H Q):b6 X e t':=λa s U H Q I q=>h a s U H Q I (i _ _ _ q)
def sj{t t':TT}(h:iq X e t)(i:∀U H Q,t' U H Q->t U H Q):iq X e t':=λa s U H Q I q=>h a s U H Q I (i _ _ _ q)
def F1{t t':TT}(h:k0 X e t)(i:∀U H Q,t' U H Q->t U H Q):k0 X e t':=λb a s U H Q I q=>h b a s U H Q I (i _ _ _ q)
def uF{t t':fV}(h:g9 X o t)(i:∀U H Q,t' U H Q->t U H Q):g9 X o t':=λpos a s U H Q I q=>h pos a s U H Q I (i _ _ _ q)
@[simp] def J(i:Nat)(U:aG):M R:=match U[i]? with
 |some (.v d)=>pure (.v d)|some (.dO _ xs)=>pure (.mv xs)|some (.b5 xs)=>pure (.b5 xs)|_=>bad
def a4(d:D):bt:=λ_=>pure (.v d)
section
variable{X:aQ}{a b c e:Expr}{ma cK fH m:bt}{bR:aG->M Bool}
def vB{v:V}(h:b6 X e (pD v))(r:∀O H,Rep X.K X.mg O H d v):hB X e (a4 d):=eb h λi H Q f=>by
 obtain⟨O,U,S,j,g,st,h,q⟩:=f;cases h;exact q O v H (Go.refl _ _) st (r O H) trivial
@[simp] def aj(f:R->R->M R)(a b:bt)(U:aG):M R:=do
 let x <-a U
 let y <-b U
 f x y
def ei(K:aN)(mg:bp)(r:fm)(f:R->R->M R):Prop:=
 ∀O U S I H x y o b3 bC C (Q:cI),cC K mg O U S I H->ek K mg O H o x->ek K mg O H b3 y->(f o b3).run S=.ok bC C->vj K mg O U C I H bC Q->r x y H Q
def yz{r:fm}(N:ei K mg r f):∀d H Q,gr K mg (aj f ma cK) d H Q->xA r (gr K mg ma) (gr K mg cK) d H Q:=by
 rintro d H Q ⟨O,U,S,E,A,st,h,q⟩;obtain⟨x,j,w,h⟩:=M.inv h;obtain⟨y,k,z,h⟩:=M.inv h;refine⟨O,U,S,x,j,st,w,λs L R l u p bA=>?_⟩;refine⟨s,U,j,y,k,u,z,λJ P t i bM D T=>?_⟩;exact N J U k d t L P x y E A Q bM (p.go i) D h λB v n g F G nn=>q B v n ((l.trans i).trans g) F G (nn.back (l.trans i).same)
def R.qM:R->M Bool
 |.v (.av b)=>pure b|_=>bad
@[simp] def aU(m:bt)(U:aG):M Bool:=do
 let x <-m U
 x.qM
omit [aA.a0]in
theorem xG{r:R}{b:Bool}{S f:bG}(h:r.qM.run S=.ok b f):r=.v (.av b)/\S=f:=by
 cases r with
 |v d=>cases d<;>cases h<;>exact⟨rfl,rfl⟩
 |fr _=>cases h
 |b5 _=>cases h
 |mv _=>cases h
def GA:∀d H Q,pH K mg (aU m) d H Q->xB (gr K mg m) d H Q:=by
 rintro d H Q ⟨O,U,S,t,p,st,h,q⟩;obtain⟨x,n,i,h⟩:=M.inv h;obtain⟨rfl,rfl⟩:=xG h;exact⟨O,U,S,_,_,st,i,λj v f g k l _=>⟨t,l,q j f g k⟩⟩
def QI{t t':TE}(i:∀U H Q,t' U H Q->t U H Q):∀U H Q,xB t' U H Q->xB t U H Q:=λU H Q q=>i _ _ _ q
@[simp] def e'(f g:R->R->M R)(a b c:bt)(U:aG):M R:=do
 let x <-a U
 let y <-b U
 let z <-f x y
 let t <-z.qM
 if t=true then do
  let w <-c U
  g y w
 else pure (.v (.av false))
def JG{r j:fm}(hf:ei K mg r f)(R:ei K mg j g):∀d H Q,gr K mg (e' f g ma cK fH) d H Q->Gx r j (gr K mg ma) (gr K mg cK) (gr K mg fH) d H Q:=by
 rintro d H Q ⟨O,U,S,j,Y,st,h,q⟩;obtain⟨x,n,V,h⟩:=M.inv h;obtain⟨y,p,W,h⟩:=M.inv h;obtain⟨z,hF,C,h⟩:=M.inv h;obtain⟨t,q9,cJ,h⟩:=M.inv h;obtain⟨rfl,rfl⟩:=xG cJ;refine⟨O,U,S,x,n,st,V,λN fg H1 g1 T L bA=>?_⟩;refine⟨N,U,n,y,p,T,W,λbu E P A bM s nS=>?_⟩;refine hf bu U p d P fg E x y _ _ _ bM (L.go A) s C λu o da B D k _=>⟨t,k,?_⟩
 have i:=(g1.trans A).trans B
 cases t with
 |false=>
  cases h;exact nA (q u _ da i D rfl trivial)
 |true=>
  obtain⟨w,F,ez,h⟩:=M.inv h;refine nB ⟨u,U,_,w,F,D,ez,λJ b5 kf l uS rw nw=>?_⟩;exact R J U F d kf E b5 y w _ Y Q uS (s.go (B.trans l)) rw h λZ v G g I k nn=>q Z v G ((i.trans l).trans g) I k (nn.back (i.trans l).same)
@[simp] def jP(a b:bt)(U:aG):M R:=do
 let x <-a U
 let t <-x.qM
 if t=true then b U else pure (.v (.av false))
@[simp] def vy(a:bt)(U:aG):M R:=do
 let x <-a U
 let t <-x.qM
 pure (.v (.av (!t)))
@[simp] def hX(a b:aG->M Bool)(U:aG):M Bool:=do
 let t <-a U
 if t=true then b U else pure false
@[simp] def fK(a b:aG->M Bool)(U:aG):M Bool:=do
 let t <-a U
 if t=true then pure true else b U
@[simp] def eg(a:aG->M Bool)(U:aG):M Bool:=do
 let t <-a U
 pure (!t)
def x3.cz(h:x3 X a bR):Hb X a bR:=h.pt
end
def sa(g:Int->Int->Int):R->R->M R
 |.v (.int i),.v (.int j)=>pure (.v (.int (g i j)))|_,_=>bad
def pf(C:Int->Int->Prop)[∀i j,Decidable (C i j)](g:Int->Int->Int):R->R->M R
 |.v (.int i),.v (.int j)=>if C i j then pure (.v (.int (g i j)))else bad|_,_=>bad
def r'(g:Int->Int->Bool):R->R->M R
 |.v (.int i),.v (.int j)=>pure (.v (.av (g i j)))|_,_=>bad
section
variable{K:aN}{mg:bp}
def yw{g:Int->Int->Int}:ei K mg (hW λi j=>.int (g i j)) (sa g):=λO U S e H x y c f k d Q st b a h q=>by
 unfold sa at h;split at h
 .rename_i i j
  cases h;exact⟨i,j,b,a,q O _ H (Go.refl _ _) st rfl trivial⟩
 .cases h
def s8{C:Int->Int->Prop}{a:Int->Int->Prop}[∀i j,Decidable (a i j)]{g:Int->Int->Int}(e:∀i j,a i j->C i j):ei K mg (j8 C λi j=>.int (g i j)) (pf a g):=λO U S l H x y f m n k Q st d b h q=>by
 unfold pf at h;split at h
 .rename_i i j
  by_cases c:a i j
  .rw[if_pos c]at h
   cases h;exact⟨i,j,d,b,e i j c,q O _ H (Go.refl _ _) st rfl trivial⟩
  .rw[if_neg c]at h;cases h
 .cases h
def yv{g:Int->Int->Bool}:ei K mg (hW λi j=>.av (g i j)) (r' g):=λO U S e H x y c f k d Q st b a h q=>by
 unfold r' at h;split at h
 .rename_i i j
  cases h;exact⟨i,j,b,a,q O _ H (Go.refl _ _) st rfl trivial⟩
 .cases h
end
abbrev eR:=sa (· + ·)
abbrev ph:=sa (· - ·)
abbrev oMod:=pf (λ_ j=>0<j) (· % ·)
abbrev pg:=pf (λi j=>0<=j/\j<=1000000/\i.natAbs<2 ^ 64) (λi j=>i ^ j.toNat)
abbrev Fj:=pf (λi j=>0<=j/\j<=1000000/\i.natAbs<2 ^ 64) (λi j=>i*2 ^ j.toNat)
abbrev Af:=pf (λ_ j=>0<=j) (λi j=>i / 2 ^ j.toNat)
abbrev w9:=sa amJ
abbrev uu:=sa an9
abbrev oLt:=r' λi j=>decide (i<j)
abbrev oLe:=r' λi j=>decide (i<=j)
abbrev qE:=r' λi j=>decide (j<i)
abbrev uw:=r' λi j=>decide (j<=i)
section
variable{X:aQ}
def Sh:ei X.K X.mg (hW λi j=>.int (i+j)) eR:=yw
def Sv:ei X.K X.mg (hW λi j=>.int (i-j)) ph:=yw
def So:ei X.K X.mg (j8 (λ_ j=>0<j) λi j=>.int (i % j)) oMod:=s8 λ_ _ h=>h
def Sq:ei X.K X.mg (j8 x2 λi j=>.int (i ^ j.toNat)) pg:=s8 λ_ _ h=>h
def Ss:ei X.K X.mg (j8 x2 λi j=>.int (i*2 ^ j.toNat)) Fj:=s8 λ_ _ h=>h
def Su:ei X.K X.mg (j8 (λ_ j=>0<=j) λi j=>.int (i / 2 ^ j.toNat)) Af:=s8 λ_ _ h=>h
def Si:ei X.K X.mg (hW λi j=>.int (amJ i j)) w9:=yw
def Sj:ei X.K X.mg (hW λi j=>.int (an9 i j)) uu:=yw
def B1:ei X.K X.mg (hW λi j=>.av (decide (i<j))) oLt:=yv
def rg:ei X.K X.mg (hW λi j=>.av (decide (i<=j))) oLe:=yv
def Sn:ei X.K X.mg (hW λi j=>.av (decide (j<i))) qE:=yv
def HK:ei X.K X.mg (hW λi j=>.av (decide (j<=i))) uw:=yv
end
@[simp] def bg(f:R->M R)(a:bt)(U:aG):M R:=do
 let x <-a U
 f x
def ux:R->M R
 |.v (.int i)=>pure (.v (.int (-i)))|_=>bad
def R.fz:R->Option (List D)
 |.v (.l xs)=>some xs|.fr xs=>some xs|.b5 xs=>some xs|.mv xs=>some xs|_=>none
def R.GB:R->Option (List D)
 |.v (.t xs)=>some xs|_=>none
def R.seq(r:R):Option (List D):=r.fz<|> r.GB
def R.oV{K:aN}{mg:bp}{O:a5}{H:au}{r:R}{v:V}{xs:List D}(h:ek K mg O H r v)(e:r.fz=some xs):∃a b,v=.ref a/\dw K H a b/\bh K mg O H xs b:=by
 unfold R.fz at e;split at e
 .cases e;obtain⟨a,b,q,l,r⟩:=h;exact⟨a,b,q,l.cT,r⟩
 .cases e;obtain⟨a,b,q,l,_,r⟩:=h;exact⟨a,b,q,dw.of l,r⟩
 .cases e;obtain⟨a,b,q,l,r⟩:=h;exact⟨a,b,q,l.cT,r⟩
 .cases e;obtain⟨a,b,q,l,r⟩:=h;exact⟨a,b,q,dw.of l,r⟩
 .cases e
def R.agy{K:aN}{mg:bp}{O:a5}{H:au}{r:R}{v:V}{xs:List D}(h:ek K mg O H r v)(e:r.GB=some xs):∃a b,v=.ref a/\dB K H a b/\bh K mg O H xs b:=by
 unfold R.GB at e;split at e
 .cases e;exact h
 .cases e
def R.xq{K:aN}{mg:bp}{O:a5}{H:au}{r:R}{v:V}{xs:List D}(h:ek K mg O H r v)(e:r.seq=some xs):∃a b,v=.ref a/\(dw K H a b\/dB K H a b)/\bh K mg O H xs b:=by
 unfold R.seq at e
 cases aq:r.fz with
 |some c=>rw[aq]at e;cases e;obtain⟨a,b,q,l,r⟩:=R.oV h aq;exact⟨a,b,q,.inl l,r⟩
 |none=>rw[aq]at e;obtain⟨a,b,q,l,r⟩:=R.agy h e;exact⟨a,b,q,.inr l,r⟩
def bh.d4{O:a5}{i:Int}(h:bh K mg O H ds xs)(e:d4 ds i=some d):∃x,aA.d4 xs i=some x/\Rep K mg O H d x:=by
 unfold aA.d4 at e ⊢;rw[h.len]
 cases q:nC ds.length i with
 |none=>rw[q]at e;cases e
 |some j=>rw[q]at e;exact h.get e
def c0:R->R->M R
 |.v (.str z),.v (.int i)=>match d4 z.cps.toList i with
  |some c=>if z.length<=ald then pure (.v (.str ⟨#[c]⟩))else bad|none=>bad
 |x,.v (.int i)=>match x.seq with
  |some xs=>match d4 xs i with
   |some d=>pure (.v d)|none=>bad
  |none=>bad
 |_,_=>bad
def hp:ei K mg (P4 K) c0:=fun O U S ak H x y I b3 bC ah Q st C o h q=>by
 unfold c0 at h;split at h
 .rename_i z i
  split at h
  .rename_i c aE
   by_cases hz:z.length<=ald
   .rw[if_pos hz]at h
    cases h;exact .inr (.inr ⟨z,i,c,C,o,hz,aE,q O _ H (Go.refl _ _) st rfl trivial⟩)
   .rw[if_neg hz]at h;cases h
  .cases h
 .rename_i i _
  split at h
  .rename_i xs e
   split at h
   .rename_i d aE
    cases h;obtain⟨a,f,rfl,l,j⟩:=R.xq C e;obtain⟨z,cX,g⟩:=bh.d4 j aE;have b:=q O z H (Go.refl _ _) st g trivial;rcases l with l|l
    .exact .inl ⟨a,f,i,z,rfl,o,l,cX,b⟩
    .exact .inr (.inl ⟨a,f,i,z,rfl,o,l,cX,b⟩)
   .cases h
  .cases h
 .cases h
def b':cP:=λ_=>pure []
@[simp] def dj(m:bt)(ms:cP)(U:aG):M (List R):=do
 let x <-m U
 let xs <-ms U
 pure (x::xs)
def R.dat:R->M D
 |.v d=>pure d|.fr xs=>pure (.l xs)|_=>bad
def kr:List R->M (List D)
 |[]=>pure []|r::rs=>do
  let d <-r.dat
  let ds <-kr rs
  pure (d::ds)
def cN(H₀:au)(O:a5):a5:=⟨λb=>match H₀ b,O b with
 |none,.dI=>.free| _,o=>o,O.bK⟩
def Dk{H₀:au}{O:a5}(h:H₀ b≠none):cN H₀ O b=O b:=by
 show(match H₀ b,O b with|none,.dI=>.free|_,o=>o)=O b
 cases e:H₀ b with
 |none=>exact absurd e h|some o=>cases O b<;>rfl
def Dl{H₀:au}{O:a5}(h:H₀ b=none)(t:O b=.dI):cN H₀ O b=.free:=by show(match H₀ b,O b with|none,.dI=>.free|_,o=>o)=Own.free;rw[h,t]
def rD{O:a5}(t:O b≠.dI):cN H₀ O b=O b:=by
 show(match H₀ b,O b with|none,.dI=>.free|_,o=>o)=O b;cases e:H₀ b<;>cases aE:O b<;>first|rfl|exact absurd aE t
def i7(H₀:au)(O:a5):lK O (cN H₀ O):=⟨λa h=>by rw[rD (by rw[h];intro z;cases z),h],rfl⟩
def jl.dd{O b:a5}(g:lK O b)(d:∀a,O a=.out->b a=.out)(hw:∀a,O a=w->b a=w):∀{s:Slot}{u:Option V},jl K mg O H w s u->jl K mg b H w s u
 |.e,_,_=>trivial| .v _,_,h=>by obtain⟨v,q,r⟩:=h;exact⟨v,q,r.dd g⟩
 |.dO _ _,_,h=>by obtain⟨a,c,q,o,l,r⟩:=h;exact⟨a,c,q,hw a o,l,r.dd g⟩
 |.b5 _,_,h=>by
  obtain⟨a,c,q,l,r⟩:=h;refine⟨a,c,q,l.imp (λz=>⟨z.1,z.2.imp (g.fr a) (d a)⟩) id,r.dd g⟩
section
variable{K:aN}{mg:bp}{O:a5}{U:aG}{S:bG}{ak:St}{H H₀:au}
def cC.cN(h:cC K mg O U S ak H)(H₀:au):cC K mg (cN H₀ O) U S ak H:=
  ⟨⟨λa b=>h.cm.has a λz=>b (by rw[rD (by rw[z];intro w;cases w),z]),h.cm.tabs,h.cm.rh.1,λa m=>by rw[rD (by rw[h.cm.rh.2 a m];intro w;cases w)];exact h.cm.rh.2 a m⟩,h.len,
   λi s e=>(h.loc i s e).dd (i7 _ _) (λa z=>by rw[rD (by rw[z];intro w;cases w),z]) (λa z=>by rw[rD (by rw[z];intro w;cases w),z]),h.gK.all (λ_ _ z=>Rep.dd (i7 _ _) z) rfl λ_ _ _ l _=>l⟩
def Go.cN{c:a5}(g:Go c O H₀ H):Go c (cN H₀ O) H₀ H:=⟨g.same,λb a=>(Dk a).trans (g.own b a),g.bK⟩
def rp{r:R}{v:V}(b:ek K mg O H r v)(c:iH H₀ r v)(h:r.dat.run S=.ok d o):Rep K mg (aC.cN H₀ O) H d v/\S=o:=by
 cases r with
 |v d'=>cases h;exact⟨Rep.dd (i7 _ _) b,rfl⟩
 |fr xs=>
  cases h;obtain⟨a,f,rfl,l,t,e⟩:=b;exact⟨⟨a,f,rfl,⟨l,Dl (c a rfl) t⟩,bh.dd (i7 _ _) e⟩,rfl⟩
 |b5 xs=>cases h
 |mv xs=>cases h
theorem yI:∀{rs:List R}{vs:List V}{ds:List D}{S a:bG},i3 K mg O H rs vs->kj H₀ rs vs->(kr rs).run S=.ok ds a->bh K mg (aC.cN H₀ O) H ds vs/\S=a
 |[],vs,ds,S,a,o,_,h=>by cases h;exact⟨o,rfl⟩
 |r::rs,vs,ds,S,a,o,C,h=>by
  obtain⟨d,i,b,h⟩:=M.inv h;obtain⟨k,j,c,h⟩:=M.inv h;cases h;obtain⟨v,g,rfl,e,f⟩:=o;obtain⟨bB,rfl⟩:=rp e C.1 b;obtain⟨bY,rfl⟩:=yI f C.2 c;exact⟨⟨v,g,rfl,bB,bY⟩,rfl⟩
end
@[simp] def bO(ms:cP)(U:aG):M R:=do
 let rs <-ms U
 let ds <-kr rs
 hL (ds.length<=1000)
 pure (.v (.t ds))
@[simp] def d5(ms:cP)(U:aG):M R:=do
 let rs <-ms U
 let ds <-kr rs
 hL (ds.length<=1000)
 pure (.fr ds)
@[simp] def cF(f:List R->M R)(ms:cP)(U:aG):M R:=do
 let rs <-ms U
 f rs
def kU(K:aN)(mg:bp)(r:List V->au->cI->Prop)(f:List R->M R):Prop:=
 ∀O U S C H xs rs I o (Q:cI),cC K mg O U S C H->i3 K mg O H rs xs->(f rs).run S=.ok I o->vj K mg O U o C H I Q->r xs H Q
section
variable{ms:cP}{r:List V->au->cI->Prop}{f:List R->M R}
def JH(w:kU K mg r f):∀a H Q,gr K mg (cF f ms) a H Q->Gw r (n1 K mg ms) a H Q:=by
 rintro a H Q ⟨O,U,S,s,n,st,h,q⟩;obtain⟨rs,b,m,h⟩:=M.inv h;refine⟨O,U,S,rs,b,st,m,λk vs j c l u nn=>?_⟩;exact w k U b a j vs rs s n Q l u h λp v i g t e d=>q p v i (c.trans g) t e (d.back c.same)
end
def fF:List R->M R
 |[x]=>match x.seq with
  |some xs=>pure (.v (.int (xs.length:Nat)))|none=>bad
 |_=>bad
def nh:List R->M R
 |[.v (.str z)]=>if z.length<=ald then pure (.v (.int (z.length:Nat)))else bad|_=>bad
def R.kind:R->Option String
 |.v .aH=>some "NoneType"|.v (.av _)=>some "bool"|.v (.int _)=>some "int"|.v (.str _)=>some "str"|.v (.t _)=>some "tuple"|.v (.l _)=>some "list"|.fr _=>some "list"|.b5 _=>some "list"|.mv _=>some "list"|_=>none
def hb:List R->M R
 |[x,.v (.ty n)]=>match x.kind with
  |some t=>if n∈["int","bool","tuple","list","str"]then pure (.v (.av (wh t n)))else bad|none=>bad
 |_=>bad
def vK(g:Int->Int->Int):List R->M R
 |[.v (.int i),.v (.int j)]=>pure (.v (.int (g i j)))|_=>bad
abbrev Ve:=vK λi j=>if j > i then j else i
def vL:List R->M R
 |[.v (.int i)]=>pure (.v (.int (if i<0 then -i else i)))|_=>bad
def m_:List D->Option (List Bool)
 |[]=>some []|.av b::r=>(m_ r).map (b::·)|_=>none
def vM:List R->M R
 |[x]=>match x.fz.bind m_ with
  |some bs=>pure (.v (.av (bs.any id)))|none=>bad
 |_=>bad
def oB:List R->M R
 |[x]=>match x.fz.bind m_ with
  |some bs=>pure (.v (.av (bs.all id)))|none=>bad
 |_=>bad
def vN:List R->M R
 |[x]=>match x.seq with
  |some xs=>pure (.fr xs)|none=>bad
 |_=>bad
def qg:List R->M R
 |[x]=>match x.seq with
  |some xs=>pure (.v (.t xs))|none=>bad
 |_=>bad
section
variable{K:aN}{mg:bp}
def kI{O:a5}{r:R}(h:i3 K mg O H [r] vs):∃v,vs=[v]/\ek K mg O H r v:=by
 obtain⟨v,c,rfl,a,b⟩:=h;cases b;exact⟨v,rfl,a⟩
def F9{O:a5}{r s:R}(h:i3 K mg O H [r,s] vs):∃v u,vs=[v,u]/\ek K mg O H r v/\ek K mg O H s u:=by
 obtain⟨v,f,rfl,a,b⟩:=h;obtain⟨u,e,rfl,c,d⟩:=b;cases d;exact⟨v,u,rfl,a,c⟩
def ZV:kU K mg (λxs H Q=>∃p b,xs=[.ref p]/\(dw K H p b\/dB K H p b)/\Q (.int b.length) H) fF:=λO U S i H vs rs j g Q st c h q=>by
 unfold fF at h;split at h
 .rename_i x
  obtain⟨v,rfl,d⟩:=kI c;split at h
  .rename_i xs e
   cases h;obtain⟨a,b,rfl,l,f⟩:=R.xq d e;exact⟨a,b,rfl,l,by rw[f.len];exact q O _ H (Go.refl _ _) st rfl trivial⟩
  .cases h
 .cases h
def ZW:kU K mg (λxs H Q=>∃z,xs=[.str z]/\z.length<=ald/\Q (.int z.length) H) nh:=λO U S d H vs rs e c Q st a h q=>by
 unfold nh at h;split at h
 .rename_i z
  obtain⟨v,rfl,b⟩:=kI a;cases(show v=.str z from b)
  by_cases hz:z.length<=ald
  .rw[if_pos hz]at h
   cases h;exact⟨z,rfl,hz,q O _ H (Go.refl _ _) st rfl trivial⟩
  .rw[if_neg hz]at h;cases h
 .cases h
def R.aad{O:a5}{H:au}{r:R}{v:V}{t:String}(h:ek K mg O H r v)(e:r.kind=some t):m1 K H v t:=by
 unfold R.kind at e;split at e
 .cases e;cases h;exact .aH
 .cases e;cases h;exact .av _
 .cases e;cases h;exact .int _
 .cases e;cases h;exact .str _
 .cases e;obtain⟨a,b,rfl,l,_⟩:=h;exact .t l
 .cases e;obtain⟨a,b,rfl,l,_⟩:=h;exact .l l.cT
 .cases e;obtain⟨a,b,rfl,l,_⟩:=h;exact .l (dw.of l)
 .cases e;obtain⟨a,b,rfl,l,_⟩:=h;exact .l l.cT
 .cases e;obtain⟨a,b,rfl,l,_⟩:=h;exact .l (dw.of l)
 .cases e
def ZU:kU K mg (P2 K) hb:=fun O U S I H vs rs bC C Q st o h q=>by
 unfold hb at h;split at h
 .rename_i x n
  obtain⟨v,u,rfl,c,b⟩:=F9 o;cases(show u=.ty n from b);split at h
  .rename_i t e
   by_cases a:n∈["int","bool","tuple","list","str"]
   .rw[if_pos a]at h
    cases h;exact⟨v,n,t,rfl,R.aad c e,a,q O _ H (Go.refl _ _) st rfl trivial⟩
   .rw[if_neg a]at h;cases h
  .cases h
 .cases h
def ZQ{g:Int->Int->Int}:kU K mg (λxs H Q=>∃i j,xs=[.int i,.int j]/\Q (.int (g i j)) H) (vK g):=λO U S e H vs rs f d Q st a h q=>by
 unfold vK at h;split at h
 .rename_i i j
  obtain⟨v,u,rfl,c,b⟩:=F9 a;cases(show v=.int i from c);cases(show u=.int j from b);cases h;exact⟨i,j,rfl,q O _ H (Go.refl _ _) st rfl trivial⟩
 .cases h
def ZR:kU K mg (λxs H Q=>∃i,xs=[.int i]/\Q (.int (if i<0 then -i else i)) H) vL:=λO U S d H vs rs e c Q st a h q=>by
 unfold vL at h;split at h
 .rename_i i
  obtain⟨v,rfl,b⟩:=kI a;cases(show v=.int i from b);cases h;exact⟨i,rfl,q O _ H (Go.refl _ _) st rfl trivial⟩
 .cases h
theorem Ct{O:a5}:∀{ds:List D}{a:List V}{bs:List Bool},bh K mg O H ds a->m_ ds=some bs->a=bs.map V.av
 |[],a,bs,h,e=>by cases e;exact h
 |d::ds,a,bs,h,e=>by
  cases d with
  |av b=>
   obtain⟨cs,aq,rfl⟩:=an4.mp e;obtain⟨y,r,rfl,c,f⟩:=h;rw[Ct f aq,show y=.av b from c];rfl
  |_=>exact absurd (show(none:Option (List Bool))=some bs from e) (by intro z;cases z)
def ZT:kU K mg (λxs H Q=>∃(l:Addr)(bs:List Bool),xs=[.ref l]/\dw K H l (bs.map V.av)/\Q (.av (bs.any id)) H) vM:=λO U S g H vs rs i f Q st b h q=>by
 unfold vM at h;split at h
 .rename_i x
  obtain⟨v,rfl,c⟩:=kI b;split at h
  .rename_i xs e
   cases h;obtain⟨k,aq,aE⟩:=ape.mp e;obtain⟨a,j,rfl,l,d⟩:=R.oV c aq;rw[Ct d aE]at l;exact⟨a,xs,rfl,l,q O _ H (Go.refl _ _) st rfl trivial⟩
  .cases h
 .cases h
def ZS:kU K mg (λxs H Q=>∃(l:Addr)(bs:List Bool),xs=[.ref l]/\dw K H l (bs.map V.av)/\Q (.av (bs.all id)) H) oB:=λO U S g H vs rs i f Q st b h q=>by
 unfold oB at h;split at h
 .rename_i x
  obtain⟨v,rfl,c⟩:=kI b;split at h
  .rename_i xs e
   cases h;obtain⟨k,aq,aE⟩:=ape.mp e;obtain⟨a,j,rfl,l,d⟩:=R.oV c aq;rw[Ct d aE]at l;exact⟨a,xs,rfl,l,q O _ H (Go.refl _ _) st rfl trivial⟩
  .cases h
 .cases h
def ZX:kU K mg (λxs H Q=>∃p c,xs=[.ref p]/\(dw K H p c\/dB K H p c)/\∀l,H l=none->Q (.ref l) (upd H l (.l c))) vN:=λO U S m H vs rs n k Q st f h q=>by
 unfold vN at h;split at h
 .rename_i x
  obtain⟨v,rfl,g⟩:=kI f;split at h
  .rename_i xs e
   cases h;obtain⟨a,c,rfl,l,j⟩:=R.xq g e;refine⟨a,c,rfl,l,λp d=>q (gL O p .dI) _ _ (Go.new d) (st.new d) ⟨p,c,rfl,dZ,lC,j.go (Go.new d)⟩ λb i=>?_⟩;cases i;exact d
  .cases h
 .cases h
def zp:kU K mg (λxs H Q=>∃p b,xs=[.ref p]/\((dw K H p b/\∀l,H l=none->Q (.ref l) (upd H l (.t b)))\/(dB K H p b/\Q (.ref p) H))) qg:=λO U S j H vs rs k i Q st f h q=>by
 unfold qg at h;split at h
 .rename_i x
  obtain⟨v,rfl,g⟩:=kI f;split at h
  .rename_i xs e
   cases h;obtain⟨a,b,rfl,l,d⟩:=R.xq g e;refine⟨a,b,rfl,?_⟩;rcases l with l|l
   .exact .inl ⟨l,λp c=>q O _ _ (Go.gH c) (st.gH c) ⟨p,b,rfl,dB.of dZ,d.go (Go.gH c)⟩ trivial⟩
   .exact .inr ⟨l,q O _ _ (Go.refl _ _) st ⟨a,b,rfl,l,d⟩ trivial⟩
  .cases h
 .cases h
end
def cutD{α:Type}(xs:List α)(lo hi:Option Int):List α:=(xs.drop (c7.cw xs.length 0 lo)).take (c7.cw xs.length xs.length hi-c7.cw xs.length 0 lo)
def bh.cut{O:a5}(h:bh K mg O H ds xs)(lo hi:Option Int):bh K mg O H (cutD ds lo hi) (tb xs lo hi):=by
 unfold cutD tb;rw[h.len];exact(h.drop _).take _
abbrev kZ:=aG->M (Option Int)
def agr(K:aN)(mg:bp)(m:kZ):fD:=λd H Q=>p4 K mg m d H λO U e b=>∀c a,Go O c H a->cC K mg c U e d a->Q b a
abbrev Rw(X:aQ)(e:Option Expr)(m:kZ):Prop:=vi X e (agr X.K X.mg m)
def jQ:kZ:=λ_=>pure none
@[simp] def kq(m:bt)(U:aG):M (Option Int):=do
 let r <-m U
 match r with
 |.v (.int i)=>pure (some i)|_=>bad
def nU(x:R)(lo hi:Option Int):M R:=
 match x with
 |.v (.t xs)=>if c7.cw xs.length 0 lo=0/\c7.cw xs.length xs.length hi=xs.length then bad else pure (.v (.t (cutD xs lo hi)))|_=>match x.fz with
  |some xs=>pure (.fr (cutD xs lo hi))|none=>bad
@[simp] def p8(a:bt)(lo hi:kZ)(U:aG):M R:=do
 let x <-a U
 let l <-lo U
 let h <-hi U
 nU x l h
def R.own:R->Option (List D)
 |.v (.l xs)=>some xs|.fr xs=>some xs|.mv xs=>some xs|_=>none
def w_(x y:R):M R:=match x.own,y.own with
 |some xs,some ys=>if xs.length+ys.length<=ald then pure (.fr (xs++ys))else bad|_,_=>bad
def pe:R->R->M R
 |.v (.str x),.v (.str y)=>if x.length+y.length<=ald then pure (.v (.str (x++y)))else bad|_,_=>bad
def R.Am{K:aN}{mg:bp}{O:a5}{H:au}{r:R}{v:V}{xs:List D}(h:ek K mg O H r v)(e:r.own=some xs):∃a b,v=.ref a/\H a=some (.l b)/\bh K mg O H xs b:=by
 unfold R.own at e;split at e
 .cases e;obtain⟨a,b,q,l,r⟩:=h;exact⟨a,b,q,l.1,r⟩
 .cases e;obtain⟨a,b,q,l,_,r⟩:=h;exact⟨a,b,q,l,r⟩
 .cases e;obtain⟨a,b,q,l,r⟩:=h;exact⟨a,b,q,l,r⟩
 .cases e
section
variable{K:aN}{mg:bp}
def Sk:ei K mg PY w_:=fun O U S ak H x y o b3 bC ah Q st I C h q=>by
 unfold w_ at h
 cases aq:o.own with
 |none=>rw[aq]at h;cases h
 |some xs=>
  cases aE:b3.own with
  |none=>rw[aq,aE]at h;cases h
  |some k=>
   rw[aq,aE]at h;dsimp only at h
   by_cases hl:xs.length+k.length<=ald
   .rw[if_pos hl]at h
    cases h;obtain⟨a,us,rfl,f,d⟩:=R.Am I aq;obtain⟨b,j,rfl,g,e⟩:=R.Am C aE;refine⟨a,b,us,j,rfl,rfl,f,g,by rw[d.len,e.len];exact hl,λp c=>q (gL O p .dI) _ _ (Go.new c) (st.new c) ⟨p,_,rfl,dZ,lC,(d.append e).go (Go.new c)⟩ λb i=>?_⟩;cases i;exact c
   .rw[if_neg hl]at h;cases h
def Sl:ei K mg (λx y H Q=>∃i j,x=.str i/\y=.str j/\i.length+j.length<=ald/\Q (.str (i++j)) H) pe:=λO U S e H x y c f g d Q st b a h q=>by
 unfold pe at h;split at h
 .rename_i i j
  by_cases hl:i.length+j.length<=ald
  .rw[if_pos hl]at h
   cases h;exact⟨i,j,b,a,hl,q O _ H (Go.refl _ _) st rfl trivial⟩
  .rw[if_neg hl]at h;cases h
 .cases h
end
def D.py:D->PyData
 |.aH=>.none|.av b=>.bool b|.int i=>.int i|.str x=>.str x|.t xs=>.tuple (lz xs)|.l xs=>.list (lz xs)|.ref _=>.none|.fn _=>.none|.ty _=>.none
where lz:List D->List PyData
 |[]=>[]
 |x::xs=>x.py::lz xs
mutual
def D.b4:D->Nat->Bool
 |.aH,_=>true|.av _,_=>true|.int _,_=>true|.str x,_=>alx x|.t xs,n=>match n with
  |0=>false|k+1=>hO xs k
 |.l xs,n=>match n with
  |0=>false|k+1=>hO xs k
 |.ref _,_=>false|.fn _,_=>false|.ty _,_=>false
def hO:List D->Nat->Bool
 |[],_=>true|x::xs,n=>x.b4 n&&hO xs n
end
mutual
def eB:D->D->Bool
 |.aH,b=>match b with|.aH=>true|_=>false
 |.av a,b=>match b with|.av c=>a==c|.int j=>(if a then 1 else 0)==j|_=>false
 |.int i,b=>match b with|.av c=>i==(if c then 1 else 0)|.int j=>i==j|_=>false
 |.str x,b=>match b with|.str y=>x==y|_=>false
 |.t xs,b=>match b with|.t d=>mx xs d|_=>false
 |.l xs,b=>match b with|.l d=>mx xs d|_=>false
 |.ref _,_=>false|.fn _,_=>false|.ty _,_=>false
def mx:List D->List D->Bool
 |[],ys=>match ys with|[]=>true|_=>false
 |x::xs,ys=>match ys with|[]=>false|y::r=>eB x y&&mx xs r
end
mutual
theorem C5:∀(a b:D)(n m:Nat),a.b4 n=true->b.b4 m=true->apu a.py b.py=eB a b
 |.aH,b,n,m,C,o=>by cases b<;>first|rfl|(simp[D.b4]at o)
 |.av _,b,n,m,C,o=>by cases b<;>first|rfl|(simp[D.b4]at o)
 |.int _,b,n,m,C,o=>by cases b<;>first|rfl|(simp[D.b4]at o)
 |.str _,b,n,m,C,o=>by cases b<;>first|rfl|(simp[D.b4]at o)
 |.t xs,b,n,m,C,o=>by
  cases b with
  |t c=>
   cases n with
   |zero=>simp[D.b4]at C|succ k=>
    cases m with
    |zero=>simp[D.b4]at o|succ j=>exact C6 xs c k j C o
  |ref _=>simp[D.b4]at o|fn _=>simp[D.b4]at o|ty _=>simp[D.b4]at o|_=>rfl
 |.l xs,b,n,m,C,o=>by
  cases b with
  |l c=>
   cases n with
   |zero=>simp[D.b4]at C|succ k=>
    cases m with
    |zero=>simp[D.b4]at o|succ j=>exact C6 xs c k j C o
  |ref _=>simp[D.b4]at o|fn _=>simp[D.b4]at o|ty _=>simp[D.b4]at o|_=>rfl
 |.ref _,b,n,m,C,o=>by simp[D.b4]at C| .fn _,b,n,m,C,o=>by simp[D.b4]at C| .ty _,b,n,m,C,o=>by simp[D.b4]at C
theorem C6:∀(xs a:List D)(n m:Nat),hO xs n=true->hO a m=true->PyData.eqvAll (D.py.lz xs) (D.py.lz a)=mx xs a
 |[],a,n,m,C,o=>by cases a<;>rfl
 |x::xs,a,n,m,C,o=>by
  cases a with
  |nil=>rfl|cons y r=>
   rw[hO,alC]at C o;show(apu x.py y.py&&PyData.eqvAll (D.py.lz xs) (D.py.lz r))=(eB x y&&mx xs r);rw[C5 x y n m C.1 o.1,C6 xs r n m C.2 o.2]
end
mutual
theorem Mw:∀(a:D)(n:Nat),a.b4 n=true->a.py.canLay0=true/\a.py.depth<=n
 |.aH,n,h=>⟨rfl,alX _⟩
 |.av _,n,h=>⟨rfl,alX _⟩
 |.int _,n,h=>⟨rfl,alX _⟩
 |.str _,n,h=>⟨h,alX _⟩
 |.t xs,n,h=>by
  cases n with
  |zero=>simp[D.b4]at h|succ k=>obtain⟨bB,bY⟩:=Ds xs k h;exact⟨bB,Nat.succ_le_succ bY⟩
 |.l xs,n,h=>by
  cases n with
  |zero=>simp[D.b4]at h|succ k=>obtain⟨bB,bY⟩:=Ds xs k h;exact⟨bB,Nat.succ_le_succ bY⟩
 |.ref _,n,h=>by simp[D.b4]at h| .fn _,n,h=>by simp[D.b4]at h| .ty _,n,h=>by simp[D.b4]at h
theorem Ds:∀(xs:List D)(n:Nat),hO xs n=true->PyData.canLayAll0 (D.py.lz xs)=true/\PyData.depthAll (D.py.lz xs)<=n
 |[],n,h=>⟨rfl,alX _⟩
 |x::xs,n,h=>by
  rw[hO,alC]at h;obtain⟨a1,a2⟩:=Mw x n h.1;obtain⟨a,b⟩:=Ds xs n h.2;exact⟨by show(x.py.canLay0&&PyData.canLayAll0 (D.py.lz xs))=true;rw[a1,a];rfl,by show max x.py.depth (PyData.depthAll (D.py.lz xs))<=n;omega⟩
end
def y2{a:D}(h:a.b4 64=true):apH a.py=true:=by
 obtain⟨b,c⟩:=Mw a 64 h;show(a.py.canLay0&&decide (a.py.depth<=64))=true;rw[b,decide_eq_true c];rfl
mutual
theorem Rep.py{O:a5}:∀{d:D}{v:V}{n:Nat},d.b4 n=true->Rep K mg O H d v->aA.Rep K H d.py v
 |.aH,_,_,_,h=>h|.av _,_,_,_,h=>h|.int _,_,_,_,h=>h|.str _,_,_,_,h=>h|.t _,_,n,g,h=>by
  cases n with
  |zero=>simp[D.b4]at g|succ k=>obtain⟨a,b,q,l,r⟩:=h;exact⟨a,b,q,l,bh.py (n:=k) g r⟩
 |.l _,_,n,g,h=>by
  cases n with
  |zero=>simp[D.b4]at g|succ k=>obtain⟨a,b,q,l,r⟩:=h;exact⟨a,b,q,l.cT,bh.py (n:=k) g r⟩
 |.ref _,_,_,g,h=>by simp[D.b4]at g| .fn _,_,_,g,h=>by simp[D.b4]at g| .ty _,_,_,g,h=>by simp[D.b4]at g
theorem bh.py{O:a5}:∀{ds:List D}{c:List V}{n:Nat},hO ds n=true->bh K mg O H ds c->aA.bh K H (D.py.lz ds) c
 |[],_,_,_,h=>h|_::_,_,n,g,h=>by
  rw[hO,alC]at g;obtain⟨x,r,q,a,b⟩:=h;exact⟨x,r,q,Rep.py g.1 a,bh.py g.2 b⟩
end
def R.arg:R->D
 |.v d=>d|.fr xs=>.l xs|.b5 xs=>.l xs|.mv xs=>.l xs
def R.ym{K:aN}{mg:bp}{O:a5}{H:au}{r:R}{v:V}{n:Nat}(g:r.arg.b4 n=true)(h:ek K mg O H r v):aA.Rep K H r.arg.py v:=by
 have fz:∀xs,r.fz=some xs->(D.l xs).b4 n=true->aA.Rep K H (D.l xs).py v:=λxs e g=>by
  obtain⟨a,c,q,l,b⟩:=R.oV h e
  cases n with
  |zero=>simp[D.b4]at g|succ k=>exact⟨a,c,q,l,bh.py g b⟩
 cases r with
 |v d=>exact Rep.py g h|fr xs=>exact fz xs rfl g|b5 xs=>exact fz xs rfl g|mv xs=>exact fz xs rfl g
def oEq(x y:R):M R:=if x.arg.b4 64=true/\y.arg.b4 64=true then pure (.v (.av (eB x.arg y.arg)))else bad
def d7(x y:R):M R:=if x.arg.b4 64=true/\y.arg.b4 64=true then pure (.v (.av (!eB x.arg y.arg)))else bad
section
variable{K:aN}{mg:bp}
def B0:ei K mg (As K false) oEq:=λO U S g H x y a e i f Q st d b h q=>by
 unfold oEq at h
 by_cases c:a.arg.b4 64=true/\e.arg.b4 64=true
 .rw[if_pos c]at h
  cases h;refine⟨_,_,R.ym c.1 d,R.ym c.2 b,y2 c.1,y2 c.2,?_⟩;rw[if_neg alg,C5 _ _ _ _ c.1 c.2];exact q O _ H (Go.refl _ _) st rfl trivial
 .rw[if_neg c]at h;cases h
def s7:ei K mg (As K true) d7:=λO U S g H x y a e i f Q st d b h q=>by
 unfold d7 at h
 by_cases c:a.arg.b4 64=true/\e.arg.b4 64=true
 .rw[if_pos c]at h
  cases h;refine⟨_,_,R.ym c.1 d,R.ym c.2 b,y2 c.1,y2 c.2,?_⟩;rw[if_pos rfl,C5 _ _ _ _ c.1 c.2];exact q O _ H (Go.refl _ _) st rfl trivial
 .rw[if_neg c]at h;cases h
end
def R.jY:R->Bool
 |.v .aH=>true|_=>false
def ja(x:R):R->M R
 |.v .aH=>pure (.v (.av x.jY))|_=>bad
def j4(x:R):R->M R
 |.v .aH=>pure (.v (.av (!x.jY)))|_=>bad
section
variable{K:aN}{mg:bp}
def ND{O:a5}{r:R}{v:V}(h:ek K mg O H r v):decide (v=.aH)=r.jY:=by
 have no:∀{a:Addr},v=.ref a->decide (v=.aH)=false:=λ{a} e=>by rw[e];exact decide_eq_false (by intro z;cases z)
 cases r with
 |v d=>
  cases d with
  |aH=>exact decide_eq_true h|av _=>rw[show v=_ from h];rfl|int _=>rw[show v=_ from h];rfl|str _=>rw[show v=_ from h];rfl|ty _=>rw[show v=_ from h];rfl|t _=>obtain⟨a,_,e,_⟩:=h;exact no e
  |l _=>obtain⟨a,_,e,_⟩:=h;exact no e
  |ref _=>obtain⟨a,e,_⟩:=h;exact no e
  |fn _=>obtain⟨a,e,_⟩:=h;exact no e
 |fr _=>obtain⟨a,_,e,_⟩:=h;exact no e
 |b5 _=>obtain⟨a,_,e,_⟩:=h;exact no e
 |mv _=>obtain⟨a,_,e,_⟩:=h;exact no e
def HN:ei K mg (λx y H Q=>y=.aH/\Q (.av (decide (x=.aH))) H) ja:=λO U S e H x y c f g d Q st b a h q=>by
 unfold ja at h;split at h
 .cases h;exact⟨a,by rw[ND b];exact q O _ H (Go.refl _ _) st rfl trivial⟩
 .cases h
def HO:ei K mg (λx y H Q=>y=.aH/\Q (.av (!decide (x=.aH))) H) j4:=λO U S e H x y c f g d Q st b a h q=>by
 unfold j4 at h;split at h
 .cases h;exact⟨a,by rw[ND b];exact q O _ H (Go.refl _ _) st rfl trivial⟩
 .cases h
end
def D.flat:D->Bool
 |.aH=>true|.av _=>true|.int _=>true|.str _=>true|_=>false
def inD(x:D)(xs:List D):Bool:=xs.any λy=>eB y x
def kG(neg:Bool)(x y:R):M R:=match x,y.seq with
 |.v d,some xs=>if d.flat=true/\xs.all D.flat=true then pure (.v (.av (if neg then !inD d xs else inD d xs)))else bad|_,_=>bad
section
variable{K:aN}{mg:bp}
def Mk{O:a5}{d:D}{v:V}(h:Rep K mg O H d v)(f:d.flat=true):ni v=true:=by
 cases d with
 |aH=>rw[show v=_ from h];rfl|av _=>rw[show v=_ from h];rfl|int _=>rw[show v=_ from h];rfl|str _=>rw[show v=_ from h];rfl|_=>exact absurd (show false=true from f) alg
def U9{O:a5}{d e:D}{v u:V}(h:Rep K mg O H d v)(h':Rep K mg O H e u)(f:d.flat=true)(a:e.flat=true):nf v u=eB d e:=by
 cases d with
 |aH=>
  rw[show v=_ from h]
  cases e with
  |aH=>rw[show u=_ from h'];rfl|av _=>rw[show u=_ from h'];rfl|int _=>rw[show u=_ from h'];rfl|str _=>rw[show u=_ from h'];rfl|_=>exact absurd (show false=true from a) alg
 |av _=>
  rw[show v=_ from h]
  cases e with
  |aH=>rw[show u=_ from h'];rfl|av _=>rw[show u=_ from h'];rfl|int _=>rw[show u=_ from h'];rfl|str _=>rw[show u=_ from h'];rfl|_=>exact absurd (show false=true from a) alg
 |int _=>
  rw[show v=_ from h]
  cases e with
  |aH=>rw[show u=_ from h'];rfl|av _=>rw[show u=_ from h'];rfl|int _=>rw[show u=_ from h'];rfl|str _=>rw[show u=_ from h'];rfl|_=>exact absurd (show false=true from a) alg
 |str _=>
  rw[show v=_ from h]
  cases e with
  |aH=>rw[show u=_ from h'];rfl|av _=>rw[show u=_ from h'];rfl|int _=>rw[show u=_ from h'];rfl|str _=>rw[show u=_ from h'];rfl|_=>exact absurd (show false=true from a) alg
 |_=>exact absurd (show false=true from f) alg
theorem Nz{O:a5}{d:D}{v:V}(h:Rep K mg O H d v)(f:d.flat=true):∀{ds:List D}{a:List V},bh K mg O H ds a->ds.all D.flat=true->a.all ni=true/\Ec v a=inD d ds
 |[],a,r,_=>by cases r;exact⟨rfl,rfl⟩
 |e::ds,a,r,g=>by
  obtain⟨y,t,rfl,b,c⟩:=r;rw[anE,alC]at g;obtain⟨bB,bY⟩:=Nz h f c g.2;refine⟨by rw[anE,Mk b g.1,bB];rfl,?_⟩;show(y::t).any (λz=>nf z v)=(e::ds).any λz=>eB z d
  rw[aoQ,aoQ,U9 b h g.1 f];exact congrArg _ bY
def HL(neg:Bool):ei K mg (P1 K neg) (kG neg):=λO U S p H x y m r s n Q st b f h q=>by
 unfold kG at h;split at h
 .rename_i d xs e
  by_cases c:d.flat=true/\xs.all D.flat=true
  .rw[if_pos c]at h
   cases h;obtain⟨a,k,rfl,l,j⟩:=R.xq f e;obtain⟨g,i⟩:=Nz b c.1 j c.2;exact⟨a,k,rfl,l,Mk b c.1,g,by rw[i];exact q O _ H (Go.refl _ _) st rfl trivial⟩
  .rw[if_neg c]at h;cases h
 .cases h
end
inductive fR where
 |bA (U:aG)|b9 (r:R)|bk (U:aG)|cz (U:aG)
abbrev aM:=aG->M fR
def Fix(o:gP):Prop:=(∃xs,o=.t xs)\/∃ba u,o=.cN ba u
structure ej(O ai:a5)(H H':au):Prop where
 cells:∀b o,H b=some o->(O b=.free\/O b=.out\/Fix o)->(h:pa o:=by exact trivial)->H' b=some o
 own:∀b,H b≠none->(O b=.free\/O b=.out)->ai b=O b
 has:∀b,H b≠none->H' b≠none
 cL:∀b ps,H b=some (.gc ps)->∃ly,H' b=some (.gc ly)
 b4:TabsOk H->TabsOk H'
 bK:ai.bK=O.bK
def Go.b1{O a:a5}(g:Go O a H H'):ej O a H H':=⟨λb o e _ n=>g.same.at' b o e n,λb h _=>g.own b h,λ_ h=>g.same.some h,g.same.cL,g.same.b4,g.bK⟩
def ej.refl(O:a5)(H:au):ej O O H H:=(Go.refl O H).b1
def ej.trans{O i j:a5}(a:ej O i H H1)(b:ej i j H1 C):ej O j H C:=by
 have d:∀{b:Addr}{o:gP},H b=some o->H b≠none:=λe z=>by rw[e]at z;cases z
 refine⟨λc o e h n=>?_,λc h f=>?_,λc h=>b.has c (a.has c h),λc ps h=>let⟨p1,aq⟩:=a.cL c ps h;b.cL c p1 aq,λg=>b.b4 (a.b4 g),b.bK.trans a.bK⟩
 .have aq:=a.cells c o e h n
  rcases h with h|h|h
  .exact b.cells c o aq (.inl ((a.own c (d e) (.inl h)).trans h)) n
  .exact b.cells c o aq (.inr (.inl ((a.own c (d e) (.inr h)).trans h))) n
  .exact b.cells c o aq (.inr (.inr h)) n
 .have aq:=a.own c h f
  rw[b.own c (a.has c h) (by rw[aq];exact f),aq]
def eU(U U':aG)(a b:St):Prop:=(∀(i:Nat)(xs:List D),U'[i]? = some (Slot.b5 xs)->U[i]? = some (Slot.b5 xs)/\b[i]? = a[i]?)/\
 (∀(i:Nat)(c:List D),U'[i]? = some (Slot.dO true c)->(∃xs,U[i]? = some (Slot.dO true xs))/\b[i]? = a[i]?)
def eU.refl(U:aG)(a:St):eU U U a a:=⟨λ_ _ h=>⟨h,rfl⟩,λ_ _ h=>⟨⟨_,h⟩,rfl⟩⟩
def eU.trans{v c d:St}(a:eU U C v c)(b:eU C o c d):eU U o v d:=⟨λi xs h=>⟨(a.1 i xs (b.1 i xs h).1).1,(b.1 i xs h).2.trans (a.1 i xs (b.1 i xs h).1).2⟩,λi g h=>by
 obtain⟨⟨xs,e⟩,q⟩:=b.2 i g h;obtain⟨z,f⟩:=a.2 i xs e;exact⟨z,q.trans f⟩⟩
def eU.put{U:aG}{s d:Slot}(c:U[i]? = some d)(k:∀xs,s≠.b5 xs)(f:∀xs,s=.dO true xs->∃b,d=.dO true b):eU U (U.set i s) o o:=by
 have key:∀(j:Nat)(t:Slot),(U.set i s)[j]? = some t->(i=j/\t=s)\/(i≠j/\U[j]? = some t):=λj t h=>by
  by_cases a:i=j
  .subst a
   rw[alA ((ak8.mp c).1)]at h;exact .inl ⟨rfl,(alE h).symm⟩
  .rw[ale a]at h
   exact .inr ⟨a,h⟩
 refine⟨λj xs h=>?_,λj b h=>?_⟩
 .rcases key j _ h with⟨_,e⟩|⟨_,e⟩
  .exact absurd e.symm (k xs)
  .exact⟨e,rfl⟩
 .rcases key j _ h with⟨rfl,e⟩|⟨_,e⟩
  .obtain⟨l,g⟩:=f b e.symm
   exact⟨⟨l,g▸c⟩,rfl⟩
  .exact⟨⟨_,e⟩,rfl⟩
def BB(K:aN)(mg:bp)(O:a5)(H:au):R->V->Prop
 |.v d,v=>Rep K mg O H d v|.fr xs,v=>∃a b,v=.ref a/\H a=some (.l b)/\(O a=.dI\/∃i,O a=.loc i)/\bh K mg O H xs b|_,_=>False
def od(K:aN)(mg:bp)(O:a5)(U:aG)(d:bG)(e:St)(H:au)(U':aG)(N:St->au->Prop):Prop:=
 ∀c b a,ej O c H a->cC K mg c U' d b a->eU U U' e b->N b a
def yd(K:aN)(mg:bp)(O:a5)(U:aG)(b:bG)(e:St)(H:au)(f:fR)(d:Ends):Prop:=match f with
 |.bA U'=>od K mg O U b e H U' d.bA|.bk U'=>od K mg O U b e H U' d.bk|.cz U'=>od K mg O U b e H U' d.cz|.b9 r=>∀c v a,ej O c H a->df c a->fN K mg c a b->BB K mg c a r v->d.b9 v a
def od.b1{O a:a5}{N:St->au->Prop}(h:od K mg O U o C H U' N)(g:ej O a H H1)(k:eU U I C xY):od K mg a I o xY H1 U' N:=
 λc d b g' st e=>h c d b (g.trans g') st (k.trans e)
def yd.b1{O a:a5}(h:yd K mg O U C I H o hC)(g:ej O a H H1)(k:eU U e0 I xY):yd K mg a e0 C xY H1 o hC:=by
 cases o with
 |bA U'=>exact od.b1 h g k|bk U'=>exact od.b1 h g k|cz U'=>exact od.b1 h g k|b9 r=>exact λc v b g' d e r=>h c v b (g.trans g') d e r
def kL(K:aN)(mg:bp)(m:aM):gQ:=λd a H=>p4 K mg m a H λO U c b=>yd K mg O U c a H b d
abbrev Rx(X:aQ)(st:Stmt)(m:aM):Prop:=iJ X st (kL X.K X.mg m)
abbrev vc(X:aQ)(a:List Stmt)(m:aM):Prop:=ip X a (kL X.K X.mg m)
def gZ{s:Stmt}{t t':gQ}(h:iJ X s t)(i:∀D U H,t' D U H->t D U H):iJ X s t':=λa s U H D I q=>h a s U H D I (i _ _ _ q)
def Ao{s:List Stmt}{t t':gQ}(h:ip X s t)(i:∀D U H,t' D U H->t D U H):ip X s t':=λa s U H D I q=>h a s U H D I (i _ _ _ q)
@[simp] def bQ(U:aG):M fR:=pure (.bA U)
def om:aM:=λ_=>bad
@[simp] def bN(a b:aM)(U:aG):M fR:=do
 let c <-a U
 match c with
 |.bA U'=>b U'|c=>pure c
@[simp] def aZ(m:bt)(U:aG):M fR:=do
 let r <-m U
 match r with
 |.v d=>pure (.b9 (.v d))|.fr xs=>pure (.b9 (.fr xs))|_=>bad
@[simp] def yB(i:Nat)(U:aG):M fR:=match U[i]? with
 |some (.dO false xs)=>pure (.b9 (.fr xs))|_=>bad
@[simp] def b8(t:aG->M Bool)(a b:aM)(U:aG):M fR:=do
 let t <-t U
 if t=true then a U else b U
@[simp] def ck(i:Nat)(m:bt)(U:aG):M fR:=do
 let r <-m U
 let d <-r.dat
 pure (.bA (U.set i (.v d)))
@[simp] def nc(i:Nat)(m:bt)(U:aG):M fR:=do
 let r <-m U
 match r with
 |.fr xs=>pure (.bA (U.set i (.dO false xs)))|_=>bad
section
variable{st:Stmt}{a b:aM}{e:Expr}{m:bt}
theorem Qd{O:a5}{r:R}{v:V}(h:ek K mg O H r v)(c:(∃d,r=.v d)\/∃xs,r=.fr xs):BB K mg O H r v:=by
 rcases c with⟨d,rfl⟩|⟨xs,rfl⟩
 .exact h
 .obtain⟨a,g,q,l,t,f⟩:=h;exact⟨a,g,q,l,.inl t,f⟩
theorem cC.set{O:a5}{U:aG}{S:bG}{d:St}{s:Slot}{v:V}(st:cC K mg O U S d H)(h:jl K mg O H (.loc i) s (some v)):cC K mg O (U.set i s) S (d.set i (some v)) H:=by
 refine⟨st.cm,by rw[alS,alS];exact st.len,λj t e=>?_,st.gK⟩
 by_cases c:i=j
 .subst c
  have hl:i<U.length:=by
   have:=(ak8.mp e).1
   rwa[alS]at this
  rw[alA hl]at e;cases e;rw[alA (by rw[<-st.len];exact hl)];exact h
 .rw[ale c]at e
  rw[ale c];exact st.loc j t e
theorem eU.set{U:aG}{c:St}{s:Slot}{v:Option V}(aw:∀xs,s≠.b5 xs)(g:∀xs,s≠.dO true xs:=by intro xs z;cases z):eU U (U.set i s) c (c.set i v):=by
 have key:∀(j:Nat)(t:Slot),(U.set i s)[j]? = some t->t≠s->U[j]? = some t/\(c.set i v)[j]? = c[j]?:=λj t h k=>by
  by_cases d:i=j
  .subst d
   have hl:i<U.length:=by
    have:=(ak8.mp h).1
    rwa[alS]at this
   rw[alA hl]at h;exact absurd (alE h).symm k
  .rw[ale d]at h ⊢
   exact⟨h,rfl⟩
 refine⟨λj xs h=>key j _ h (λz=>aw xs z.symm),λj f h=>?_⟩;obtain⟨a,b⟩:=key j _ h (λz=>g f z.symm);exact⟨⟨f,a⟩,b⟩
theorem cC.own{K:aN}{mg:bp}{O:a5}{U:aG}{S:bG}{c:St}{H:au}{i:Nat}{a:Addr}{xs:List D}{d:List V}(st:cC K mg O U S c H)(n:O a=.dI)(hl:H a=some (.l d))(g:bh K mg O H xs d) :
  cC K mg (gL O a (.loc i)) (U.set i (.dO false xs)) S (c.set i (some (.ref a))) H:=by
 have ne:∀{b:Addr}{w:Own},O b=w->w≠.dI->gL O a (.loc i) b=w:=λ{b w} h hw=>by
  rw[pK];exact h;rintro rfl;exact hw (h.symm.trans n)
 have dd:lK O (gL O a (.loc i)):=⟨λb h=>ne h (by intro z;cases z),rfl⟩;have k:cC K mg (gL O a (.loc i)) U S c H:=by
  refine⟨⟨λb f=>?_,st.cm.tabs,st.cm.rh.1,λb m=>ne (st.cm.rh.2 b m) (by intro z;cases z)⟩,st.len,λj s e=>(st.loc j s e).dd dd (λb h=>ne h (by intro z;cases z)) (λb h=>ne h (by intro z;cases z)),st.gK.all (λ_ _ z=>Rep.dd dd z) rfl λ_ _ _ l _=>l⟩
  by_cases e:b=a
  .rw[e,hl];intro z;cases z
  .rw[pK e]at f;exact st.cm.has b f
 exact k.set ⟨a,d,rfl,lC,hl,g.dd dd⟩
theorem ej.dI{O:a5}{H:au}{a:Addr}{w:Own}(c:O a=.dI):ej O (gL O a w) H H:=by
 refine⟨λb o e _ _=>e,λb h f=>?_,λ_ h=>h,λ_ ps h=>⟨ps,h⟩,id,rfl⟩;rw[pK];rintro rfl;rw[c]at f;rcases f with z|z<;>cases z
theorem Qr{f:TE}(hi:∀U H Q,gr K mg m U H Q->f U H Q):∀D c H,kL K mg (ck i m) D c H->uV f (l0 i) D c H:=by
 rintro D c H ⟨O,U,S,u,x,st,h,q⟩;obtain⟨r,j,n,h⟩:=M.inv h;obtain⟨d,w,p,h⟩:=M.inv h;cases h;refine hi c H _ ⟨O,U,S,r,j,st,n,λk v g t l s nn=>?_⟩;obtain⟨c_,rfl⟩:=rp s nn p;exact q (cN H k) _ g t.cN.b1 ((l.cN H).set ⟨v,rfl,c_⟩) (eU.set λxs z=>by cases z)
theorem Pj{d:TE}(hi:∀U H Q,gr K mg m U H Q->d U H Q):∀D c H,kL K mg (nc i m) D c H->uV d (l0 i) D c H:=by
 rintro D c H ⟨O,U,S,w,x,st,h,q⟩;obtain⟨r,s,j,h⟩:=M.inv h;split at h
 .rename_i xs
  cases h;refine hi c H _ ⟨O,U,S,_,_,st,j,λu v f n g k nn=>?_⟩;obtain⟨a,y,rfl,l,t,p⟩:=k;exact q _ _ f (n.b1.trans (ej.dI t)) (g.own t l p) (eU.set λxs z=>by cases z)
 .cases h
end
@[simp] def JI(i:Nat)(f:List D->List R->M (R×List D))(ms:cP)(U:aG):M (R×aG):=do
 let rs <-ms U
 match U[i]? with
 |some (.dO p xs)=>do
  let(r,ys) <-f xs rs
  pure (r,U.set i (.dO p ys))
 |_=>bad
@[simp] def ri(i:Nat)(f:List D->List R->M (R×List D))(ms:cP)(U:aG):M fR:=do
 let(_,U') <-JI i f ms U
 pure (.bA U')
def kM(xs:List D):List R->M (R×List D)
 |[r]=>do
  let d <-r.dat
  hL (xs.length<ald)
  pure (.v .aH,xs++[d])
 |_=>bad
def xH(xs:List D):List R->M (R×List D)
 |[r]=>match r.own with
  |some a=>do
   hL (xs.length+a.length<=ald)
   pure (.v .aH,xs++a)
  |none=>bad
 |_=>bad
section
variable{K:aN}{mg:bp}{O:a5}{H:au}{l:Addr}{zs ws:List V}
mutual
theorem Rep.eF(b:O l≠.free)(hl:H l=some (.l zs)):∀{d:D}{v:V},Rep K mg O H d v->Rep K mg O (upd H l (.l ws)) d v
 |.aH,_,h=>h|.av _,_,h=>h|.int _,_,h=>h|.str _,_,h=>h|.t _,_,h=>by
  obtain⟨a,c,q,t,r⟩:=h;refine⟨a,c,q,?_,bh.eF b hl r⟩;rcases t with(t|⟨o,t⟩)|t
  .exact .inl (.inl (by rw[c3 (OW t hl (by intro z;cases z))];exact t))
  .exact .inl (.inr ⟨o,by rw[c3 (OW t hl (by intro z;cases z))];exact t⟩)
  .exact .inr t
 |.l _,_,h=>by
  obtain⟨a,c,q,t,r⟩:=h;exact⟨a,c,q,⟨by rw[c3 (by rintro rfl;exact b t.2)];exact t.1,t.2⟩,bh.eF b hl r⟩
 |.ref _,_,h=>h|.fn _,_,h=>h|.ty _,_,h=>h
theorem bh.eF(c:O l≠.free)(hl:H l=some (.l zs)):∀{ds:List D}{d:List V},bh K mg O H ds d->bh K mg O (upd H l (.l ws)) ds d
 |[],_,h=>h| _::_,_,h=>by obtain⟨x,r,q,a,b⟩:=h;exact⟨x,r,q,Rep.eF c hl a,bh.eF c hl b⟩
end
def hY.eF(b:O l≠.free)(c:O l≠.out)(h:hY K O H a ys):hY K O (upd H l (.l ws)) a ys:=by
 rcases h with⟨h,f⟩|h
 .have ne:a≠l:=by rintro rfl;exact f.elim b c
  refine .inl ⟨?_,f⟩;rcases h with h|⟨o,h⟩
  .exact .inl (by rw[c3 ne];exact h)
  .exact .inr ⟨o,by rw[c3 ne];exact h⟩
 .exact .inr h
def jl.eF(b:O l≠.free)(d:O l≠.out)(hw:O l≠w)(hl:H l=some (.l zs)):∀{s:Slot}{u:Option V},jl K mg O H w s u->jl K mg O (upd H l (.l ws)) w s u
 |.e,_,_=>trivial| .v _,_,h=>by obtain⟨v,q,r⟩:=h;exact⟨v,q,r.eF b hl⟩
 |.dO _ _,_,h=>by obtain⟨a,c,q,o,t,r⟩:=h;exact⟨a,c,q,o,by rw[c3 (by rintro rfl;exact hw o)];exact t,r.eF b hl⟩
 |.b5 _,_,h=>by obtain⟨a,c,q,t,r⟩:=h;exact⟨a,c,q,t.eF b d,r.eF b hl⟩
def df.eF(d:df O H)(hl:H l=some (.l zs)):df O (upd H l (.l ws)):=⟨λa b=>by
 by_cases e:a=l
 .rw[e,dZ];intro z;cases z
 .rw[c3 e];exact d.has a b,d.tabs.l hl _,d.rh⟩
def ej.eF(a:O l≠.free)(c:O l≠.out)(hl:H l=some (.l zs)):ej O O H (upd H l (.l ws)):=by
 refine⟨λb o e h _=>?_,λ_ _ _=>rfl,λb h=>?_,λb ps e=>⟨ps,by rw[c3 (by rintro rfl;rw[hl]at e;cases e)];exact e⟩,λg=>g.l hl _,rfl⟩
 .rw[c3]
  .exact e
  .rintro rfl
   rcases h with h|h|⟨xs,h⟩|⟨_,_,h⟩
   .exact a h
   .exact c h
   .subst h;rw[e]at hl;cases hl
   .subst h;rw[e]at hl;cases hl
 .by_cases e:b=l
  .rw[e,dZ];intro z;cases z
  .rw[c3 e];exact h
def fN.eF{S:bG}(s:fN K mg O H S)(c:df O H)(b:O l≠.free)(d:O l≠.out)(hl:H l=some (.l zs)):fN K mg O (upd H l (.l ws)) S:=
 s.all (λ_ _ z=>Rep.eF b hl z) rfl λa h u e _=>by rw[c3 (by rintro rfl;exact d (c.rh.2 _ h))];exact e
def cC.eF{U:aG}{S:bG}{a:St}(st:cC K mg O U S a H)(hi:U[i]? = some (.dO p xs))(f:a[i]?.join=some (.ref l))(c:O l=.loc i)(hl:H l=some (.l zs))(d:bh K mg O H ys ws) :
  cC K mg O (U.set i (.dO p ys)) S a (upd H l (.l ws)):=by
 have ne:∀w:Own,w≠.loc i->O l≠w:=λw hw z=>hw (z.symm.trans c)
 refine⟨st.cm.eF hl,by rw[alS];exact st.len,λj t e=>?_,st.gK.eF st.cm (ne _ (by intro z;cases z)) (ne _ (by intro z;cases z)) hl⟩
 by_cases b:i=j
 .subst b
  have g:i<U.length:=(ak8.mp hi).1;rw[alA g]at e;cases e;exact⟨l,ws,f,c,dZ,d.eF (ne _ (by intro z;cases z)) hl⟩
 .rw[ale b]at e
  exact(st.loc j t e).eF (ne _ (by intro z;cases z)) (ne _ (by intro z;cases z)) (ne _ (by intro z;cases z;exact b rfl)) hl
end
def sL(K:aN)(mg:bp)(r:V->List V->au->cI->Prop)(f:List D->List R->M (R×List D)):Prop:=
 ∀O H H₀ l xs zs rs vs S o C ys (Q:cI),H l=some (.l zs)->bh K mg O H xs zs->i3 K mg O H rs vs->kj H₀ rs vs->(f xs rs).run S=.ok (C,ys) o->
  (∀v a,S=o->bh K mg (cN H₀ O) H ys a->(∃d,C=.v d/\Rep K mg (cN H₀ O) H d v)->Q v (upd H l (.l a)))->r (.ref l) vs H Q
section
variable{K:aN}{mg:bp}
def wy:sL K mg PX kM:=λO H H₀ l xs j rs vs S n p s Q hl a e b h q=>by
 unfold kM at h;split at h
 .rename_i r
  obtain⟨v,rfl,i⟩:=kI e;obtain⟨d,k,f,h⟩:=M.inv h;obtain⟨_,m,g,h⟩:=M.inv h;obtain⟨c,rfl⟩:=rk g;obtain⟨c_,rfl⟩:=rp (H₀:=H₀) i b.1 f;cases h;exact⟨l,j,v,rfl,rfl,hl,by rw[a.len];exact c,q .aH _ rfl ((a.dd (i7 _ _)).append (.one c_)) ⟨.aH,rfl,rfl⟩⟩
 .cases h
def aaU:sL K mg P0 xH:=λO H H₀ l xs m rs vs S s t u Q hl a f n h q=>by
 unfold xH at h;split at h
 .rename_i r
  obtain⟨v,rfl,i⟩:=kI f;split at h
  .rename_i us e
   obtain⟨_,p,g,h⟩:=M.inv h;obtain⟨c,rfl⟩:=rk g;cases h;obtain⟨b,k,rfl,j,d⟩:=R.Am i e;exact⟨l,b,m,k,rfl,rfl,hl,j,by rw[a.len,d.len];exact c,q .aH _ rfl ((a.append d).dd (i7 _ _)) ⟨.aH,rfl,rfl⟩⟩
  .cases h
 .cases h
variable{f:List D->List R->M (R×List D)}{r:V->List V->au->cI->Prop}{ms:cP}{i:Nat}
def abe(V:sL K mg r f){O:a5}{U U':aG}{S u:bG}{b:St}{H:au}{x:R}{Q:cI}(st:cC K mg O U S b H)(h:(JI i f ms U).run S=.ok (x,U') u)
  (q:∀l v g,ej O l H g->cC K mg l U' u b g->eU U U' b b->(∃d,x=.v d/\Rep K mg l g d v)->Q v g) :
  ∃v,b[i]? = some (some v)/\AU K "list" v H/\n1 K mg ms b H λvs E=>r v vs E Q:=by
 obtain⟨rs,n,J,h⟩:=M.inv h
 cases e:U[i]? with
 |none=>rw[e]at h;cases h
 |some s=>
  rw[e]at h
  cases s with
  |e=>cases h
  |v _=>cases h
  |b5 _=>cases h
  |dO p xs=>
   obtain⟨⟨o,X⟩,Z,L,h⟩:=M.inv h;cases h;obtain⟨a,Y,aq,aE,cX,eO⟩:=st.loc i _ e;have A:b[i]? = some (some (.ref a)):=by
    cases w:b[i]? with
    |none=>rw[w]at aq;cases aq
    |some y=>rw[w]at aq;exact congrArg some aq
   refine⟨.ref a,A,.inl ⟨rfl,_,dw.of cX⟩,O,U,S,rs,n,st,J,λc vs B j F P nn=>?_⟩;have k:=j.same.at' _ _ cX;have t:H a≠none:=by rw[cX];intro z;cases z
   have D:c a=.loc i:=(j.own a t).trans aE;refine V c B H a xs Y rs vs n _ _ X Q k (eO.go j) P nn L λv C N W G=>?_
   obtain⟨d,T,c_⟩:=G;subst N;have m:cN H c a=.loc i:=by rw[Dk t];exact D
   have no:∀w:Own,w≠.loc i->cN H c a≠w:=λw hw z=>hw (z.symm.trans m)
   refine q (cN H c) v _ (j.cN.b1.trans (ej.eF (no _ (by intro z;cases z)) (no _ (by intro z;cases z)) k)) ((F.cN H).eF e (by rw[A];rfl) m k W) ?_ ⟨d,T,c_.eF (no _ (by intro z;cases z)) k⟩;exact eU.put e (λxs z=>by cases z) (λ_ z=>by cases z;exact⟨xs,rfl⟩)
end
def x8(b:il)(O:a5)(H:au)(c:List V):Prop:=∀e a,ej O e H a->∀i,(i<c.length->b.go i a/\∀x d,b.pT i a x d->d=a/\c[i]? = some x)/\(c.length<=i->b.stop i a)
abbrev fB:=aG->M (List D)
def xD(K:aN)(mg:bp)(m:fB):TI:=λc H R=>p4 K mg m c H λO U f xs=>∀b a d e,Go O b H a->cC K mg b U f c a->x7 d a e->bh K mg b a xs e->R d a
def xE(K:aN)(mg:bp)(m:fB):TI:=λc H R=>p4 K mg m c H λO U f xs=>∀b a d e,Go O b H a->cC K mg b U f c a->x8 d b a e->bh K mg b a xs e->R d a
abbrev G'(X:aQ)(cg a:Expr)(m:fB):Prop:=jK X cg a (xD X.K X.mg m)
abbrev Rv(X:aQ)(cg a:Expr)(m:fB):Prop:=jK X cg a (xE X.K X.mg m)
def pk{cg e:Expr}{t t':TI}(h:jK X cg e t)(i:∀U H Q,t' U H Q->t U H Q):jK X cg e t':=λa s U H Q I q=>h a s U H Q I (i _ _ _ q)
def ej.AD{O b:a5}(g:ej O b H H')(h:dB K H a ys):dB K H' a ys:=by
 rcases h with(h|⟨o,h⟩)|h
 .exact .inl (.inl (g.cells _ _ h (.inr (.inr (.inl ⟨_,rfl⟩)))))
 .exact .inl (.inr ⟨o,g.cells _ _ h (.inr (.inr (.inr ⟨_,_,rfl⟩)))⟩)
 .exact .inr h
def ej.aaJ{O b:a5}(g:ej O b H H')(h:hY K O H a ys):hY K b H' a ys:=by
 rcases h with⟨h,f⟩|h
 .refine .inl ⟨?_,by rw[g.own a (hE.some h) f];exact f⟩
  rcases h with h|⟨o,h⟩
  .exact .inl (g.cells _ _ h (f.elim .inl λz=>.inr (.inl z)))
  .exact .inr ⟨o,g.cells _ _ h (f.elim .inl λz=>.inr (.inl z))⟩
 .exact .inr h
@[simp] def lh(m:bt)(U:aG):M (List D):=do
 let r <-m U
 match r with
 |.v (.t xs)=>pure xs|_=>bad
@[simp] def wb(m:bt)(U:aG):M (List D):=do
 let r <-m U
 match r with
 |.v (.l xs)=>pure xs|.fr xs=>pure xs|.b5 xs=>pure xs|_=>bad
@[simp] def nz(m:bt)(U:aG):M (List D):=do
 let r <-m U
 match r.fz with
 |some xs=>pure xs|none=>bad
def dP(lo:Int)(n:Nat):List D:=(alD n).map λi=>D.int (lo+(i:Nat))
omit [aA.a0]in
theorem nY(lo:Int)(n:Nat):(dP lo n).length=n:=by unfold dP;rw[ala,amt]
@[simp] def gV(m:cP)(U:aG):M (List D):=do
 let rs <-m U
 match rs with
 |[.v (.int j)]=>if -(2 ^ 62)<=j/\j<2 ^ 62 then pure (dP 0 j.toNat)else bad|_=>bad
@[simp] def tF(m:cP)(U:aG):M (List D):=do
 let rs <-m U
 match rs with
 |[.v (.int i),.v (.int j)]=>if -(2 ^ 62)<=i/\i<2 ^ 62/\-(2 ^ 62)<=j/\j<2 ^ 62 then pure (dP i (j-i).toNat)else bad|_=>bad
def Ga{O:a5}(lo:Int)(n:Nat):bh K mg O H (dP lo n) (mB lo n):=by
 unfold dP mB
 induction(alD n)with
 |nil=>rfl|cons a r b=>exact⟨.int (lo+a),_,rfl,rfl,b⟩
def NH{O:a5}(lo:Int)(n:Nat):x8 (mU lo n) O H (mB lo n):=λb a _ i=>zm (H:=a) lo n a (eD.refl _) i
section
variable{a:Expr}{ms:cP}
def Qi:(∀b H R,xE K mg (gV ms) b H R->Ea (n1 K mg ms) b H R)/\(∀b H R,xD K mg (gV ms) b H R->Ea (n1 K mg ms) b H R):=by
 constructor<;>
 .rintro b H R ⟨O,U,S,xs,n,st,h,q⟩
  obtain⟨rs,m,g,h⟩:=M.inv h;split at h
  .rename_i j
   by_cases c:-(2 ^ 62)<=j/\j<2 ^ 62
   .rw[if_pos c]at h
    cases h;refine⟨O,U,S,_,_,st,g,λe vs d l f k nn=>?_⟩;obtain⟨v,rfl,i⟩:=kI k;cases(show v=.int j from i);exact⟨j,rfl,c.1,c.2,q e d (mU 0 j.toNat) (mB 0 j.toNat) l f (by first|exact NH _ _|exact zm _ _) (Ga _ _)⟩
   .rw[if_neg c]at h;cases h
  .cases h
def ae1:(∀b H R,xE K mg (tF ms) b H R->Eb (n1 K mg ms) b H R)/\(∀b H R,xD K mg (tF ms) b H R->Eb (n1 K mg ms) b H R):=by
 constructor<;>
 .rintro b H R ⟨O,U,S,xs,r,st,h,q⟩
  obtain⟨rs,p,g,h⟩:=M.inv h;split at h
  .rename_i i j
   by_cases c:-(2 ^ 62)<=i/\i<2 ^ 62/\-(2 ^ 62)<=j/\j<2 ^ 62
   .rw[if_pos c]at h
    cases h;refine⟨O,U,S,_,_,st,g,λe vs d n f l nn=>?_⟩;obtain⟨v,u,rfl,k,m⟩:=F9 l;cases(show v=.int i from k);cases(show u=.int j from m);exact⟨i,j,rfl,c,q e d (mU i (j-i).toNat) (mB i (j-i).toNat) n f (by first|exact NH _ _|exact zm _ _) (Ga _ _)⟩
   .rw[if_neg c]at h;cases h
  .cases h
def Eg{K:aN}{O:a5}{H:au}{a:Addr}{xs:List V}(h:hY K O H a xs):x8 (pZ K a) O H xs:=λc b g i=>NG (g.aaJ h).cT b (eD.refl _) i
def ZK{K:aN}{O:a5}{H:au}{a:Addr}{xs:List V}(h:dB K H a xs):x8 (sP K a) O H xs:=λc b g i=>NI (g.AD h) b (eD.refl _) i
end
def jU(b:D->aM):List D->aM
 |[]=>λU=>pure (.bA U)
 |d::ds=>λU=>do
  let a <-b d U
  match a with
  |.bA U'=>jU b ds U'|.cz U'=>jU b ds U'|.bk U'=>pure (.bA U')|.b9 r=>pure (.b9 r)
@[simp] def i5(i:Nat)(it:fB)(b:aM)(U:aG):M fR:=do
 let ds <-it U
 jU (λd U=>b (U.set i (.v d))) ds U
def sC(c:aG->M Bool)(b:aM):Nat->aM
 |0=>λ_=>bad
 |n+1=>λU=>do
  let t <-c U
  if t=true then do
   let a <-b U
   match a with
   |.bA U'=>sC c b n U'|.cz U'=>sC c b n U'|.bk U'=>pure (.bA U')|.b9 r=>pure (.b9 r)
  else pure (.bA U)
@[irreducible] def pM:Nat:=2 ^ 24
def vz(c:aG->M Bool)(b:aM):aM:=sC c b pM
def cC.val{O:a5}{U:aG}{S:bG}{a:St}{v:V}(st:cC K mg O U S a H)(h:Rep K mg O H d v):cC K mg O (U.set i (.v d)) S (a.set i (some v)) H:=st.set ⟨v,rfl,h⟩
def bh.b1{O f:a5}(g:ej O f H H'):∀{ds:List D}{c:List V},bh K mg O H ds c->bh K mg f H' ds c:=by
 have rep:∀(d:D)(v:V),Rep K mg O H d v->Rep K mg f H' d v:=by
  intro d
  induction d using D.rec (motive_2:=λds=>∀c,bh K mg O H ds c->bh K mg f H' ds c)with
  |aH=>exact λv h=>h
  |av _=>exact λv h=>h
  |int _=>exact λv h=>h
  |str _=>exact λv h=>h
  |fn _=>exact λv h=>h
  |ty _=>exact λv h=>h
  |ref n=>exact λv ⟨a,q,l⟩=>⟨a,q,by rw[g.bK];exact l⟩
  |t xs e=>exact λv ⟨a,c,q,l,r⟩=>⟨a,c,q,g.AD l,e c r⟩
  |l xs e=>exact λv ⟨a,c,q,l,r⟩=>⟨a,c,q,⟨g.cells _ _ l.1 (.inl l.2),by rw[g.own a (by rw[l.1];intro z;cases z) (.inl l.2)];exact l.2⟩,e c r⟩
  |nil=>assumption|cons x xs i j=>
   rename_i k hz;obtain⟨y,r,q,a,b⟩:=hz;exact⟨y,r,q,i y a,j r b⟩
 intro ds
 induction ds with
 |nil=>exact λh=>h
 |cons x xs e=>rintro c ⟨y,r,q,a,b⟩;exact⟨y,r,q,rep x y a,e b⟩
section
variable{it:fB}{i:Nat}{b:aM}{x:Str}{t:aG->M Bool}
def bh.get'{O:a5}{ds:List D}{a:List V}(h:bh K mg O H ds a)(e:ds.drop k=d::o):∃y,a[k]? = some y/\Rep K mg O H d y/\ds.drop (k+1)=o:=by
 have aq:ds[k]? = some d:=by
  have:=congrArg (·[0]?) e;simpa using this
 obtain⟨y,q,r⟩:=h.get aq;refine⟨y,q,r,?_⟩;simpa using congrArg (List.drop 1) e
theorem Vw{G:iL}{B:aC.D->aM}(qm:∀O U S l H d y f g Q,cC K mg O U S l H->Rep K mg O H d y->(B d U).run S=.ok f g->(∀w F,cC K mg O w S F H->eU U w l F->(b w).run S=.ok f g->Q F H)->G y l H Q) :
  ∀D l H,kL K mg (λU=>do
   let ds <-it U
   jU B ds U) D l H->xx (xE K mg it) G (kL K mg b) D l H:=by
 rintro D l H ⟨O,U,S,V,W,st,h,q⟩;obtain⟨ds,T,ab,h⟩:=M.inv h;refine⟨O,U,S,ds,T,st,ab,λJ R ct P N aP z I=>?_⟩;refine⟨λk m A u=>m=P.length-k/\k<=P.length/\∃n U' E,cC K mg n U' E A u/\ej J n R u/\eU U U' l A/\(jU B (ds.drop k) U').run E=.ok V W,
  ⟨_,rfl,alX _,J,U,T,aP,ej.refl _ _,eU.refl _ _,h⟩,?_⟩
 rintro k m A u ⟨rfl,ar,n,U',E,Y,g',kp,h⟩
 cases e:ds.drop k with
 |nil=>
  have hl:P.length<=k:=by
   have:=congrArg amO e;rw[amb,amm]at this;rw[I.len];omega
  rw[e]at h;cases h;exact .inl ⟨(z n u g' k).2 hl,q n A u (N.b1.trans g') Y kp⟩
 |cons d ks=>
  obtain⟨y,o,b3,X⟩:=(bh.b1 g' I).get' e;have C:=(ak8.mp o).1;obtain⟨go,mK⟩:=(z n u g' k).1 C;rw[e]at h;obtain⟨Z,g,af,h⟩:=M.inv h;refine .inr ⟨go,λp c=>∃a j g,cC K mg a j g p c/\ej J a R c/\eU U j l p/\(jU B (ds.drop (k+1)) j).run g=.ok V W,?_,λx c kS=>?_⟩
  .rintro p c ⟨a,j,g,a1,a2,gy,h1⟩
   exact⟨_,by omega,rfl,C,a,j,g,a1,a2,gy,h1⟩
  .obtain⟨rfl,ex⟩:=mK x c kS
   rw[o]at ex;cases ex;refine qm _ _ _ _ _ _ _ _ _ _ Y b3 af λw F sq L aa=>?_
   refine⟨n,w,E,Z,g,sq,aa,?_⟩
   cases Z with
   |bA j=>exact λa p c s bM eA=>⟨a,j,g,bM,g'.trans s,kp.trans (L.trans eA),by rw[X];exact h⟩
   |cz j=>exact λa p c s bM eA=>⟨a,j,g,bM,g'.trans s,kp.trans (L.trans eA),by rw[X];exact h⟩
   |bk j=>cases h;exact λa p c s bM eA=>q a p c (N.b1.trans (g'.trans s)) bM (kp.trans (L.trans eA))
   |b9 r=>cases h;exact λa v c s c9 aE bV=>q a v c (N.b1.trans (g'.trans s)) c9 aE bV
def Vy:∀D a H,kL K mg (i5 i it b) D a H->xx (xE K mg it) (l0 i) (kL K mg b) D a H:=
 Vw λ_ _ _ _ _ _ _ _ _ _ st c h k=>k _ _ (st.val c) (eU.set λxs z=>by cases z) h
def aht:∀D k H,kL K mg (vz t b) D k H->Gz (pH K mg t) (kL K mg b) D k H:=by
 rintro D k H ⟨O,U,S,B,E,st,h,q⟩;refine⟨λm s w=>∃p U' u,cC K mg p U' u s w/\ej O p H w/\eU U U' k s/\(sC t b m U').run u=.ok B E,⟨pM,O,U,S,st,ej.refl _ _,eU.refl _ _,h⟩,?_⟩;rintro m s w ⟨p,U',u,Q,g',kp,h⟩
 cases m with
 |zero=>cases h
 |succ n=>
  obtain⟨G,y,L,h⟩:=M.inv h;refine⟨p,U',u,G,y,Q,L,λz J l A=>?_⟩
  cases G with
  |false=>
   rw[if_neg alg]at h;cases h;exact nA (q z s J (g'.trans l.b1) A kp)
  |true=>
   rw[if_pos rfl]at h;obtain⟨F,f,N,h⟩:=M.inv h;refine nB ⟨λg e=>∃c d f,cC K mg c d f g e/\ej O c H e/\eU U d k g/\(sC t b n d).run f=.ok B E,?_,z,U',y,F,f,A,N,?_⟩
   .rintro g e ⟨c,d,f,a⟩
    exact⟨n,aoc _,c,d,f,a⟩
   .cases F with
    |bA d=>exact λc g e j bM eA=>⟨c,d,f,bM,g'.trans (l.b1.trans j),kp.trans eA,h⟩
    |cz d=>exact λc g e j bM eA=>⟨c,d,f,bM,g'.trans (l.b1.trans j),kp.trans eA,h⟩
    |bk d=>cases h;exact λc g e j bM eA=>q c g e (g'.trans (l.b1.trans j)) bM (kp.trans eA)
    |b9 r=>cases h;exact λc v e j R aE P=>q c v e (g'.trans (l.b1.trans j)) R aE P
end
def gE(t:aG->M Bool)(el:bt)(U:aG):List D->M (List D)
 |[]=>pure []|d::ds=>do
  let b <-t (U.set 0 (.v d))
  if b=true then do
   let r <-el (U.set 0 (.v d))
   let x <-r.dat
   let xs <-gE t el U ds
   pure (x::xs)
  else gE t el U ds
def rn:Option Slot->Slot
 |some (.v d)=>.v d|some (.dO _ xs)=>.b5 xs|some (.b5 xs)=>.b5 xs|_=>.e
def h2(n:Nat)(cap:List Nat)(U:aG):aG:=alp n .e++cap.map λk=>rn U[k]?
@[simp] def fb(n:Nat)(cap:List Nat)(it:fB)(t:aG->M Bool)(el:bt)(U:aG):M R:=do
 let ds <-it U
 hL (ds.length<ald)
 let xs <-gE t el (h2 n cap U) ds
 pure (.fr xs)
def fL:aG->M Bool:=λ_=>pure true
abbrev Bn(X:aQ)(a:List Expr)(t:aG->M Bool):Prop:=sS X a (pH X.K X.mg t)
def Own.dK:Own->Own
 |.loc _=>.out|.dI=>.out|o=>o
def dK(O:a5):a5:=⟨λb=>(O b).dK,O.bK⟩
def vt(O:a5)(b:Addr):dK O b=(O b).dK:=rfl
def Jz{O:a5}(d:df O H):jk (dK O):=⟨d.rh.1,λa h=>by rw[vt,d.rh.2 a h];rfl⟩
def oj{O:a5}:dK O b=.free↔O b=.free:=by rw[vt];cases O b<;>simp[Own.dK]
def k6(O:a5)(b:Addr):dK O b=.free\/dK O b=.out:=by rw[vt];cases O b<;>simp[Own.dK]
def jO(O:a5):lK O (dK O):=⟨λ_ h=>oj.mpr h,rfl⟩
def hY.dK{O:a5}(h:hY K O H a ys):hY K (dK O) H a ys:=by
 rcases h with⟨h,f⟩|h
 .refine .inl ⟨h,?_⟩
  rcases f with f|f
  .exact .inl (oj.mpr f)
  .exact .inr (by rw[vt,f];rfl)
 .exact .inr h
def cC.dK{O:a5}{S:bG}(st:cC K mg O U S ak H)(n:Nat)(cap:List Nat):cC K mg (dK O) (h2 n cap U) S (gj n cap ak) H:=by
 refine⟨⟨λa g=>st.cm.has a λz=>g (oj.mpr z),st.cm.tabs,Jz st.cm⟩,?_,λi s e=>?_,st.gK.all (λ_ _ z=>Rep.dd (jO O) z) rfl λ_ _ _ l _=>l⟩
 .unfold h2 gj
  rw[alb,alb,al8,al8,ala,ala]
 .unfold h2 at e
  unfold gj
  by_cases hi:i<n
  .rw[alz (by simpa using hi),amA,if_pos hi]at e
   cases e;exact trivial
  .rw[alw (by simpa using hi),al8,alr]at e
   rw[alw (by simpa using hi),al8,alr]
   cases I:cap[i-n]? with
   |none=>rw[I]at e;cases e
   |some k=>
    rw[I]at e;have b:rn U[k]? = s:=alE e
    cases C:U[k]? with
    |none=>rw[C]at b;subst b;exact trivial|some f=>
     rw[C]at b;have l:=st.loc k f C
     cases f with
     |e=>subst b;exact trivial|v d=>subst b;obtain⟨v,q,r⟩:=l;exact⟨v,q,r.dd (jO O)⟩
     |b5 xs=>subst b;obtain⟨a,c,q,l,r⟩:=l;exact⟨a,c,q,l.dK,r.dd (jO O)⟩
     |dO p xs=>subst b;obtain⟨a,c,q,o,l,r⟩:=l;exact⟨a,c,q,.inl ⟨.inl l,.inr (by rw[vt,o];rfl)⟩,r.dd (jO O)⟩
def cC.u2{O:a5}{H:au}{S:bG}(st:cC K mg O U S o H)(a:O l=.dI)(hl:H l=some (.l zs)):cC K mg O U S o (upd H l (.l ws)):=by
 have ne:∀w:Own,w≠.dI->O l≠w:=λw hw z=>hw (z.symm.trans a)
 exact⟨st.cm.eF hl,st.len,λj t e=>(st.loc j t e).eF (ne _ (by intro z;cases z)) (ne _ (by intro z;cases z)) (ne _ (by intro z;cases z)) hl,st.gK.eF st.cm (ne _ (by intro z;cases z)) (ne _ (by intro z;cases z)) hl⟩
section
variable{K:aN}{mg:bp}{n:Nat}{cap:List Nat}{it:fB}{t:aG->M Bool}{el:bt}
def nD{α:Type}(put:α->Option aG)(t:aG->M Bool)(el:bt):List α->M (List D)
 |[]=>pure []|d::ds=>match put d with
  |none=>bad|some U=>do
   let b <-t U
   if b=true then do
    let r <-el U
    let x <-r.dat
    let xs <-nD put t el ds
    pure (x::xs)
   else nD put t el ds
omit [aA.a0]in
theorem NN(U:aG):∀ds:List D,gE t el U ds=nD (λd=>some (U.set 0 (.v d))) t el ds
 |[]=>rfl| d::ds=>by unfold gE nD;rw[NN U ds]
inductive CompI{α:Type}(K:aN)(mg:bp)(n:Nat)(cap:List Nat)(L:Nat->M (List aC.D))(aF:a5)(U:aG)(S1:bG)(ak:St)(H1:au)(A:Addr)(xs:List aC.D)(k:Nat)(zs:List V)(H':au):Prop
 |mk (ai:a5) (acc pS:List aC.D) (b_:cC K mg ai (h2 n cap U) S1 (gj n cap ak) H') (g':Go (dK aF) ai H1 H') (pE:ai A=.dI) (dn:H' A=some (.l zs)) (hz:zs.length<=k)
   (j9:bh K mg ai H' acc zs) (h:(L k).run S1=.ok pS S1) (ex:acc++pS=xs)
def JW{α:Type}{put:α->Option aG}{c:List α}{j:a5}{U:aG}{N P:bG}{s:St}{g:au}{S:il}{G:iL}{xs:List aC.D}{Q:cI}(w:cC K mg j U N s g)(hlen:c.length<ald)
  (stop:∀f,eD g f->S.stop c.length f)
  (step:∀k d u i f,c[k]? = some d->put d=some u->Go (dK j) i g f->cC K mg i (h2 n cap U) N (gj n cap s) f->S.go k f/\∀x O (R:St->au->Prop),S.pT k f x O->
   (∀V T,Go i i f T->cC K mg i u N V T->mT (gj n cap s) V->R V T)->G x (gj n cap s) O R)
  (bI:(nD put t el c).run N=.ok xs P) (q:∀i v f,Go j i g f->cC K mg i U P s f->ek K mg i f (.fr xs) v->iH g (.fr xs) v->Q v f) :
  ∀D,g D=none->CJ S (gj n cap s) G (pH K mg t) (gr K mg el) D g Q:=by
 intro D J;obtain rfl:=(nD put t el c).e3 _ _ _ bI;have hk:cC K mg (gL (dK j) D .dI) (h2 n cap U) P (gj n cap s) (upd g D (.l [])):=(w.dK n cap).new J;refine⟨λk m zs f=>m=c.length-k/\k<=c.length/\CompI (α:=α) K mg n cap (λk=>nD put t el (c.drop k)) j U P s g D xs k zs f,
  ⟨_,rfl,alX _,_,[],xs,hk,Go.new J,lC,dZ,alf _,rfl,bI,rfl⟩,?_⟩
 rintro k m zs f ⟨rfl,ar,i,E,pS,F,g',C,H,hz,Z,h,ex⟩
 cases e:c.drop k with
 |nil=>
  obtain rfl:k=c.length:=by
   have:=congrArg amO e;rw[amb,amm]at this;omega
  rw[e]at h;cases h;rw[aml]at ex;subst ex;refine .inl ⟨stop f g'.same,?_⟩
  let A:a5:=⟨λb=>match g b with|none=>i b|some _=>j b,j.bK⟩
  have Y:∀b,g b≠none->A b=j b:=λb p=>by
   show(match g b with|none=>i b|some _=>j b)=j b
   cases e:g b with
   |none=>exact absurd e p|some _=>rfl
  have X:∀b,g b=none->A b=i b:=λb p=>by
   show(match g b with|none=>i b|some _=>j b)=i b;rw[p]
  have dd:lK i A:=⟨λb p=>by
    by_cases y:g b=none
    .rw[X b y];exact p
    .rw[Y b y];exact oj.mp ((g'.own b y).symm.trans p),g'.bK.symm⟩
  have go:Go j A g f:=⟨g'.same,Y,rfl⟩;have cm:df A f:=⟨λb p=>by
   by_cases y:g b=none
   .rw[X b y]at p;exact F.cm.has b p
   .exact g'.same.some y,F.cm.tabs,w.cm.rh.1,λb m=>(Y b (w.cm.has b (by rw[w.cm.rh.2 b m];intro z;cases z))).trans (w.cm.rh.2 b m)⟩
  refine q A (.ref D) f go (w.go go cm) ⟨D,zs,rfl,H,(X D J).trans C,Z.dd dd⟩ λa cu=>?_
  cases cu;exact J
 |cons d ks=>
  have fw:k<c.length:=by
   have:=congrArg amO e;rw[amb,alP]at this;omega
  have eK:c[k]? = some d:=by
   have:=congrArg (·[0]?) e;simpa using this
  have bL:c.drop (k+1)=ks:=by
   simpa using congrArg (List.drop 1) e
  rw[e]at h;unfold nD at h
  cases cv:put d with
  |none=>rw[cv]at h;cases h
  |some u=>
  rw[cv]at h;obtain⟨b,aW,af,h⟩:=M.inv h;obtain rfl:=(t u).e3 _ _ _ af;obtain⟨go,mK⟩:=step k d u i f eK cv g' F;refine .inr ⟨go,λx O kS=>mK x O _ kS λV T rF sq yU=>⟨yU,i,u,aW,b,aW,sq,af,λbu kf g2 bM=>?_⟩⟩;have B:=rF.trans g2
  cases b with
  |false=>
   exact nA ⟨c.length-(k+1),by omega,rfl,fw,bu,E,pS,F.go B bM.cm,g'.trans B,(B.own D (by rw[H];intro z;cases z)).trans C,B.same.at' _ _ H,by omega,Z.go B,by rw[bL];exact h,ex⟩
  |true=>
   obtain⟨r,q9,cJ,h⟩:=M.inv h;obtain rfl:=(el u).e3 _ _ _ cJ;obtain⟨x,sW,ez,h⟩:=M.inv h;obtain rfl:=r.dat.e3 _ _ _ ez;obtain⟨Bc,RQ,fZ,h⟩:=M.inv h;cases h;refine nB ⟨bu,_,_,r,_,bM,cJ,λfT v kg g3 gq br nn=>?_⟩;obtain⟨a6,_⟩:=rp br nn ez;have L:=B.trans g3.cN;have W:=L.same.at' _ _ H;have I:=(L.own D (by rw[H];intro z;cases z)).trans C;have o:=g'.trans L;exact⟨W,by omega,c.length-(k+1),by omega,rfl,fw,cN kf fT,E++[x],Bc,(F.go L (gq.cN kf).cm).u2 I W,⟨xJ J o.same W _,o.own,o.bK⟩,I,dZ,
    by rw[alb,amj];omega,((Z.go L).append (.one a6)).eF (by rw[I];intro z;cases z) W,by rw[bL];exact fZ,by rw[am6];exact ex⟩
def CI(z:0<n):∀e H Q,gr K mg (fb n cap it t el) e H Q->uW n cap (xD K mg it) (l0 0) (pH K mg t) (gr K mg el) e H Q:=by
 rintro e H Q ⟨O,U,S,r,X,st,h,q⟩;obtain⟨ds,w,E,h⟩:=M.inv h;obtain⟨_,W,F,h⟩:=M.inv h;obtain⟨b,rfl⟩:=rk F;obtain⟨xs,Z,l,h⟩:=M.inv h;cases h;rw[NN]at l;refine⟨O,U,S,ds,w,st,E,λA V Y C p D c u=>JW D b (λa s=>(c a s _).2 (anQ u.len)) (λk d o i a L cv g' f=>?_) l λi v a g f J nn=>q i v a (p.trans g) f J (nn.back p.same)⟩;cases cv;obtain⟨y,m,G⟩:=(bh.go g' (u.dd (jO A))).get L;obtain⟨go,T⟩:=(c a g'.same k).1 (ak8.mp m).1;refine⟨go,λx B R P N=>?_⟩;obtain⟨rfl,ex⟩:=T x B P;rw[m]at ex;cases ex;exact N _ _ (Go.refl _ _) (f.val G) ((mT.refl _).set (by cases n with|zero=>exact absurd z (al5 _)|succ j=>rfl))
end
section
variable{X:aQ}{scope esc:Scope}{EN N:List Str}{n:Nat}{cap:List Nat}{elt iter:Expr}{ifs:List Expr}{pos d9:Pos}{x:Str}{it:fB}{t:aG->M Bool}{el:bt}
def HE{i:Nat}{y:Str}{py c:Pos}(S:kV esc scope EN N n cap)(l:X.N.Nodup)(j:X.N[i]? = some y)(d:X.env.scope.names.lookup y=some .local)(m:0<n)(hi:G' X (.Name x d9) iter it)(e:N[0]? = some x)(b:oh X scope N x)
  (f:∀C a s H,Bn (d6 X scope N C a s H) ifs t) (g:∀C a s H,hB (d6 X scope N C a s H) elt el)
  (he:X.env.scope=esc:=by rfl) (hN:X.N=EN:=by rfl) (h:X.calm=true:=by rfl) (aw:k4 X iter:=by intro _;rfl)
  (k:amI (.ListComp elt [⟨.Name x d9,iter,ifs,0⟩] scope pos) (some (.Name y py)) c.line X.env=pure true:=by rfl) :
  iJ X (.Assign [.Name y py] (.ListComp elt [⟨.Name x d9,iter,ifs,0⟩] scope pos) c) (uV (uW n cap (xD X.K X.mg it) (l0 0) (pH X.K X.mg t) (gr X.K X.mg el)) (l0 i)):=
 aeu S l j d hi (λC a s H=>sh S.fI e (b C a s H).1 (.inr (b C a s H).2)) f g he hN h aw k
end
abbrev bq:=List D->M R
def u_(K:aN)(mg:bp)(O:a5)(H:au):D->V->Prop
 |.l xs,v=>∃a b,v=.ref a/\dw K H a b/\bh K mg O H xs b|d,v=>Rep K mg O H d v
def lH(K:aN)(mg:bp)(O:a5)(H:au):List D->List V->Prop
 |[],ys=>ys=[]|x::xs,ys=>∃y r,ys=y::r/\u_ K mg O H x y/\lH K mg O H xs r
def b7:D->Slot
 |.l xs=>.b5 xs|d=>.v d
def HD{O:a5}{r:R}{v:V}(h:ek K mg O H r v):u_ K mg O H r.arg v:=by
 match r,h with
 |.v (.l xs),h=>obtain⟨a,b,q,l,r⟩:=h;exact⟨a,b,q,l.cT,r⟩
 |.fr xs,h=>obtain⟨a,b,q,l,_,r⟩:=h;exact⟨a,b,q,dw.of l,r⟩
 |.b5 xs,h=>obtain⟨a,b,q,l,r⟩:=h;exact⟨a,b,q,l.cT,r⟩
 |.mv xs,h=>obtain⟨a,b,q,l,r⟩:=h;exact⟨a,b,q,dw.of l,r⟩
 |.v .aH,h=>exact h|.v (.av _),h=>exact h|.v (.int _),h=>exact h|.v (.str _),h=>exact h|.v (.t _),h=>exact h|.v (.ref _),h=>exact h|.v (.fn _),h=>exact h|.v (.ty _),h=>exact h
theorem BU{O:a5}:∀{rs:List R}{vs:List V},i3 K mg O H rs vs->lH K mg O H (rs.map R.arg) vs
 |[],_,h=>h| _::_,_,h=>by obtain⟨y,r,q,a,b⟩:=h;exact⟨y,r,q,HD a,BU b⟩
theorem lH.len{O:a5}:∀{ds:List D}{vs:List V},lH K mg O H ds vs->vs.length=ds.length
 |[],_,h=>by cases h;rfl
 |_::_,_,h=>by obtain⟨x,r,rfl,_,b⟩:=h;rw[alP,alP,lH.len b]
theorem lH.get{O:a5}:∀{ds:List D}{xs:List V}{i:Nat}{d:D},lH K mg O H ds xs->ds[i]? = some d->∃x,xs[i]? = some x/\u_ K mg O H d x
 |[],_,_,_,_,e=>by simp at e| _::_,_,0,d,h,e=>by obtain⟨x,r,rfl,a,_⟩:=h;cases(show some _=some d from e);exact⟨x,rfl,a⟩
 |_::ds,_,i+1,d,h,e=>by
  obtain⟨x,r,rfl,_,b⟩:=h;obtain⟨y,aq,aE⟩:=lH.get b e;exact⟨y,by simpa using aq,aE⟩
def e4(K:aN)(mg:bp)(mf:bq):en:=λvs H Q _=>∃O ds r S,df O H/\fN K mg O H S/\lH K mg O H ds vs/\(mf ds).run S=.ok r S/\∀b v a,Go O b H a->df b a->ek K mg b a r v->iH H r v->Q v a
@[simp] def bl(mf:bq)(ms:cP)(U:aG):M R:=do
 let rs <-ms U
 mf (rs.map R.arg)
section
variable{mf:bq}{ms:cP}
def CB:∀b H Q,gr K mg (bl mf ms) b H Q->AJ (e4 K mg mf) (n1 K mg ms) b H Q:=by
 rintro b H Q ⟨O,U,S,r,k,st,h,q⟩;obtain⟨rs,f,j,h⟩:=M.inv h;refine⟨O,U,S,rs,f,st,j,λi vs s c a n nn=>?_⟩;obtain rfl:=(mf _).e3 _ _ _ h;exact⟨i,_,r,k,a.cm,a.gK,BU n,h,λl v e g d m p=>q l v e (c.trans g) (a.go g d) m (p.back c.same)⟩
end
def fnOf(n N:Nat)(b:aM):bq:=λds=>if ds.length=n then do
  let a <-b (ds.map b7++alp (N-n) .e)
  match a with
  |.b9 (.v d)=>pure (.v d)|.b9 (.fr xs)=>pure (.fr xs)|.bA _=>pure (.v .aH)|_=>bad
 else bad
def aft{O:a5}{v:V}(h:u_ K mg O H d v):jl K mg (dK O) H w (b7 d) (some v):=by
 have val:Rep K mg O H d v->jl K mg (dK O) H w (.v d) (some v):=λh=>⟨v,rfl,h.dd (jO O)⟩
 match d,h,val with
 |.l xs,h,_=>
  obtain⟨a,b,rfl,l,r⟩:=h;exact⟨a,b,rfl,l.imp (λz=>⟨z,k6 O a⟩) id,r.dd (jO O)⟩
 |.aH,h,val=>exact val h|.av _,h,val=>exact val h|.int _,h,val=>exact val h|.str _,h,val=>exact val h|.t _,h,val=>exact val h|.ref _,h,val=>exact val h|.fn _,h,val=>exact val h|.ty _,h,val=>exact val h
omit [aA.a0]in
theorem yX{n N:Nat}{ds:List D}{S a:bG}{r:R}(h:(fnOf n N b ds).run S=.ok r a):ds.length=n:=by
 unfold fnOf at h
 by_cases c:ds.length=n
 .exact c
 .rw[if_neg c]at h;cases h
def afE{f:D->Slot}{ps N:List Str}{O:a5}{S:bG}{ds:List D}{vs:List V}(b:df O H)(dQ:fN K mg O H S)(c:vs.length=ds.length)(hl:ds.length=ps.length)(aw:∀(i:Nat) d,ds[i]? = some d->∃v,vs[i]? = some v/\∀w,jl K mg (dK O) H w (f d) (some v)):cC K mg (dK O) (ds.map f++alp (N.length-ps.length) .e) S (aA.start N vs) H:=by
 refine⟨⟨λa g=>b.has a λz=>g (oj.mpr z),b.tabs,Jz b⟩,?_,λi s e=>?_,dQ.all (λ_ _ z=>Rep.dd (jO O) z) rfl λ_ _ _ l _=>l⟩
 .unfold aA.start
  rw[alb,alb,ala,ala,al8,al8,c,hl]
 .by_cases hi:i<ds.length
  .rw[alz (by rw[ala];exact hi),alr]at e
   cases o:ds[i]? with
   |none=>rw[o]at e;cases e
   |some d=>
    rw[o]at e;cases e;obtain⟨v,j,h⟩:=aw i d o;unfold aA.start;rw[alz (by rw[ala,c];exact hi),alr,j];exact h _
  .rw[alw (by rw[ala];omega),amA]at e
   split at e
   .cases e;exact trivial
   .cases e
def Gq{ps N:List Str}{O:a5}{S:bG}{ds:List D}(b:df O H)(dQ:fN K mg O H S)(a:lH K mg O H ds vs)(hl:ds.length=ps.length):cC K mg (dK O) (ds.map b7++alp (N.length-ps.length) .e) S (aA.start N vs) H:=
 afE b dQ a.len hl λ_ _ e=>(a.get e).imp λ_ h=>⟨h.1,λ_=>aft h.2⟩
def Bp:fR->R->Prop
 |.bA _,r=>r=.v .aH|.b9 (.v d),r=>r=.v d|.b9 (.fr xs),r=>r=.fr xs|_,_=>False
def TP{E:aM}{Q:cI}{O:a5}{S D:bG}{r:R}(x:df O H)(F:cC K mg (dK O) U S I H)(G:(E U).run S=.ok C D)(h:Bp C r)(q:∀f v c,Go O f H c->df f c->ek K mg f c r v->iH H r v->Q v c):kL K mg E { bA:=fun _ c=>Q .aH c,b9:=Q } I H:=by
 have B:∀b,H b≠none->dK O b=.free\/dK O b=.out:=λb _=>k6 O b
 have back:∀{f:a5}{c:au},ej (dK O) f H c->df f c->∃k:a5,Go O k H c/\df k c/\lK f k/\∀b,(f b=.dI\/∃i,f b=.loc i)->H b=none/\k b=.dI:=λ{f c} g d=>by
  refine⟨⟨λb=>match H b with|some _=>O b|none=>(match f b with|.loc _=>.dI|o=>o),O.bK⟩,⟨⟨λb o e n=>g.cells b o e ((B b (by rw[e];intro z;cases z)).elim .inl λz=>.inr (.inl z)) n,g.cL,g.b4⟩,λb j=>?_,rfl⟩,⟨λb j=>?_,d.tabs,x.rh.1,λb m=>?_⟩,⟨λb j=>?_,g.bK.symm⟩,λb j=>?_⟩
  .dsimp only
   cases e:H b with
   |none=>exact absurd e j|some o=>rfl
  .dsimp only at j
   cases e:H b with
   |some o=>exact g.has b (by rw[e];intro z;cases z)|none=>
    rw[e]at j;refine d.has b λz=>j ?_
    dsimp only;rw[z]
  .dsimp only
   cases e:H b with
   |some o=>exact x.rh.2 b m| none=>exact absurd e (x.has b (by rw[x.rh.2 b m];intro z;cases z))
  .dsimp only
   cases e:H b with
   |some o=>
    dsimp only;have:=(g.own b (by rw[e];intro z;cases z) (k6 O b)).symm.trans j;exact oj.mp this
   |none=>
    dsimp only;rw[j]
  .have p:H b=none:=by
    cases e:H b with
    |none=>rfl|some o=>
     exfalso;have bB:=g.own b (by rw[e];intro z;cases z) (k6 O b);rcases k6 O b with z|z<;>rw[z]at bB<;>rcases j with w|⟨i,w⟩<;>rw[bB]at w<;>cases w
   refine⟨p,?_⟩;dsimp only;rw[p];rcases j with w|⟨i,w⟩<;>rw[w]
 refine⟨dK O,_,S,C,D,F,G,?_⟩
 cases C with
 |bA U'=>
  cases h;intro f X c g N _;obtain⟨k,y,u,A,_⟩:=back g N.cm;exact q k .aH c y u rfl trivial
 |bk U'=>cases h
 |cz U'=>cases h
 |b9 L=>
  intro f v c g d J s;obtain⟨k,y,u,A,T⟩:=back g d
  cases L with
  |v dG=>cases h;exact q k v c y u (Rep.dd A s) trivial
  |fr xs=>
   cases h;obtain⟨a,W,rfl,l,t,V⟩:=s;obtain⟨p,M⟩:=T a t;exact q k _ c y u ⟨a,W,rfl,l,M,V.dd A⟩ λb P=>by cases P;exact p
  |b5 xs=>exact alV s|mv xs=>exact alV s
def JB{ps N:List Str}(g:e4 K mg (fnOf ps.length N.length o) vs H Q E):kL K mg o { bA:=λ_ b=>Q .aH b,b9:=Q } (aA.start N vs) H:=by
 obtain⟨O,ds,r,S,a,dQ,f,h,q⟩:=g;have hl:=yX h;unfold fnOf at h;rw[if_pos hl]at h;obtain⟨c,i,d,h⟩:=M.inv h;exact TP a (Gq a dQ f hl) d (by cases c with|b9 e=>cases e<;>cases h<;>exact rfl|_=>cases h<;>exact rfl) q
def Mm{P:aly}{w:World}{K:aN}{mg:bp}{base:Heap}{x qual:Str}{st:Stmt}{ps N:List Str}{k:Nat}{b:aM}{f:Addr}{c:ame}{n nl:Nat}(F:kX K x qual st f c)(d:g8 N ps (dm st))(e:ps.length=n)(hl:N.length=nl)
  (i:∀(a:Value)(A:alI)(outer:List Env)(s:alc)(H:au)(E:gx),cB k (A.deeper (amc qual (dm st) s.heap.objs.size f a))->
   vc (ha eC P w K mg base N qual (dm st) f a A outer s H E).gI (fO st) b):e6 P w K mg base eC (k+1) f c ps (e4 K mg (fnOf n nl b)):=by
 subst e hl;exact F.ok d (λvs H Q E ⟨O,ds,r,S,m,dQ,j,h,q⟩=>j.len.trans (yX h)) λa A outer s H vs Q E g l=>⟨_,i a A outer s H E g,JB l⟩
def vZ{P:aly}{w:World}{K:aN}{mg:bp}{base:Heap}{x:Str}{st:Stmt}{ps N:List Str}{k:Nat}{c:aM}{n nl:Nat}(g7:g7 K mg x st ps)(d:g8 N ps (dm st))(e:ps.length=n)(hl:N.length=nl)
  (g:∀(f:Addr)(a:Value)(A:alI)(outer:List Env)(s:alc)(H:au)(E:gx),cB k (A.deeper (amc x (dm st) s.heap.objs.size f a))->
   vc (ha eC P w K mg base N x (dm st) f a A outer s H E).gI (fO st) c):eH P w K mg base x ps (k+1) (e4 K mg (fnOf n nl c)):=by
 obtain⟨f,h,F,b,m⟩:=g7.ex;exact⟨f,h,Mm F d e hl (λa=>g f a),b,F.kp,m⟩
omit [aA.a0]in
theorem LO{K:aN}{h:Heap}{mg:bp}{x:Str}{st:Stmt}{f:Addr}{ps:List Str}{j b:Option Addr}{bc:Array (Option Value)}{c1 dy m e cd cz:Value}(X:K.In h)(G:h.Ns alU mg)
  (a:an5 K alU x=some (some (.ref f))) (l:K.lookup f=some ⟨c1,j,.func (amW x x (iO st) (fO st) (dm st) .none dy m e b cd cz),bc⟩) (c:aoz K cd x=true) (k:amX K (.ref f)=true)
  (g:∀(dy d e:Value)(b:Option Addr)(i cz:Value)(us:List Value),us.length=ps.length->anf (amW x x (iO st) (fO st) (dm st) .none dy d e b i cz) ⟨us,[]⟩=pure (ps.zip us)):g7 K mg x st ps:=
 ⟨f,_,yZ (st:=st) l c k,(yZ (st:=st) l c k).binds g,aoA X G a⟩
abbrev xv(K:aN):en:=λvs H Q _=>∃(a:Addr)(ns:List Int),vs=[.ref a]/\dw K H a (ns.map V.int)/\ns.length<=63/\TabsOk H/\∀b,Q (.av true) b
abbrev q1:Nat:=10715086071862673209484250490600018105614048117055336074437503883703510511249361224931983788156958581275946729175531468251871452856923140435984577574698574803934567774824230985421074605062371141877954182153046474983581941267398767559165543946077062914571196477686542167660429831652624386837205668069376
omit [aA.a0]in
theorem Jt:q1=2 ^ 1000:=by decide +kernel
omit [aA.a0]in
theorem OQ{i:Int}(h:i.natAbs<q1):amg i<=1000:=by
 unfold amg;split
 .exact alX _
 .rename_i hz
  have:=(Nat.log2_lt (by simpa using hz)).mpr (Jt▸h);omega
def iC(i j:Int):Prop:=(-(2 ^ 64)<i/\i<2 ^ 64)\/(-(2 ^ 64)<j/\j<2 ^ 64)\/(i.natAbs<q1/\j.natAbs<q1)
omit [aA.a0]in
theorem iC.ok{i j:Int}(h:iC i j):IntMulOk i j:=by
 rcases h with h|h|h
 .exact(show x1 i j from .inl h).ok
 .exact(show x1 i j from .inr h).ok
 .have b:=OQ h.1
  have c:=OQ h.2;have a:Builtin.Int.intTooBig (amg i+amg j)=false:=by
   refine decide_eq_false ?_;have:(2000:Int)<=((bitsLine:Nat):Int):=by decide
   omega
  unfold IntMulOk;rw[a];simp
instance (i j:Int):Decidable (iC i j):=by unfold iC;exact inferInstance
def ade:d0 X (amQ .Mult) (j8 iC λi j=>.int (i*j)):=uA λ_ _ _ _ _ _ _ a q=>PyProof.Rows.mul_int q a.ok
abbrev nT:=pf iC (· * ·)
def Sp{X:aQ}:ei X.K X.mg (j8 iC λi j=>.int (i*j)) nT:=s8 λ_ _ h=>h
def pW(_ j:Int):Prop:=0<j/\j.natAbs<q1
instance (i j:Int):Decidable (pW i j):=by unfold pW;exact inferInstance
def ac7:d0 X (amQ .FloorDiv) (j8 pW λi j=>.int (i / j)):=uA λi j _ _ _ _ _ a q=>by
 have b:=a.1;refine PyProof.Rows.floordiv_int (by omega) (by rw[aoN i (by omega)];exact q) (.inl (PyProof.noPylong_of_log2 ?_));have:=(Nat.log2_lt (by omega)).mpr (Jt▸a.2);omega
abbrev eY:=pf pW (· / ·)
def Sm{X:aQ}:ei X.K X.mg (j8 pW λi j=>.int (i / j)) eY:=s8 λ_ _ h=>h
def oBits:R->M R
 |.v (.int i)=>pure (.v (.int (amg i:Nat)))|_=>bad
structure G9(mg:bp):Prop where
 len:mg "len"=none
 range:mg "range"=none
 isinstance:mg "isinstance"=none
 max:mg "max"=none
 min:mg "min"=none
 any:mg "any"=none
 all:mg "all"=none
 Zv:mg "int"=none
 TR:mg "bool"=none
 EG:mg "list"=none
 tuple':mg "tuple"=none
 afI:mg "str"=none
 abs:mg "abs"=none
 sorted:mg "sorted"=none
 sum:mg "sum"=none
 zip:mg "zip"=none
 enumerate:mg "enumerate"=none
 reversed:mg "reversed"=none
 akT:mg "set"=none
omit [aA.a0]in
theorem TZ:al2 "abs"=some (.builtin "abs"):=by decide +kernel
end aC
namespace aC
open PySem PySem.Spec aA
@[simp] theorem aiY{α a:Type}(f:α->M a):(bad >>= f)=bad:=rfl
@[simp] theorem ai2{p:Prop}[Decidable p]:hL p=if p then pure ()else bad:=rfl
@[simp] theorem UX:a4 d U=pure (.v d):=rfl
@[simp] theorem akd:R.qM (.v (.av b))=pure b:=rfl
@[simp] theorem aiK{g:Int->Int->Int}{i j:Int}:sa g (.v (.int i)) (.v (.int j))=pure (.v (.int (g i j))):=rfl
@[simp] theorem aiJ{C:Int->Int->Prop}[∀i j,Decidable (C i j)]{g:Int->Int->Int}{i j:Int}:pf C g (.v (.int i)) (.v (.int j))=if C i j then pure (.v (.int (g i j)))else bad:=rfl
@[simp] theorem aiI{g:Int->Int->Bool}{i j:Int}:r' g (.v (.int i)) (.v (.int j))=pure (.v (.av (g i j))):=rfl
@[simp] theorem ajL{i:Int}:ux (.v (.int i))=pure (.v (.int (-i))):=rfl
@[simp] theorem aiZ{i:Int}:oBits (.v (.int i))=pure (.v (.int (amg i:Nat))):=rfl
@[simp] theorem ajN:b' U=pure []:=rfl
@[simp] theorem ajb:R.dat (.v d)=pure d:=rfl
@[simp] theorem ai8:R.dat (.fr xs)=pure (.l xs):=rfl
@[simp] theorem aja:kr []=pure []:=rfl
@[simp] theorem ai9{r:R}:kr (r::rs)=(do
  let d <-r.dat
  let ds <-kr rs
  pure (d::ds)):=rfl
@[simp] theorem ajJ:R.fz (.v (.l xs))=some xs:=rfl
@[simp] theorem ajG:R.fz (.fr xs)=some xs:=rfl
@[simp] theorem ajK:R.fz (.b5 xs)=some xs:=rfl
@[simp] theorem ajH:R.fz (.mv xs)=some xs:=rfl
@[simp] theorem ajX:R.seq (.v (.l xs))=some xs:=rfl
@[simp] theorem ajW:R.seq (.v (.t xs))=some xs:=rfl
@[simp] theorem ajU:R.seq (.fr xs)=some xs:=rfl
@[simp] theorem ajY:R.seq (.b5 xs)=some xs:=rfl
@[simp] theorem ajV:R.seq (.mv xs)=some xs:=rfl
@[simp] theorem ajT:R.own (.v (.l xs))=some xs:=rfl
@[simp] theorem ajR:R.own (.fr xs)=some xs:=rfl
@[simp] theorem ajS:R.own (.mv xs)=some xs:=rfl
@[simp] theorem aiR:R.arg (.v d)=d:=rfl
@[simp] theorem aiP:R.arg (.fr xs)=.l xs:=rfl
@[simp] theorem aiS:R.arg (.b5 xs)=.l xs:=rfl
@[simp] theorem aiQ:R.arg (.mv xs)=.l xs:=rfl
@[simp] theorem ajE{x:R}:fF [x]=match x.seq with
  |some xs=>pure (.v (.int (xs.length:Nat)))|none=>bad:=rfl
@[simp] theorem ajA:R.kind (.v .aH)=some "NoneType":=rfl
@[simp] theorem ajv:R.kind (.v (.av b))=some "bool":=rfl
@[simp] theorem ajx{i:Int}:R.kind (.v (.int i))=some "int":=rfl
@[simp] theorem ajB:R.kind (.v (.str x))=some "str":=rfl
@[simp] theorem ajC:R.kind (.v (.t xs))=some "tuple":=rfl
@[simp] theorem ajy:R.kind (.v (.l xs))=some "list":=rfl
@[simp] theorem ajw:R.kind (.fr xs)=some "list":=rfl
@[simp] theorem ajD:R.kind (.b5 xs)=some "list":=rfl
@[simp] theorem ajz:R.kind (.mv xs)=some "list":=rfl
@[simp] theorem ajg{x:R}:hb [x,.v (.ty n)]=match x.kind with
  |some t=>if n∈["int","bool","tuple","list","str"]then pure (.v (.av (wh t n)))else bad|none=>bad:=rfl
@[simp] theorem ajh{t n:String}:wh t n=(t==n||(t == "bool"&&n == "int")):=rfl
@[simp] theorem aiH{g:Int->Int->Int}{i j:Int}:vK g [.v (.int i),.v (.int j)]=pure (.v (.int (g i j))):=rfl
@[simp] theorem aiL{i:Int}:vL [.v (.int i)]=pure (.v (.int (if i<0 then -i else i))):=rfl
@[simp] theorem aiN{x:R}:vM [x]=match x.fz.bind m_ with
  |some bs=>pure (.v (.av (bs.any id)))|none=>bad:=rfl
@[simp] theorem aiM{x:R}:oB [x]=match x.fz.bind m_ with
  |some bs=>pure (.v (.av (bs.all id)))|none=>bad:=rfl
theorem yx{α:Type}(p:α->Bool):∀xs:List α,m_ (xs.map λx=>D.av (p x))=some (xs.map p)
 |[]=>rfl| x::xs=>by rw[alv,alv,m_,yx p xs];rfl
@[simp] theorem ajI{x:R}:vN [x]=match x.seq with
  |some xs=>pure (.fr xs)|none=>bad:=rfl
@[simp] theorem ake{x:R}:qg [x]=match x.seq with
  |some xs=>pure (.v (.t xs))|none=>bad:=rfl
def BW{α:Type}{xs:List α}{k:Nat}(h:k<xs.length):d4 xs (k:Int)=some xs[k]:=HI (by simp[h])
@[simp] theorem ajt{i:Int}:c0 (.v (.t xs)) (.v (.int i))=match d4 xs i with
   |some d=>pure (.v d)|none=>bad:=rfl
@[simp] theorem ajr{i:Int}:c0 (.v (.l xs)) (.v (.int i))=match d4 xs i with
   |some d=>pure (.v d)|none=>bad:=rfl
@[simp] theorem ajq{i:Int}:c0 (.fr xs) (.v (.int i))=match d4 xs i with
   |some d=>pure (.v d)|none=>bad:=rfl
@[simp] theorem aju{i:Int}:c0 (.b5 xs) (.v (.int i))=match d4 xs i with
   |some d=>pure (.v d)|none=>bad:=rfl
@[simp] theorem ajs{i:Int}:c0 (.mv xs) (.v (.int i))=match d4 xs i with
   |some d=>pure (.v d)|none=>bad:=rfl
def hI{α:Type}{xs:List α}(k:Nat){v:α}(h:xs[k]? = some v):d4 xs (k:Int)=some v:=HI h
@[simp] theorem aiT{α:Type}{x:α}{xs:List α}:d4 (x::xs) 0=some x:=hI 0 rfl
@[simp] theorem aiU{α:Type}{x y:α}{xs:List α}:d4 (x::y::xs) 1=some y:=hI 1 rfl
@[simp] theorem aiV{α:Type}{x y z:α}{xs:List α}:d4 (x::y::z::xs) 2=some z:=hI 2 rfl
@[simp] theorem aiW{α:Type}{x y z w:α}{xs:List α}:d4 (x::y::z::w::xs) 3=some w:=hI 3 rfl
@[simp] theorem aiX{α:Type}{x y z w v:α}{xs:List α}:d4 (x::y::z::w::v::xs) 4=some v:=hI 4 rfl
@[simp] theorem aiO{r:R}:kM xs [r]=(do
  let d <-r.dat
  hL (xs.length<ald)
  pure (.v .aH,xs++[d])):=rfl
@[simp] theorem ajd{r:R}:xH xs [r]=match r.own with
  |some a=>do
   hL (xs.length+a.length<=ald)
   pure (.v .aH,xs++a)
  |none=>bad:=rfl
@[simp] theorem ajO:jQ U=pure none:=rfl
@[simp] theorem aj1{l h:Option Int}:nU (.fr xs) l h=pure (.fr (cutD xs l h)):=rfl
@[simp] theorem akc{l h:Option Int}:nU (.b5 xs) l h=pure (.fr (cutD xs l h)):=rfl
@[simp] theorem aj3{l h:Option Int}:nU (.mv xs) l h=pure (.fr (cutD xs l h)):=rfl
@[simp] theorem aj2{l h:Option Int}:nU (.v (.l xs)) l h=pure (.fr (cutD xs l h)):=rfl
@[simp] theorem L1{xs:List D}{l h:Option Int}:nU (.v (.t xs)) l h=if c7.cw xs.length 0 l=0/\c7.cw xs.length xs.length h=xs.length then bad else pure (.v (.t (cutD xs l h))):=rfl
@[simp] theorem ai4{cap:List Nat}:h2 n cap U=alp n .e++cap.map λk=>rn U[k]?:=rfl
@[simp] theorem ai6:rn (some (.v d))=.v d:=rfl
@[simp] theorem ai5:rn (some (.dO p xs))=.b5 xs:=rfl
@[simp] theorem ai7:rn (some (.b5 xs))=.b5 xs:=rfl
@[simp] theorem akg:fL U=pure true:=rfl
@[simp] theorem ajf{x:R}:ja x (.v .aH)=pure (.v (.av x.jY)):=rfl
@[simp] theorem ajP{x:R}:j4 x (.v .aH)=pure (.v (.av (!x.jY))):=rfl
@[simp] theorem aji:R.jY (.v .aH)=true:=rfl
@[simp] theorem ajl{i:Int}:R.jY (.v (.int i))=false:=rfl
@[simp] theorem ajo:R.jY (.v (.t xs))=false:=rfl
@[simp] theorem ajk:R.jY (.fr xs)=false:=rfl
@[simp] theorem ajn:R.jY (.v (.str x))=false:=rfl
@[simp] theorem ajc{i j:Int}:oEq (.v (.int i)) (.v (.int j))=pure (.v (.av (i==j))):=rfl
@[simp] theorem ajM{i j:Int}:d7 (.v (.int i)) (.v (.int j))=pure (.v (.av (!(i==j)))):=rfl
def rv{x y:R}(b:x.arg.b4 64=true)(a:y.arg.b4 64=true):oEq x y=pure (.v (.av (eB x.arg y.arg))):=if_pos ⟨b,a⟩
def th{x y:R}(b:x.arg.b4 64=true)(a:y.arg.b4 64=true):d7 x y=pure (.v (.av (!eB x.arg y.arg))):=if_pos ⟨b,a⟩
@[simp] theorem aj7:b7 (.l xs)=.b5 xs:=rfl
@[simp] theorem aj6{i:Int}:b7 (.int i)=.v (.int i):=rfl
@[simp] theorem aka:b7 (.t xs)=.v (.t xs):=rfl
@[simp] theorem aj9:b7 (.str x)=.v (.str x):=rfl
@[simp] theorem aj8:b7 .aH=.v .aH:=rfl
@[simp] theorem aj4:b7 (.av b)=.v (.av b):=rfl
@[simp] theorem yN{n N:Nat}{ds:List D}:fnOf n N b ds=if ds.length=n then(do
  let a <-b (ds.map b7++alp (N-n) .e)
  match a with
  |.b9 (.v d)=>pure (.v d)|.b9 (.fr xs)=>pure (.fr xs)|.bA _=>pure (.v .aH)| _=>bad)else bad:=rfl
theorem Md{b:D->aM}(I:Nat->aG->Prop):∀(ds:List D)(k:Nat)(U:aG),I k U->(∀i d U,ds[i]? = some d->I (k+i) U->∃U',(b d U=pure (.bA U')\/b d U=pure (.cz U'))/\I (k+i+1) U')->
  ∃U',jU b ds U=pure (.bA U')/\I (k+ds.length) U'
 |[],k,U,h0,_=>⟨U,rfl,h0⟩
 |d::ds,k,U,h0,step=>by
  obtain⟨g,e,a⟩:=step 0 d U rfl h0;obtain⟨f,aE,c⟩:=Md I ds (k+1) g a λi d' U' hd h=>by
   have:=step (i+1) d' U' hd (by rw[show k+(i+1)=k+1+i by omega];exact h);rw[show k+(i+1)+1=k+1+i+1 by omega]at this;exact this
  refine⟨f,?_,by rw[alP,show k+(ds.length+1)=k+1+ds.length by omega];exact c⟩;show(b d U >>= _)=_;rcases e with e|e<;>rw[e]<;>exact aE
def vO{b:D->aM}{ds:List D}(I:Nat->aG->Prop)(c:I 0 U)(step:∀i d U,ds[i]? = some d->I i U->∃U',(b d U=pure (.bA U')\/b d U=pure (.cz U'))/\I (i+1) U') :
  ∃U',jU b ds U=pure (.bA U')/\I ds.length U':=by
 obtain⟨U',e,h⟩:=Md I ds 0 U c λi d U hd a=>by
  rw[anS]at a ⊢;exact step i d U hd a
 exact⟨U',e,by rw[anS]at h;exact h⟩
def xl{lo:Int}(h:(dP lo n)[i]? = some d):i<n/\d=.int (lo+(i:Nat)):=by
 have hi:i<n:=by
  have:=(ak8.mp h).1
  rwa[nY]at this
 unfold dP at h;rw[alr,amv hi]at h;cases h;exact⟨hi,rfl⟩
def Se{ns:List Int}(h:k<ns.length):d4 (ns.map D.int) (k:Int)=some (.int (ns.getD k 0)):=by
 refine hI k ?_;rw[alr,aln h];simp[al1,h]
def mod_lt{a b:Int}(h:0<b):0<=a % b/\a % b<b:=⟨Int.emod_nonneg _ (by omega),Int.emod_lt_of_pos _ h⟩
def aaM{i:Int}(a:-(10 ^ 200)<i)(b:i<10 ^ 200):i.natAbs<q1:=by
 unfold q1;omega
def E_{i j:Int}(a:-(2 ^ 64)<i)(b:i<2 ^ 64):iC i j:=.inl ⟨a,b⟩
def CU{i j:Int}(a:0<j)(b:j<10 ^ 200):pW i j:=⟨a,aaM (by omega) b⟩
end aC
namespace aC
open PySem PySem.Spec aA
variable[aA.a0]
def uQ:List Nat->List D->aG->aG
 |i::is,d::ds,U=>uQ is ds (U.set i (.v d))|_,_,U=>U
def qj:List Nat->p5
 |[]=>Mu|i::is=>Ms (l0 i) (qj is)
@[simp] def s_(is:List Nat)(m:bt)(U:aG):M fR:=do
 let r <-m U
 match r with
 |.v (.t ds)=>if ds.length=is.length then pure (.bA (uQ is ds U))else bad|_=>bad
theorem QU{O:a5}{S:bG}:∀{is:List Nat}{ds:List D}{xs:List V}{U:aG}{a:St}{Q:St->au->Prop},cC K mg O U S a H->bh K mg O H ds xs->ds.length=is.length->
  (∀b,cC K mg O (uQ is ds U) S b H->eU U (uQ is ds U) a b->Q b H)->qj is xs a H Q
 |[],[],xs,U,a,Q,st,ra,hl,q=>⟨ra,q a st (eU.refl _ _)⟩
 |[],_::_,xs,U,a,Q,st,ra,hl,q=>by cases hl
 |_::_,[],xs,U,a,Q,st,ra,hl,q=>by cases hl
 |i::is,d::ds,xs,U,a,Q,st,ra,hl,q=>by
  obtain⟨y,r,e,c,g⟩:=ra;refine⟨y,r,e,?_⟩;exact QU (st.val c) g (by simpa using hl) λb f k=>q b f (eU.trans (eU.set λxs z=>by cases z) k)
section
variable{X:aQ}{is:List Nat}{az:List Expr}
def FO{i:Nat}{x:Str}{p:Pos}(hN:X.N.Nodup)(hi:X.N[i]? = some x)(a:Loc X.env.scope x)(h:p3 X az (qj is))(aw:(al4 (.Name x p::az) X.env).map (·.2)=anm (.Name x p) X.env::(al4 az X.env).map (·.2):=by rfl)
  (b:X.fn x=true\/X.env.scope.names.lookup x=some .local:=by first|exact .inl rfl|exact .inr rfl|assumption):p3 X (.Name x p::az) (qj (i::is)):=FN (sh hN hi a b) h aw
def Pz:p3 X [] (qj []):=PA
end
omit [aA.a0]in
@[simp] theorem ajZ{U:aG}:uQ (i::is) (d::ds) U=uQ is ds (U.set i (.v d)):=rfl
def nums:List D->Option (List Int)
 |[]=>some []|.int b::r=>(nums r).map (b::·)|_=>none
section
variable{K:aN}{mg:bp}
theorem Ad{O:a5}:∀{ds:List D}{a:List V}{bs:List Int},bh K mg O H ds a->nums ds=some bs->a=bs.map V.int
 |[],a,bs,h,e=>by cases e;exact h
 |d::ds,a,bs,h,e=>by
  cases d with
  |int b=>
   obtain⟨cs,aq,rfl⟩:=an4.mp e;obtain⟨y,r,rfl,c,f⟩:=h;rw[Ad f aq,show y=.int b from c];rfl
  |_=>exact absurd (show(none:Option (List Int))=some bs from e) (by intro z;cases z)
end
end aC
namespace aC
open PySem PySem.Spec aA
section
variable[aA.a0](X:aQ)
structure bb(e:Expr)(m:bt):Prop where
 un:hB X e m
structure fo(e:Expr)(m:aG->M Bool):Prop where
 un:Hb X e m
structure k3(e:Expr)(m:aG->M Bool):Prop where
 un:x3 X e m
structure gw(e:List Expr)(m:cP):Prop where
 un:G_ X e m
structure p6(e:Option Expr)(m:kZ):Prop where
 un:Rw X e m
structure fE(e:Stmt)(m:aM):Prop where
 un:Rx X e m
structure hH(e:List Stmt)(m:aM):Prop where
 un:vc X e m
structure rd(cg e:Expr)(m:fB):Prop where
 un:G' X cg e m
structure vo(cg e:Expr)(m:fB):Prop where
 un:Rv X cg e m
structure rb(e:List Expr)(m:aG->M Bool):Prop where
 un:Bn X e m
end
section
variable[aA.a0]
variable{X:aQ}{a e:Expr}{pos:Pos}
theorem dR(i:Nat)(hN:X.N[i]? = some x:=by rfl)(g:q' X.env.scope x:=by first|exact amK rfl|exact al3 (.inl rfl)|exact al3 (al3 rfl))(hd:fX x:=by decide)(j:(x==("__classdict__":Str))=false:=by decide):bb X (.Name x pos) (J i):=⟨eb (An hN g hd j) λb H Q f=>by
 obtain⟨O,U,S,r,k,st,h,q⟩:=f;unfold J at h
 cases e:U[i]? with
 |none=>rw[e]at h;cases h
 |some s=>
  rw[e]at h;have l:=st.loc i s e;have get:∀{v:V},b[i]?.join=some v->b[i]? = some (some v):=λ{v} z=>by
   cases w:b[i]? with
   |none=>rw[w]at z;cases z
   |some y=>rw[w]at z;exact congrArg some z
  cases s with
  |v d=>
   obtain⟨v,aq,aE⟩:=l;cases h;exact⟨v,get aq,q O v H (Go.refl _ _) st aE trivial⟩
  |dO p xs=>
   obtain⟨a,c,aq,aE,cX,eO⟩:=l;cases h;exact⟨_,get aq,q O _ H (Go.refl _ _) st ⟨a,c,rfl,cX,eO⟩ trivial⟩
  |b5 xs=>
   obtain⟨a,c,aq,aE,eO⟩:=l;cases h;exact⟨_,get aq,q O _ H (Go.refl _ _) st ⟨a,c,rfl,aE,eO⟩ trivial⟩
  |e=>cases h⟩
end
section
variable[aA.a0]
variable{X:aQ}{e:Expr}{az:List Expr}{m:bt}{ms:cP}
def eT(s:bb X e m)(g:gw X az ms)(aw:e_ X e az:=by rfl):gw X (e::az) (dj m ms):=⟨uF (uE s.un g.un aw) λz H Q l=>by
 obtain⟨O,U,S,r,y,st,h,q⟩:=l;obtain⟨x,a,n,h⟩:=M.inv h;obtain⟨xs,w,p,h⟩:=M.inv h;cases h;refine⟨O,U,S,x,a,st,n,λi b u c k f bA=>?_⟩;refine⟨i,U,a,xs,_,k,p,λt vs j d bM rs ns=>?_⟩;exact q t (b::vs) j (c.trans d) bM ⟨b,vs,rfl,f.go d,rs⟩ ⟨bA,ns.back c.same⟩⟩
end
section
variable[aA.a0]
variable{X:aQ}{pos:Pos}
def gM{i j pos}:bb X (.Constant (.int i) j pos) (a4 (.int i)):=⟨vB ad5 λ_ _=>rfl⟩
end
section
variable[aA.a0]
variable{X:aQ}
def iX :gw X [] b':=⟨uF xg λc H Q a=>by
 obtain⟨O,U,S,r,b,st,h,q⟩:=a;cases h;exact q O [] H (Go.refl _ _) st rfl trivial⟩
end
section
variable[aA.a0]
variable{X:aQ}{a b:Expr}{ma cK:bt}{pos:Pos}
def kP{op:Operator}{r:fm}(c:d0 X (amQ op) r)(g:ei X.K X.mg r f)(e:bb X a ma)(d:bb X b cK):bb X (.BinOp a op b pos) (aj f ma cK):=⟨eb (aed c e.un d.un) (yz g)⟩
end
section
variable[aA.a0]
variable{X:aQ}{st:Stmt}{rest:List Stmt}{a b:aM}
def n5(c:fE X st a)(l:hH X rest b):hH X (st::rest) (bN a b):=⟨Ao (PH c.un l.un) λD s H k=>by
 obtain⟨O,U,S,j,m,st,h,q⟩:=k;obtain⟨f,e,c,h⟩:=M.inv h;refine⟨O,U,S,f,e,st,c,?_⟩
 cases f with
 |bA d=>exact λg t p n i e1=>⟨g,d,e,j,m,i,h,q.b1 n e1⟩
 |b9 r=>cases h;exact q
 |bk d=>cases h;exact q
 |cz d=>cases h;exact q⟩
end
section
variable[aA.a0]
variable{X:aQ}{st:Stmt}{a:aM}
def qU(h:fE X st a):hH X [st] a:=⟨PI h.un⟩
end
section
variable[aA.a0]
variable{X:aQ}{a b:Expr}{ma cK:bt}{pos:Pos}
def hA{r:fm}(c:mV X r)(g:ei X.K X.mg r f)(e:bb X a ma)(d:bb X b cK)(aw:Hs b:=by exact λ_ _=>rfl):bb X (.Subscript a b pos) (aj f ma cK):=⟨eb (ad6 c e.un d.un aw) (yz g)⟩
end
section
variable[aA.a0]
variable{X:aQ}{st:Stmt}{pos:Pos}{e:Expr}{m:bt}
theorem sF(he:bb X e m):fE X (.Return (some e) pos) (aZ m):=⟨gZ (FU he.un) λD p H j=>by
 obtain⟨O,U,S,l,n,st,h,q⟩:=j;obtain⟨r,i,k,h⟩:=M.inv h;refine⟨O,U,S,r,i,st,k,λc v b g a f nn=>?_⟩
 cases r with
 |v d=>cases h;exact q c v b g.b1 a.cm a.gK f
 |fr xs=>cases h;exact q c v b g.b1 a.cm a.gK (Qd f (.inr ⟨_,rfl⟩))
 |b5 xs=>cases h
 |mv xs=>cases h⟩
end
section
variable[aA.a0]
variable{X:aQ}{az:List Expr}{ms:cP}{pos:Pos}
def pO{o}(h:gw X az ms):bb X (.Tuple az o pos) (bO ms):=⟨eb (Pu h.un) λt H Q f=>by
 obtain⟨O,U,S,r,s,st,h,q⟩:=f;obtain⟨rs,c,g,h⟩:=M.inv h;obtain⟨ds,n,i,h⟩:=M.inv h;obtain⟨_,u,j,h⟩:=M.inv h;obtain⟨hl,rfl⟩:=rk j;cases h;refine⟨O,U,S,rs,c,st,g,λd vs m l e k nn=>?_⟩;obtain⟨b,rfl⟩:=yI k nn i;refine⟨amP (gb (by rw[b.len];exact hl)),λp a=>?_⟩;exact q (cN H d) _ _ (l.cN.trans (Go.gH a)) ((e.cN H).gH a) ⟨p,vs,rfl,dB.of dZ,b.go (Go.gH a)⟩ trivial⟩
end
section
variable[aA.a0]
variable{X:aQ}{pos:Pos}{e:Expr}{m:bt}
variable{i:Nat}{x:Str}{pos':Pos}
def GS(hN:X.N.Nodup)(hi:X.N[i]? = some x)(a:Loc X.env.scope x)(he:bb X e m)(aw:amI e (some (.Name x pos')) pos.line X.env=pure false:=by rfl)(b:X.fn x=true\/X.env.scope.names.lookup x=some .local:=by first|exact .inl rfl|exact .inr rfl|assumption):fE X (.Assign [.Name x pos'] e pos) (ck i m):=⟨gZ (FV hN hi a he.un aw b) (Qr λ_ _ _ h=>h)⟩
end
section
variable[aA.a0]
variable{X:aQ}{x:Str}{ps:List Str}{k:Nat}{mf:bq}{p pos:Pos}{e:Expr}{az:List Expr}{ms:cP}
def ag2(h:eH X.prog X.w X.K X.mg X.base x ps k (e4 X.K X.mg mf))(a:cB k X.A)(b:ee X x)(c:gw X (e::az) ms)(d:fX x:=by decide)(he:e_ X e az:=by rfl)(f:f5 X pos az:=by rfl):bb X (.Call (.Name x p) (e::az) [] pos) (bl mf ms):=⟨eb (Po h a b c.un d he f) CB⟩
end
section
variable[aA.a0]
variable{X:aQ}{x:Str}{ps:List Str}{k:Nat}{mf:bq}{p pos:Pos}
def ag3(h:eH X.prog X.w X.K X.mg X.base x ps k (e4 X.K X.mg mf))(a:cB k X.A)(b:ee X x)(e:fX x:=by decide):bb X (.Call (.Name x p) [] [] pos) (bl mf b'):=⟨eb (ad3 h a b e) λd H Q h=>by
  obtain⟨O,U,S,rs,f,st,c,q⟩:=CB d H Q h;cases c;exact q O [] H (Go.refl _ _) st rfl trivial⟩
end
section
variable[aA.a0]
variable{X:aQ}{e:Expr}{az:List Expr}{ms:cP}{pos p:Pos}{x:Str}{id:String}{r:List V->au->cI->Prop}{f:List R->M R}
def sD(i:kc X (.builtin id) r)(j:kU X.K X.mg r f)(b:ee X x)(hm:X.mg x=none)(d:al2 x=some (.builtin id))(c:gw X (e::az) ms)(a:x≠"__name__":=by decide)(g:fX x:=by decide)(he:e_ X e az:=by rfl)(h:f5 X pos az:=by rfl):bb X (.Call (.Name x p) (e::az) [] pos) (cF f ms):=⟨eb (adX i b hm d c.un a g he h) (JH j)⟩
end
section
variable[aA.a0]
variable{X:aQ}{st:Stmt}{pos:Pos}{a b:aM}
theorem GR{A B:List Stmt}{t:aG->M Bool}(p:fo X c t)(n:hH X A a)(l:hH X B b):fE X (.If c A B pos) (b8 t a b):=⟨gZ (PF p.un n.un l.un) λD s H k=>by
 obtain⟨O,U,S,g,i,st,h,q⟩:=k;obtain⟨t,d,m,h⟩:=M.inv h;refine⟨O,U,S,t,d,st,m,λe r j f=>?_⟩
 cases t with
 |false=>
  exact nA ⟨e,U,d,g,i,f,h,q.b1 j.b1 (eU.refl _ _)⟩
 |true=>
  exact nB ⟨e,U,d,g,i,f,h,q.b1 j.b1 (eU.refl _ _)⟩⟩
end
section
variable[aA.a0]
variable{X:aQ}{st:Stmt}
theorem GU :hH X [] bQ:=⟨Ao aex λD b H a=>by obtain⟨O,U,S,c,d,st,h,q⟩:=a;cases h;exact q O b H (ej.refl _ _) st (eU.refl _ _)⟩
end
section
variable[aA.a0]
variable{X:aQ}{a b:Expr}{ma cK:bt}{pos:Pos}
def iY{op:CmpOp}{r:fm}(d:d0 X (alY op) r)(i:ei X.K X.mg r f)(g:bb X a ma)(e:bb X b cK)(hm:amV op b=false:=by exact iy _):fo X (.Compare a [op] [b] pos) (aU (aj f ma cK)):=⟨sj (aez d g.un e.un hm) λc H Q h=>QI (yz i) c H Q (GA c H Q h)⟩
end
section
variable[aA.a0]
variable{X:aQ}{a:Expr}{ma:bt}{pos:Pos}
def ahH(d:bb X a ma)(he:∀b,isTrue a X.env b=(do let v <-b;aoh a.pos;am1 [v] (truthy v)):=by intro _;rfl):fo X a (aU ma):=⟨sj (PK d.un he) λc H Q h=>GA c H Q h⟩
end
section
variable[aA.a0]
variable{X:aQ}{e:Expr}
def kO{v:V}(h:b6 X e (pD v))(r:∀O H,Rep X.K X.mg O H d v):bb X e (a4 d):=⟨vB h r⟩
end
section
variable[aA.a0]
variable{X:aQ}{az:List Expr}{ms:cP}{pos:Pos}
def aha(h:gw X az ms):bb X (.List az pos) (d5 ms):=⟨eb (ad8 h.un) λw H Q i=>by
 obtain⟨O,U,S,r,u,st,h,q⟩:=i;obtain⟨rs,e,j,h⟩:=M.inv h;obtain⟨ds,t,k,h⟩:=M.inv h;obtain⟨_,x,l,h⟩:=M.inv h;obtain⟨hl,rfl⟩:=rk l;cases h;refine⟨O,U,S,rs,e,st,j,λf vs s c g m nn=>?_⟩;obtain⟨d,rfl⟩:=yI m nn k;refine⟨amP (gb (by rw[d.len];exact hl)),λp b=>?_⟩;refine q (gL (cN H f) p .dI) _ _ (c.cN.trans (Go.new b)) ((g.cN H).new b) ⟨p,vs,rfl,dZ,lC,d.go (Go.new b)⟩ λa n=>?_
 cases n;exact c.same.free b⟩
end
section
variable[aA.a0]
variable{X:aQ}{b:Expr}{pos:Pos}
def ag1{b j pos}:bb X (.Constant (.bool b) j pos) (a4 (.av b)):=⟨vB adT λ_ _=>rfl⟩
end
section
variable[aA.a0]
variable{X:aQ}{a:Expr}{bR:aG->M Bool}{pos:Pos}
def ahG(g:fo X a bR):fo X (.UnaryOp .Not a pos) (eg bR):=⟨sj (PJ g.un) λl H Q e=>by
 obtain⟨O,U,S,r,k,st,h,q⟩:=e;obtain⟨t,j,f,h⟩:=M.inv h;cases h;exact⟨O,U,S,t,_,st,f,λc b i d=>q c b i d⟩⟩
end
section
variable[aA.a0]
variable{X:aQ}{a b:Expr}{bR cL:aG->M Bool}{pos:Pos}
variable{rest:List Expr}
def ahK(s:fo X a bR)(l:k3 X (.BoolOp .Or (b::rest) pos) cL):k3 X (.BoolOp .Or (a::b::rest) pos) (fK bR cL):=⟨F1 (aeH s.un l.un) λw H Q k=>by
 obtain⟨O,U,S,r,n,st,h,q⟩:=k;obtain⟨t,c,m,h⟩:=M.inv h;refine⟨O,U,S,t,c,st,m,λd j f e=>?_⟩
 cases t with
 |true=>
  cases h;exact nB (q d j f e)
 |false=>
  exact nA ⟨d,U,c,r,n,e,h,λp i g u=>q p i (f.trans g) u⟩⟩
end
section
variable[aA.a0]
variable{X:aQ}{pos:Pos}
def Q1{x j pos}:bb X (.Constant (.str x) j pos) (a4 (.str x)):=⟨vB aee λ_ _=>rfl⟩
end
section
variable[aA.a0]
variable{X:aQ}{pos:Pos}
def ahf{j pos}:bb X (.Constant .none j pos) (a4 .aH):=⟨vB aea λ_ _=>rfl⟩
end
section
variable[aA.a0]
variable{X:aQ}{a b:Expr}{ma cK:bt}{pos:Pos}
def pN{op:CmpOp}{r:fm}(c:d0 X (alY op) r)(g:ei X.K X.mg r f)(e:bb X a ma)(d:bb X b cK)(hm:amV op b=false):bb X (.Compare a [op] [b] pos) (aj f ma cK):=⟨eb (ad1 c e.un d.un hm) (yz g)⟩
end
section
variable[aA.a0]
variable{X:aQ}{iter:Expr}{it:fB}{i:Nat}{b:aM}{body:List Stmt}{pos d9:Pos}{x:Str}
def ahA(a:aoF (model X.prog X.w) X.A X.env X.dS)(e:X.calm=true)(hi:vo X (.Name x d9) iter it)(hN:X.N.Nodup)(d:X.N[i]? = some x)(hl:Loc X.env.scope x)(c:hH X body b)(aw:k4 X iter:=by intro _;rfl)(f:X.fn x=true\/X.env.scope.names.lookup x=some .local:=by first|exact .inl rfl|exact .inr rfl|assumption):fE X (.For (.Name x d9) iter body [] pos) (i5 i it b):=⟨gZ (PE a e hi.un (sh hN d hl f) c.un aw) Vy⟩
end
section
variable[aA.a0]
variable{X:aQ}{a b:Expr}{ma cK:bt}{pos:Pos}
variable{rest:List Expr}
def agZ(u:bb X a ma)(l:bb X (.BoolOp .And (b::rest) pos) cK):bb X (.BoolOp .And (a::b::rest) pos) (jP ma cK):=⟨eb (adS u.un l.un) λB H Q k=>by
 obtain⟨O,U,S,r,p,st,h,q⟩:=k;obtain⟨x,z,m,h⟩:=M.inv h;obtain⟨t,A,n,h⟩:=M.inv h;obtain⟨rfl,rfl⟩:=xG n;refine⟨O,U,S,_,_,st,m,λd D i c e j bA=>⟨t,j,?_⟩⟩
 cases t with
 |false=>
  cases h;exact nA (q d _ i c e rfl trivial)
 |true=>
  exact nB ⟨d,U,_,r,p,e,h,λs v f g w y nn=>q s v f (c.trans g) w y (nn.back c.same)⟩⟩
end
section
variable[aA.a0]
variable{X:aQ}{a:Expr}{bR:aG->M Bool}{pos:Pos}
def ahL(b:fo X a bR):k3 X (.BoolOp .Or [a] pos) bR:=⟨aeI b.un⟩
end
section
variable[aA.a0]
variable{X:aQ}{a b:Expr}{bR cL:aG->M Bool}{pos:Pos}
variable{rest:List Expr}
def ahI(s:fo X a bR)(l:k3 X (.BoolOp .And (b::rest) pos) cL):k3 X (.BoolOp .And (a::b::rest) pos) (hX bR cL):=⟨F1 (PR s.un l.un) λw H Q k=>by
 obtain⟨O,U,S,r,n,st,h,q⟩:=k;obtain⟨t,c,m,h⟩:=M.inv h;refine⟨O,U,S,t,c,st,m,λd j f e=>?_⟩
 cases t with
 |false=>
  cases h;exact nA (q d j f e)
 |true=>
  exact nB ⟨d,U,c,r,n,e,h,λp i g u=>q p i (f.trans g) u⟩⟩
end
section
variable[aA.a0]
variable{X:aQ}{e:Expr}{m:bt}
def ahy(he:bb X e m):p6 X (some e) (kq m):=⟨λg s j H Q I d=>by
 obtain⟨O,U,S,r,p,st,h,q⟩:=d;obtain⟨x,n,f,h⟩:=M.inv h;split at h
 .rename_i i
  cases h;exact aer he.un g s j H Q I ⟨O,U,S,_,_,st,f,λb v a l c k _=>⟨i,k,q b a l c⟩⟩
 .cases h⟩
end
section
variable[aA.a0]
variable{X:aQ}
def ahx :p6 X none jQ:=⟨λb s c H Q I a=>by
 obtain⟨O,U,S,r,d,st,h,q⟩:=a;cases h;exact aeq b s c H Q I (q O H (Go.refl _ _) st)⟩
end
section
variable[aA.a0]
variable{X:aQ}{e:Expr}{m:bt}{lo hi:Option Expr}{lr mh:kZ}{pos cG:Pos}
def ahi(he:bb X e m)(hl:p6 X lo lr)(P:p6 X hi mh):bb X (.Subscript e (.Slice lo hi none cG) pos) (p8 m lr mh):=⟨eb (FJ (afp.or Qs) he.un hl.un P.un) λC H Q E=>by
 obtain⟨O,U,S,r,o,st,h,q⟩:=E;obtain⟨x,n,G,K⟩:=M.inv h;obtain⟨l,s,J,F⟩:=M.inv K;obtain⟨u,W,L,h⟩:=M.inv F;refine⟨O,U,S,x,n,st,G,λB fg Y V D A bA=>?_⟩;refine⟨B,U,n,l,s,D,J,λN Z w bM=>?_⟩;refine⟨N,U,s,u,W,bM,L,λt I y z=>?_⟩;have g:=(V.trans w).trans y;have k:=A.go (w.trans y);unfold nU at h;split at h
 .rename_i xs
  by_cases c:c7.cw xs.length 0 l=0/\c7.cw xs.length xs.length u=xs.length
  .rw[if_pos c]at h;cases h
  .rw[if_neg c]at h
   cases h;obtain⟨a,j,rfl,i,f⟩:=k;exact .inr ⟨a,j,rfl,i,by rw[f.len];exact c,λp d=>q t _ _ (g.trans (Go.gH d)) (z.gH d) ⟨p,_,rfl,dB.of dZ,(f.cut l u).go (Go.gH d)⟩ trivial⟩
 .split at h
  .rename_i xs aq
   cases h;obtain⟨a,j,rfl,i,f⟩:=R.oV k aq;refine .inl ⟨a,j,rfl,i,λp d=>q (gL t p .dI) _ _ (g.trans (Go.new d)) (z.new d) ⟨p,_,rfl,dZ,lC,(f.cut l u).go (Go.new d)⟩ λb T=>?_⟩;cases T;exact g.same.free d
  .cases h⟩
end
section
variable[aA.a0]
variable{X:aQ}{a:Expr}{ma:bt}{pos:Pos}
def ahh{op}(h:bb X a ma):bb X (.BoolOp op [a] pos) ma:=⟨aec h.un⟩
end
section
variable[aA.a0]
variable{X:aQ}{scope esc:Scope}{EN N:List Str}{n:Nat}{cap:List Nat}{elt iter:Expr}{ifs:List Expr}{pos d9:Pos}{x:Str}{it:fB}{t:aG->M Bool}{el:bt}
def ag6(S:kV esc scope EN N n cap)(c:0<n)(hi:rd X (.Name x d9) iter it)(d:N[0]? = some x)(b:oh X scope N x)(e:∀C a s H,rb (d6 X scope N C a s H) ifs t)(f:∀C a s H,bb (d6 X scope N C a s H) elt el)(he:X.env.scope=esc:=by rfl)(hN:X.N=EN:=by rfl)(g:X.calm=true:=by rfl)(aw:k4 X iter:=by intro _;rfl):bb X (.ListComp elt [⟨.Name x d9,iter,ifs,0⟩] scope pos) (fb n cap it t el):=⟨eb (FI S hi.un (λC a s H=>sh S.fI d (b C a s H).1 (.inr (b C a s H).2)) (λC a s H=>(e C a s H).un) (λC a s H=>(f C a s H).un) he hN g aw) (CI c)⟩
end
section
variable[aA.a0]
variable{X:aQ}{x:Str}{i:Nat}{p apos dM pos:Pos}{e:Expr}{az:List Expr}{ms:cP}{name:Str}{id:String}{f:List D->List R->M (R×List D)}{r:V->List V->au->cI->Prop}
def xO(slot:PySem.Slot "list" name id)(A:typeOf (.builtin id)=pure (.type "method_descriptor"))(hm:vg X id r)(u:sL X.K X.mg r f)(l:gw X (e::az) ms)(hN:X.N[i]? = some x)(m:q' X.env.scope x)(hd:fX x:=by decide)(s:(x==("__classdict__":Str))=false:=by decide)(w:amG (.Name x p) name X.env (eval (.Name x p) X.env)=eval (.Name x p) X.env:=by rfl) (B:((amY dM (alJ (e::az) X.env)).all (λx=>!x.1)&&(anP dM (am9 [] X.env)).all (λx=>x.1.isSome)
&&decide ((e::az).length+([]:List anW).length+(if([]:List anW).isEmpty then 0 else 1)<30))=true:=by rfl) (y:(apos.endLine==dM.line)=true:=by rfl) (aw:e_ X e az:=by rfl) (t:f5 X dM az:=by rfl) (z:amI (.Call (.Attribute (.Name x p) name apos) (e::az) [] dM) none pos.line X.env=pure false:=by rfl):fE X (.Expr (.Call (.Attribute (.Name x p) name apos) (e::az) [] dM) pos) (ri i f ms):=⟨gZ (FT (FH apf slot A hm (An hN m hd s) l.un w B y aw t) z) λD j H b=>by
  obtain⟨O,U,S,F,G,st,h,q⟩:=b;obtain⟨⟨J,L⟩,E,c,h⟩:=M.inv h;cases h;exact abe u st c λd v a g n k _=>q d j a g n k⟩
end
section
variable[aA.a0]
variable{X:aQ}{a:Expr}{bR:aG->M Bool}{pos:Pos}
def ahJ(b:fo X a bR):k3 X (.BoolOp .And [a] pos) bR:=⟨PS b.un⟩
end
section
variable[aA.a0]
variable{X:aQ}{cg l:Expr}{m:bt}{a:Expr}
theorem ahn(hl:bb X l m):vo X cg l (wb m):=⟨pk (PB hl.un) λs H R k=>by
 obtain⟨O,U,S,xs,p,st,h,q⟩:=k;obtain⟨r,j,n,h⟩:=M.inv h;refine⟨O,U,S,r,j,st,n,λe v d i f g nn=>?_⟩;split at h
 .cases h
  obtain⟨a,b,rfl,ls,c⟩:=g;exact⟨a,rfl,⟨b,ls.cT⟩,q e d (pZ X.K a) b i f (Eg (.inl ⟨.inl ls.1,.inl ls.2⟩)) c⟩
 .cases h
  obtain⟨a,b,rfl,ls,t,c⟩:=g;exact⟨a,rfl,⟨b,dw.of ls⟩,q (cN H e) d (pZ X.K a) b i.cN (f.cN H) (Eg (.inl ⟨.inl ls,.inl (Dl (nn a rfl) t)⟩)) (c.dd (i7 _ _))⟩
 .cases h
  obtain⟨a,b,rfl,ls,c⟩:=g;exact⟨a,rfl,⟨b,ls.cT⟩,q e d (pZ X.K a) b i f (Eg ls) c⟩
 .cases h⟩
end
section
variable[aA.a0]
def ahe(j:bb X a ma):bb X (.UnaryOp .USub a pos) (bg ux ma):=⟨eb (aeg agL j.un) λn H Q f=>by
 obtain⟨O,U,S,r,m,st,h,q⟩:=f;obtain⟨x,l,g,h⟩:=M.inv h;unfold ux at h;split at h
 .rename_i i
  cases h;exact⟨O,U,S,_,_,st,g,λd p b k e c bA=>⟨i,c,q d _ b k e rfl trivial⟩⟩
 .cases h⟩
end
section
variable[aA.a0]
variable{X:aQ}{pos:Pos}{e:Expr}{m:bt}
variable{i:Nat}{x:Str}{pos':Pos}
def ahC(hN:X.N.Nodup)(hi:X.N[i]? = some x)(a:Loc X.env.scope x)(he:bb X e m)(aw:amI e (some (.Name x pos')) pos.line X.env=pure false:=by rfl)(b:X.fn x=true\/X.env.scope.names.lookup x=some .local:=by first|exact .inl rfl|exact .inr rfl|assumption):fE X (.Assign [.Name x pos'] e pos) (nc i m):=⟨gZ (FV hN hi a he.un aw b) (Pj λ_ _ _ h=>h)⟩
end
section
variable[aA.a0]
def ahr:rb X [] fL:=⟨λc s U H Q I a=>by
 obtain⟨O,U',S,b,d,st,h,q⟩:=a;cases h;exact Px c s U H Q I (q O H (Go.refl _ _) st)⟩
end
section
variable[aA.a0]
variable{X:aQ}{a:Expr}{ma:bt}{pos:Pos}
def ahg(j:bb X a ma):bb X (.UnaryOp .Not a pos) (vy ma):=⟨eb (aeb j.un) λp H Q f=>by
 obtain⟨O,U,S,r,n,st,h,q⟩:=f;obtain⟨x,l,g,h⟩:=M.inv h;obtain⟨t,m,i,h⟩:=M.inv h;obtain⟨rfl,rfl⟩:=xG i;cases h;exact⟨O,U,S,_,_,st,g,λd s b k e c bA=>⟨t,c,q d _ b k e rfl trivial⟩⟩⟩
end
section
variable[aA.a0]
variable{X:aQ}{e:Expr}{az:List Expr}{ms:cP}{pos p:Pos}{x:Str}{T:String}{r:List V->au->cI->Prop}{f:List R->M R}
def xN(i:kc X (.type T) r)(j:kU X.K X.mg r f)(b:ee X x)(hm:X.mg x=none)(d:al2 x=some (.type T))(c:gw X (e::az) ms)(a:x≠"__name__":=by decide)(g:fX x:=by decide)(he:e_ X e az:=by rfl)(h:f5 X pos az:=by rfl):bb X (.Call (.Name x p) (e::az) [] pos) (cF f ms):=⟨eb (adY i b hm d c.un a g he h) (JH j)⟩
end
section
variable[aA.a0]
def A1{t:aG->M Bool}(h:fo X c t):rb X [c] t:=⟨aei h.un⟩
end
section
variable[aA.a0]
variable{X:aQ}{cg:Expr}{a:Expr}{ms:cP}{pos p:Pos}
def aho(b:ee X "range")(hm:X.mg "range"=none)(c:gw X [a] ms)(aw:alJ [a] X.env=[(false,eval a X.env)]:=by rfl):vo X cg (.Call (.Name "range" p) [a] [] pos) (gV ms):=⟨pk (FP b hm c.un aw) Qi.1⟩
end
section
variable[aA.a0]
variable{X:aQ}{cg:Expr}{a b:Expr}{ms:cP}{pos p:Pos}
def ahp(c:ee X "range")(hm:X.mg "range"=none)(d:gw X [a,b] ms)(aw:alJ [a,b] X.env=[(false,eval a X.env),(false,eval b X.env)]:=by rfl)(e:alJ [b] X.env=[(false,eval b X.env)]:=by rfl):vo X cg (.Call (.Name "range" p) [a,b] [] pos) (tF ms):=⟨pk (aej c hm d.un aw e) ae1.1⟩
end
section
variable[aA.a0]
variable{X:aQ}{a b c:Expr}{ma cK fH:bt}{pos:Pos}
def Q9{op d:CmpOp}{r i:fm}(j:d0 X (alY op) r)(q:ei X.K X.mg r f)(n:d0 X (alY d) i)(k:ei X.K X.mg i g)(m:bb X a ma)(l:bb X b cK)(p:bb X c fH)(hm:lastMarks [op,d] [b,c]=false:=by with_unfolding_all rfl):fo X (.Compare a [op,d] [b,c] pos) (aU (e' f g ma cK fH)):=⟨sj (aey j n m.un l.un p.un hm) λe H Q h=>QI (JG q k) e H Q (GA e H Q h)⟩
end
section
variable[aA.a0]
variable{X:aQ}{cg l:Expr}{m:bt}{a:Expr}
theorem A0(hl:bb X l m):rd X cg l (lh m):=⟨pk (PC hl.un) λs H R f=>by
 obtain⟨O,U,S,xs,p,st,h,q⟩:=f;obtain⟨r,n,g,h⟩:=M.inv h;split at h
 .rename_i t
  cases h;refine⟨O,U,S,_,_,st,g,λd v c j e i nn=>?_⟩;obtain⟨a,b,rfl,ls,k⟩:=i;exact⟨a,rfl,⟨b,ls⟩,q d c (sP X.K a) b j e (NI ls) k⟩
 .cases h⟩
end
section
variable[aA.a0]
variable{X:aQ}{cg l:Expr}{m:bt}{e a:Expr}
theorem agU(hl:bb X l m):rd X cg l (nz m):=⟨pk (PB hl.un) λt H u g=>by
 obtain⟨O,U,S,xs,s,st,h,q⟩:=g;obtain⟨r,p,i,h⟩:=M.inv h
 cases e:r.fz with
 |none=>rw[e]at h;cases h
 |some w=>
  rw[e]at h;cases h;refine⟨O,U,S,r,_,st,i,λd v c k f j nn=>?_⟩;obtain⟨a,b,rfl,ls,n⟩:=R.oV j e;exact⟨a,rfl,⟨b,ls⟩,q d c (pZ X.K a) b k f (NG ls) n⟩⟩
end
section
variable[aA.a0]
variable{X:aQ}{b:aM}{body:List Stmt}{pos:Pos}{c:Expr}{t:aG->M Bool}
def ahF(a:aoF (model X.prog X.w) X.A X.env X.dS)(e:fo X c t)(d:hH X body b):fE X (.While c body [] pos) (vz t b):=⟨gZ (PG a e.un d.un) aht⟩
end
section
variable[aA.a0]
variable{X:aQ}{cg l:Expr}{m:bt}{a:Expr}
theorem ahq(hl:bb X l m):vo X cg l (lh m):=⟨pk (PC hl.un) λs H R f=>by
 obtain⟨O,U,S,xs,p,st,h,q⟩:=f;obtain⟨r,n,g,h⟩:=M.inv h;split at h
 .rename_i t
  cases h;refine⟨O,U,S,_,_,st,g,λd v c j e i nn=>?_⟩;obtain⟨a,b,rfl,ls,k⟩:=i;exact⟨a,rfl,⟨b,ls⟩,q d c (sP X.K a) b j e (ZK ls) k⟩
 .cases h⟩
end
section
variable[aA.a0]
variable{X:aQ}{cg:Expr}{a:Expr}{ms:cP}{pos p:Pos}
def agV(b:ee X "range")(hm:X.mg "range"=none)(c:gw X [a] ms)(aw:alJ [a] X.env=[(false,eval a X.env)]:=by rfl):rd X cg (.Call (.Name "range" p) [a] [] pos) (gV ms):=⟨pk (FP b hm c.un aw) Qi.2⟩
end
section
variable[aA.a0]
variable{X:aQ}{st:Stmt}{pos:Pos}{a:aM}{e:Expr}
theorem ahD(i:Nat)(hN:X.N[i]? = some x:=by rfl)(f:q' X.env.scope x:=by first|exact amK rfl|exact al3 (.inl rfl)|exact al3 (al3 rfl))(hd:fX x:=by decide)(g:(x==("__classdict__":Str))=false:=by decide):fE X (.Return (some (.Name x p)) pos) (yB i):=⟨gZ (FU (An hN f hd g)) λD c H b=>by
 obtain⟨O,U,S,k,m,st,h,q⟩:=b;unfold yB at h
 cases e:U[i]? with
 |none=>rw[e]at h;cases h
 |some s=>
  rw[e]at h;have l:=st.loc i s e
  cases s with
  |dO p xs=>
   obtain⟨a,j,aq,aE,cX,eO⟩:=l
   cases p with
   |true=>cases h
   |false=>
   cases h;refine⟨.ref a,?_,q O _ H (ej.refl _ _) st.cm st.gK ⟨a,j,rfl,cX,.inr ⟨i,aE⟩,eO⟩⟩
   cases w:c[i]? with
   |none=>rw[w]at aq;cases aq
   |some y=>rw[w]at aq;exact congrArg some aq
  |v d=>cases h
  |b5 d=>cases h
  |e=>cases h⟩
end
section
variable[aA.a0]
variable{X:aQ}{a b c:Expr}{ma cK fH:bt}{pos:Pos}
def ag5{op d:CmpOp}{r e:fm}(h:d0 X (alY op) r)(n:ei X.K X.mg r f)(l:d0 X (alY d) e)(i:ei X.K X.mg e g)(k:bb X a ma)(j:bb X b cK)(m:bb X c fH)(hm:lastMarks [op,d] [b,c]=false:=by with_unfolding_all rfl):bb X (.Compare a [op,d] [b,c] pos) (e' f g ma cK fH):=⟨eb (ad0 h l k.un j.un m.un hm) (JG n i)⟩
end
section
variable[aA.a0]
variable{X:aQ}{pos d9:Pos}{is:List Nat}{e:Expr}{m:bt}{az:List Expr}{k:Nat}
def ahE(y:X.calm=true)(j:p3 X az (qj is))(he:bb X e m)(g:(al4 az X.env).length=is.length:=by rfl)(x:(al4 az X.env).findIdx? (·.1)=none:=by rfl)(aw:aoL [.Tuple az k d9] e pos.line X.env=pure false:=by rfl)(hw:aoM [.Tuple az k d9] e X.env=pure none:=by rfl)(b:(al4 [.Tuple az k d9] X.env).map (·.2)=[anm (.Tuple az k d9) X.env]:=by rfl):fE X (.Assign [.Tuple az k d9] e pos) (s_ is m):=⟨gZ (FR he.un (FL y j g x) aw hw b) λD F H n=>by
 obtain⟨O,U,S,B,E,st,h,q⟩:=n;obtain⟨r,A,b,h⟩:=M.inv h;split at h
 .rename_i ds
  by_cases c:ds.length=is.length
  .rw[if_pos c]at h
   cases h;refine⟨O,U,S,_,_,st,b,λi v f w l s nn=>?_⟩;obtain⟨a,z,rfl,t,d⟩:=s;refine⟨a,z,rfl,t,by rw[d.len,c],QU l d c λu p k=>q i u f w.b1 p k⟩
  .rw[if_neg c]at h;cases h
 .cases h⟩
end
section
variable[aA.a0]
variable{X:aQ}{a:Expr}{ma:bt}{apos dM:Pos}
def ag0(j:bb X a ma)(m:amG a "bit_length" X.env (eval a X.env)=eval a X.env:=by rfl)(n:(apos.endLine==dM.line)=true:=by rfl):bb X (.Call (.Attribute a "bit_length" apos) [] [] dM) (bg oBits ma):=⟨eb (adU PySem.F.plainAttrs_int PySem.F.slot_int_bit_length PySem.F.type_int_bit_length aa9 j.un m n) λt H Q f=>by
  obtain⟨O,U,S,r,s,st,h,q⟩:=f;obtain⟨x,p,g,h⟩:=M.inv h;unfold oBits at h;split at h
  .rename_i i
   cases h;refine⟨O,U,S,_,_,st,g,λd k b l e c bA=>?_⟩;cases(show k=.int i from c);exact⟨rfl,i,rfl,rfl,q d _ b l e rfl trivial⟩
  .cases h⟩
end
section
variable[aA.a0]
variable{X:aQ}{st:Stmt}
def ahB :fE X st om:=⟨gZ aew λD d H a=>by obtain⟨O,U,S,b,c,st,h,q⟩:=a;cases h⟩
end
section
variable[aA.a0]
variable{X:aQ}{a:Expr}{bR:aG->M Bool}
def k3.cz(h:k3 X a bR):fo X a bR:=⟨x3.cz h.un⟩
end
section
variable[aA.a0]
variable{X:aQ}{scope esc:Scope}{EN N:List Str}{n:Nat}{cap:List Nat}{elt iter:Expr}{ifs:List Expr}{pos d9:Pos}{x:Str}{it:fB}{t:aG->M Bool}{el:bt}
def A5{py c:Pos}(S:kV esc scope EN N n cap)(m:X.N.Nodup)(k:X.N[i]? = some y)(d:X.env.scope.names.lookup y=some .local)(b:0<n)(hi:rd X (.Name x d9) iter it)(e:N[0]? = some x)(j:oh X scope N x)(f:∀C a s H,rb (d6 X scope N C a s H) ifs t)(g:∀C a s H,bb (d6 X scope N C a s H) elt el)(he:X.env.scope=esc:=by rfl)(hN:X.N=EN:=by rfl)(h:X.calm=true:=by rfl)(aw:k4 X iter:=by intro _;rfl)(l:amI (.ListComp elt [⟨.Name x d9,iter,ifs,0⟩] scope pos) (some (.Name y py)) c.line X.env=pure true:=by rfl):fE X (.Assign [.Name y py] (.ListComp elt [⟨.Name x d9,iter,ifs,0⟩] scope pos) c) (nc i (fb n cap it t el)):=⟨gZ (HE S m k d b hi.un e j (λC a s H=>(f C a s H).un) (λC a s H=>(g C a s H).un) he hN h aw l) (Pj (CI b))⟩
end
section
variable[aA.a0]
variable{X:aQ}{scope esc:Scope}{EN N:List Str}{n:Nat}{cap:List Nat}{elt iter:Expr}{ifs:List Expr}{pos d9:Pos}{x:Str}{it:fB}{t:aG->M Bool}{el:bt}
def ahz{py c:Pos}(S:kV esc scope EN N n cap)(m:X.N.Nodup)(k:X.N[i]? = some y)(d:X.env.scope.names.lookup y=some .local)(b:0<n)(hi:rd X (.Name x d9) iter it)(e:N[0]? = some x)(j:oh X scope N x)(f:∀C a s H,rb (d6 X scope N C a s H) ifs t)(g:∀C a s H,bb (d6 X scope N C a s H) elt el)(he:X.env.scope=esc:=by rfl)(hN:X.N=EN:=by rfl)(h:X.calm=true:=by rfl)(aw:k4 X iter:=by intro _;rfl)(l:amI (.ListComp elt [⟨.Name x d9,iter,ifs,0⟩] scope pos) (some (.Name y py)) c.line X.env=pure true:=by rfl):fE X (.Assign [.Name y py] (.ListComp elt [⟨.Name x d9,iter,ifs,0⟩] scope pos) c) (ck i (fb n cap it t el)):=⟨gZ (HE S m k d b hi.un e j (λC a s H=>(f C a s H).un) (λC a s H=>(g C a s H).un) he hN h aw l) (Qr (CI b))⟩
end
def My:M bG:=⟨λS=>.ok S S,λ_ _ _ h=>by cases h;rfl⟩
def hj:R->M ey
 |.v (.ref n)=>do
  let S <-My
  match S[n]? with
  |some o=>pure o|none=>bad
 |_=>bad
def O4{r:R}{S a:bG}(h:(hj r).run S=.ok o a):∃n,r=.v (.ref n)/\S[n]? = some o/\S=a:=by
 unfold hj at h;split at h
 .rename_i n
  obtain⟨T,c,b,h⟩:=M.inv h;cases b
  cases e:S[n]? with
  |none=>rw[e]at h;cases h
  |some d=>rw[e]at h;cases h;exact⟨n,rfl,e,rfl⟩
 .cases h
def ia{κ α:Type}[DecidableEq κ](k:κ)(a:α):List (κ×α)->List (κ×α)
 |[]=>[(k,a)]
 |(g,x)::r=>if g=k then(g,a)::r else(g,x)::ia k a r
theorem PL{v:V}:∀aX:List (Str×V),iz f v aX=ia f v aX
 |[]=>rfl| (g,x)::r=>by unfold iz ia;rw[PL r]
section
variable{κ:Type}[DecidableEq κ]
def LY(a:List (κ×D))(k:κ):Option D:=(a.find? λb=>decide (b.1=k)).map (·.2)
variable[aA.a0]{K:aN}{mg:bp}{O:a5}{H:au}
def fC.cons{p:κ×D}{f:List (κ×D)}{d:List (κ×V)}(h:fC K mg O H (p::f) d):∃q r,d=q::r/\p.1=q.1/\Rep K mg O H p.2 q.2/\fC K mg O H f r:=by
 obtain⟨c,g⟩:=h
 cases d with
 |nil=>cases c
 |cons q r=>
  injection c with c o
  obtain⟨y,t,e,a,b⟩:=g;injection e with aq aE
  subst aq aE;exact⟨q,r,rfl,c,a,o,b⟩
def fC.mk'{r:List (κ×V)}(a:p.1=q.1)(b:Rep K mg O H p.2 q.2)(h:fC K mg O H o r):fC K mg O H (p::o) (q::r):=
 ⟨by rw[alv,alv,a,h.1],q.2,_,rfl,b,h.2⟩
def fC.Fe(h:fC K mg O H [] o):o=[]:=List.map_eq_nil_iff.mp h.1.symm
def fC.len{a:List (κ×D)}{b:List (κ×V)}(h:fC K mg O H a b):b.length=a.length:=by
 have:=congrArg amO h.1;rw[ala,ala]at this;exact this.symm
theorem fC.val(k:κ):∀{C:List (κ×D)}{o:List (κ×V)},fC K mg O H C o->match LY C k with
  |some d=>∃v,GJ o k=some v/\Rep K mg O H d v|none=>GJ o k=none
 |[],o,h=>by obtain rfl:=h.Fe;exact rfl
 |p::C,o,h=>by
  obtain⟨q,r,rfl,aq,aE,h'⟩:=h.cons;unfold LY GJ
  by_cases a:p.1=k
  .rw[ant (by simpa using a),ant (by rw[<-aq];simpa using a)]
   exact⟨q.2,rfl,aE⟩
  .rw[anu (by simpa using a),anu (by rw[<-aq];simpa using a)]
   exact fC.val k h'
theorem fC.ia(k:κ){v:V}(hd:Rep K mg O H d v):∀{C:List (κ×D)}{o:List (κ×V)},fC K mg O H C o->fC K mg O H (aC.ia k d C) (aC.ia k v o)
 |[],o,h=>by obtain rfl:=h.Fe;exact⟨rfl,_,_,rfl,hd,rfl⟩
 |p::C,o,h=>by
  obtain⟨q,r,rfl,aq,aE,h'⟩:=h.cons;obtain⟨p1,cG⟩:=p;obtain⟨bB,bY⟩:=q;cases(show p1=bB from aq);unfold aC.ia;split
  .exact fC.mk' rfl hd h'
  .exact fC.mk' rfl aE (fC.ia k hd h')
theorem fC.lookup:∀{C:List (Str×D)}{o:List (Str×V)},fC K mg O H C o->C.lookup f=some d->∃v,o.lookup f=some v/\Rep K mg O H d v
 |[],o,h,e=>by cases e
 |p::C,o,h,e=>by
  obtain⟨q,r,rfl,aq,aE,h'⟩:=h.cons;obtain⟨p1,cG⟩:=p;obtain⟨bB,bY⟩:=q;cases(show p1=bB from aq);rw[als]at e ⊢
  cases I:f==p1 with
  |true=>rw[I]at e;cases e;exact⟨bY,rfl,aE⟩
  |false=>rw[I]at e;exact fC.lookup h' e
end
variable[aA.a0]
section
variable{K:aN}{mg:bp}{O:a5}{U:aG}{S ah:bG}{ak:St}{H:au}{r:R}{v:V}{o:ey}
def O5(st:cC K mg O U S ak H)(f:ek K mg O H r v)(h:(hj r).run S=.ok o ah):∃a,v=.ref a/\a∈O.bK/\ob K mg O H a o:=by
 obtain⟨n,rfl,e,rfl⟩:=O4 h;obtain⟨a,d,i⟩:=st.gK n o e;obtain⟨b,g,c⟩:=f;rw[d]at c;cases c;exact⟨a,g,alF d,i⟩
end
structure mR(K:aN)(mg:bp)(c:Str)(aX:List Str):Prop where
 ex:∃C,mg c=some (.ref C)/\i0 K C/\(W.makesIn K C=true/\amX K (.ref C)=true)/\∀f∈aX,q4 K C f
def bX(c f:Str)(r:R):M R:=do
 let o <-hj r
 match o with
 |.ba c' aX=>if c'=c then(match aX.lookup f with
  |some d=>pure (.v d)| none=>bad)else bad
 |_=>bad
def dq(m:bt):bt:=λU=>do
 let x <-m U
 let o <-hj x
 match o with
 |.l xs=>pure (.mv xs)|_=>bad
section
variable{X:aQ}{e o:Expr}{m:bt}{pos:Pos}{c a:Str}{ns:List Str}
theorem Q0(T:mR X.K X.mg c ns)(E:a∈ns)(he:bb X e m)(p:amG e a X.env (eval e X.env)=eval e X.env:=by rfl):bb X (.Attribute e a pos) (bg (bX c a) m):=⟨eb (ad2 he.un p) λP H Q n=>by
 obtain⟨O,U,S,r,N,st,h,q⟩:=n;obtain⟨x,j,s,B⟩:=M.inv h;clear h;refine⟨O,U,S,x,j,st,s,λl R i A f k bA=>?_⟩;obtain⟨o,L,g,h'⟩:=M.inv B;have h:=h';obtain⟨b,rfl,_,F⟩:=O5 f k g;obtain rfl:=(hj x).e3 _ _ _ g;split at h
 .rename_i c' aX
  split at h
  .rename_i D
   subst D
   cases el:aX.lookup a with
   |none=>rw[el]at h;cases h
   |some d=>
    rw[el]at h;cases h;obtain⟨C,w,G,y,u,J⟩:=F;obtain⟨V,aq,aE,_,eO⟩:=T.ex;cases aq.symm.trans u.1;obtain⟨v,z,t⟩:=J.lookup el;exact⟨b,C,w,G,v,rfl,y,aE,eO a E,z,q l v i A f t trivial⟩
  .cases h
 .cases h⟩
def aaF{k:St}{H:au}{Q:cI}{O:a5}{U:aG}{S f t:bG}{x r:R}{g:List D->R}(st:cC X.K X.mg O U S k H)(y:(m U).run S=.ok x f)
  (h:(do let o <-hj x;match o with|.l xs=>pure (g xs)|_=>bad:M R).run f=.ok r t) (q:vj X.K X.mg O U t k H r Q)
  (w:∀j d xs a b,j a=.out->d a=some (.l b)->bh X.K X.mg j d xs b->ek X.K X.mg j d (g xs) (.ref a)/\iH H (g xs) (.ref a)):gr X.K X.mg m k H Q:=by
 obtain⟨o,G,s,h'⟩:=M.inv h;clear h;have h:=h';refine⟨O,U,S,x,f,st,y,λp J n A i u bA=>?_⟩;obtain⟨a,rfl,ma,E⟩:=O5 i u s;obtain rfl:=(hj x).e3 _ _ _ s;split at h
 .cases h
  obtain⟨b,l,F⟩:=E;obtain⟨B,z⟩:=w p n _ a b (i.cm.rh.2 a ma) l F;exact q p _ n A i B z
 .cases h
theorem ag9(he:bb X e m):bb X e (dq m):=⟨eb he.un λp H Q b=>by
 obtain⟨O,U,S,r,k,st,h,q⟩:=b;obtain⟨x,j,d,h⟩:=M.inv h;exact aaF st d h q λn i xs a g _ l f=>⟨⟨a,g,rfl,l,f⟩,trivial⟩⟩
end
end aC
namespace aC
open PySem PySem.Spec aA
structure N(α:Type):Type where
 run:bG->Out α
def N.hK{α d:Type}(m:N α)(f:α->N d):N d:=⟨λS=>match m.run S with
 |.ok a b=>(f a).run b|.exc c b=>.exc c b| .bad=>.bad⟩
instance:Monad N where
 pure a:=⟨λS=>.ok a S⟩
 bind:=N.hK
def N.inv{α i:Type}{m:N α}{f:α->N i}{S g:bG}{b:i}(h:(m >>= f).run S=.ok b g):∃a d,m.run S=.ok a d/\(f a).run d=.ok b g:=by
 have h:(N.hK m f).run S=.ok b g:=h;unfold N.hK at h;dsimp only at h
 cases e:m.run S with
 |ok a d=>rw[e]at h;exact⟨a,d,rfl,h⟩|exc c d=>rw[e]at h;cases h
 |bad=>rw[e]at h;cases h
def gG{α:Type}:N α:=⟨λ_=>.bad⟩
def M.up{α:Type}(m:M α):N α:=⟨m.run⟩
def y3:N bG:=⟨λS=>.ok S S⟩
def putN(S:bG):N Unit:=⟨λ_=>.ok () S⟩
abbrev d3:=aG->N R
abbrev gS:=aG->N (List R)
abbrev b0:=aG->N fR
abbrev dC:=List D->N R
variable[aA.a0]
structure ep(O ai:a5)(H H':au):Prop where
 cells:∀b o,H b=some o->(b∉O.bK\/Fix o)->(h:pa o:=by exact trivial)->H' b=some o
 own:∀b,H b≠none->ai b=O b
 has:∀b,H b≠none->H' b≠none
 cL:∀b ps,H b=some (.gc ps)->∃ly,H' b=some (.gc ly)
 b4:TabsOk H->TabsOk H'
 bK:O.bK <+: ai.bK
 new:∀b∈ai.bK,b∈O.bK\/H b=none
structure gu(O ai:a5)(H H':au):Prop where
 cells:∀b o,H b=some o->(((O b=.free\/O b=.out)/\b∉O.bK)\/Fix o)->(h:pa o:=by exact trivial)->H' b=some o
 own:∀b,H b≠none->(O b=.free\/O b=.out)->ai b=O b
 has:∀b,H b≠none->H' b≠none
 cL:∀b ps,H b=some (.gc ps)->∃ly,H' b=some (.gc ly)
 b4:TabsOk H->TabsOk H'
 bK:O.bK <+: ai.bK
 new:∀b∈ai.bK,b∈O.bK\/H b=none
structure fl(O ai:a5)(H H':au):Prop where
 cells:∀b o,H b=some o->((O b=.free/\b∉O.bK/\∃ys,o=.l ys)\/Fix o)->(h:pa o:=by exact trivial)->H' b=some o
 own:∀b ys,H b=some (.l ys)->O b=.free->ai b=.free
 bK:O.bK <+: ai.bK
section
variable{K:aN}{mg:bp}{O aF bu ai:a5}{H H1 aJ H':au}{S ah:bG}{U U':aG}{ak cV:St}
omit [aA.a0]in
theorem ib(e:H b=some o):H b≠none:=λz=>by rw[e]at z;cases z
def Go.dx(g:Go O ai H H'):ep O ai H H':=⟨λb o e _ n=>g.same.at' b o e n,g.own,λ_ h=>g.same.some h,g.same.cL,g.same.b4,by rw[g.bK];exact aof _,λb h=>.inl (by rw[<-g.bK];exact h)⟩
def ej.d_(g:ej O ai H H'):gu O ai H H':=⟨λb o e h n=>g.cells b o e (h.elim (λz=>z.1.elim .inl λz=>.inr (.inl z)) λz=>.inr (.inr z)) n,g.own,g.has,g.cL,g.b4,by rw[g.bK];exact aof _,λb h=>.inl (by rw[<-g.bK];exact h)⟩
def ep.d_(g:ep O ai H H'):gu O ai H H':=⟨λb o e h n=>g.cells b o e (h.imp (·.2) id) n,λb h _=>g.own b h,g.has,g.cL,g.b4,g.bK,g.new⟩
def ep.trans(a:ep O aF H H1)(b:ep aF bu H1 aJ):ep O bu H aJ:=
  ⟨λc o e h n=>b.cells c o (a.cells c o e h n) (h.imp (λz m=>(a.new c m).elim z (ib e)) id) n,λc h=>(b.own c (a.has c h)).trans (a.own c h),λc h=>b.has c (a.has c h),λc ps h=>let⟨p1,aq⟩:=a.cL c ps h;b.cL c p1 aq,λg=>b.b4 (a.b4 g),
   a.bK.trans b.bK,λc m=>(b.new c m).elim (a.new c) λz=>.inr (by cases e:H c with|none=>rfl|some o=>exact absurd z (a.has c (ib e)))⟩
def gu.trans(a:gu O aF H H1)(b:gu aF bu H1 aJ):gu O bu H aJ:=
  ⟨λc o e h n=>b.cells c o (a.cells c o e h n) (h.imp (λz=>⟨by rw[a.own c (ib e) z.1];exact z.1,λm=>(a.new c m).elim z.2 (ib e)⟩) id) n,
   λc h f=>(b.own c (a.has c h) (by rw[a.own c h f];exact f)).trans (a.own c h f),λc h=>b.has c (a.has c h),λc ps h=>let⟨p1,aq⟩:=a.cL c ps h;b.cL c p1 aq,λg=>b.b4 (a.b4 g),
   a.bK.trans b.bK,λc m=>(b.new c m).elim (a.new c) λz=>.inr (by cases e:H c with|none=>rfl|some o=>exact absurd z (a.has c (ib e)))⟩
def gu.jv(g:gu O ai H H'):fl O ai H H':=⟨λb o e h n=>g.cells b o e (h.imp (λz=>⟨.inl z.1,z.2.1⟩) id) n,λb a e f=>(g.own b (ib e) (.inl f)).trans f,g.bK⟩
def fl.AD(g:fl O ai H H')(h:dB K H a ys):dB K H' a ys:=by
 rcases h with(h|⟨o,h⟩)|h
 .exact .inl (.inl (g.cells _ _ h (.inr (.inl ⟨_,rfl⟩))))
 .exact .inl (.inr ⟨o,g.cells _ _ h (.inr (.inr ⟨_,_,rfl⟩))⟩)
 .exact .inr h
omit [aA.a0]in
theorem jk.no(r:jk O)(h:O a=w)(hw:w≠.out):a∉O.bK:=λm=>hw (h.symm.trans (r.2 a m))
mutual
theorem Rep.jv(g:fl O ai H H')(rh:jk O):∀{d:D}{v:V},Rep K mg O H d v->Rep K mg ai H' d v
 |.aH,_,h=>h|.av _,_,h=>h|.int _,_,h=>h|.str _,_,h=>h| .t _,_,h=>by obtain⟨a,b,q,l,r⟩:=h;exact⟨a,b,q,g.AD l,bh.jv g rh r⟩
 |.l _,_,h=>by obtain⟨a,b,q,l,r⟩:=h;exact⟨a,b,q,⟨g.cells _ _ l.1 (.inl ⟨l.2,rh.no l.2 (by intro z;cases z),_,rfl⟩),g.own a _ l.1 l.2⟩,bh.jv g rh r⟩
 |.ref _,_,h=>by
  obtain⟨a,q,l⟩:=h;obtain⟨t,e⟩:=g.bK;exact⟨a,q,by rw[<-e,alz (ak8.mp l).1];exact l⟩
 |.fn _,_,h=>h|.ty _,_,h=>h
theorem bh.jv(g:fl O ai H H')(rh:jk O):∀{ds:List D}{c:List V},bh K mg O H ds c->bh K mg ai H' ds c
 |[],_,h=>h| _::_,_,h=>by obtain⟨x,r,q,a,b⟩:=h;exact⟨x,r,q,Rep.jv g rh a,bh.jv g rh b⟩
end
def bh.d_(g:gu O o H H')(rh:jk O)(h:bh K mg O H ds ys):bh K mg o H' ds ys:=h.jv g.jv rh
def Rep.dx(g:ep O o H H')(rh:jk O){v:V}(h:Rep K mg O H d v):Rep K mg o H' d v:=h.jv g.d_.jv rh
def bh.dx(g:ep O o H H')(rh:jk O)(h:bh K mg O H ds ys):bh K mg o H' ds ys:=h.d_ g.d_ rh
def R.hk:R->Bool
 |.v _=>true|.fr _=>true|_=>false
def ek.dx(g:ep O C H H')(rh:jk O){r:R}{v:V}(aw:r.hk=true)(h:ek K mg O H r v):ek K mg C H' r v:=by
 cases r with
 |v d=>exact Rep.dx g rh h| fr xs=>obtain⟨a,b,q,l,o,r⟩:=h;exact⟨a,b,q,g.cells _ _ l (.inl (rh.no o (by intro z;cases z))),(g.own a (ib l)).trans o,r.dx g rh⟩
 |b5 xs=>cases aw
 |mv xs=>cases aw
def iH.dx(g:ep O C H H'):∀{r:R}{v:V},iH H' r v->iH H r v
 |.v _,_,_=>trivial|.b5 _,_,_=>trivial|.mv _,_,_=>trivial|.fr _,_,h=>λa e=>by
  cases aq:H a with
  |none=>rfl|some o=>exact absurd (h a e) (g.has a (ib aq))
def q3(K:aN)(O:a5)(H:au)(a:Addr)(b:List V):Prop:=(hE H a (.l b)/\(O a=.free\/O a=.out)/\a∉O.bK)\/Bv K a b
structure dA(K:aN)(mg:bp)(O:a5)(U:aG)(S:bG)(ak:St)(H:au):Prop where
 s3:cC K mg O U S ak H
 full:O.bK.length=S.length
 qS:∀(i:Nat)(xs:List D),U[i]? = some (.b5 xs)->∃a ys,ak[i]?.join=some (.ref a)/\q3 K O H a ys/\bh K mg O H xs ys
def q3.d_(g:gu O C H H')(h:q3 K O H a ys):q3 K C H' a ys:=by
 rcases h with⟨h,f,m⟩|h
 .have b:=hE.some h
  refine .inl ⟨?_,by rw[g.own a b f];exact f,λz=>(g.new a z).elim m b⟩;rcases h with h|⟨o,h⟩
  .exact .inl (g.cells _ _ h (.inl ⟨f,m⟩))
  .exact .inr ⟨o,g.cells _ _ h (.inl ⟨f,m⟩)⟩
 .exact .inr h
def q3.v(h:q3 K O H a ys):hY K O H a ys:=h.imp (λz=>⟨z.1,z.2.1⟩) id
def dA.go(s:dA K mg O U S C H)(g:Go O o H H')(d:df o H'):dA K mg o U S C H':=
 ⟨s.s3.go g d,by rw[g.bK];exact s.full,λi xs e=>by obtain⟨a,b,aq,l,r⟩:=s.qS i xs e;exact⟨a,b,aq,l.d_ g.b1.d_,r.go g⟩⟩
def dA.b1(s:dA K mg O U S I H)(g:ej O o H H')(k:eU U U' I C)(t:cC K mg o U' S C H'):dA K mg o U' S C H':=
 ⟨t,by rw[g.bK];exact s.full,λi xs e=>by
  obtain⟨b,c⟩:=k.1 i xs e;obtain⟨a,d,aq,l,r⟩:=s.qS i xs b;exact⟨a,d,by rw[c];exact aq,l.d_ g.d_,bh.b1 g r⟩⟩
def dA.dx(s:dA K mg O U S ak H)(g:ep O C H H')(d:df C H')(dQ:fN K mg C H' I)(c:C.bK.length=I.length):dA K mg C U I ak H':=by
 have rh:=s.s3.cm.rh;have b5:∀(i:Nat)(xs:List D),U[i]? = some (.b5 xs)->∃a b,ak[i]?.join=some (.ref a)/\q3 K C H' a b/\bh K mg C H' xs b:=λi xs e=>by
  obtain⟨a,b,aq,l,r⟩:=s.qS i xs e;exact⟨a,b,aq,l.d_ g.d_,r.dx g rh⟩
 refine⟨⟨d,s.s3.len,λi t e=>?_,dQ⟩,c,b5⟩;have l:=s.s3.loc i t e
 cases t with
 |e=>exact trivial|v d=>obtain⟨v,q,r⟩:=l;exact⟨v,q,r.dx g rh⟩
 |dO p xs=>obtain⟨a,b,q,o,l,r⟩:=l;exact⟨a,b,q,(g.own a (ib l)).trans o,g.cells _ _ l (.inl (rh.no o (by intro z;cases z))),r.dx g rh⟩
 |b5 xs=>obtain⟨a,b,aq,l,r⟩:=b5 i xs e;exact⟨a,b,aq,l.v,r⟩
end
inductive sU{α:Type}(K:aN)(mg:bp)(m:aG->N α)(ak:St)(H:au)(P:a5->aG->bG->α->Prop):Prop
 |mk (O:a5) (U:aG) (S:bG) (x:α) (ah:bG) (st:dA K mg O U S ak H) (h:(m U).run S=.ok x ah) (q:P O U ah x):sU K mg m ak H P
def xT(K:aN)(mg:bp)(m:d3):TE:=λc H Q=>sU K mg m c H λO U d r=>∀b v a,ep O b H a->dA K mg b U d c a->ek K mg b a r v->iH H r v->Q v a
def G4(K:aN)(mg:bp)(m:aG->N Bool):TT:=λd H Q=>sU K mg m d H λO U e b=>∀c a,ep O c H a->dA K mg c U e d a->Q b a
def G1(K:aN)(mg:bp)(m:gS):fV:=λc H Q=>sU K mg m c H λO U d rs=>∀b vs a,ep O b H a->dA K mg b U d c a->i3 K mg b a rs vs->kj H rs vs->Q vs a
def vl(K:aN)(mg:bp)(O:a5)(d:bG)(H:au)(f:fR)(e:Ends):Prop:=match f with
 |.bA U'=>∀b c a,gu O b H a->dA K mg b U' d c a->e.bA c a|.bk U'=>∀b c a,gu O b H a->dA K mg b U' d c a->e.bk c a|.cz U'=>∀b c a,gu O b H a->dA K mg b U' d c a->e.cz c a|.b9 r=>∀b v a,gu O b H a->df b a->fN K mg b a d->b.bK.length=d.length->BB K mg b a r v->e.b9 v a
def vl.d_{O d:a5}(h:vl K mg O C H o I)(g:gu O d H H1):vl K mg d C H1 o I:=by
 cases o with
 |bA U'=>exact λb c a g'=>h b c a (g.trans g')
 |bk U'=>exact λb c a g'=>h b c a (g.trans g')
 |cz U'=>exact λb c a g'=>h b c a (g.trans g')
 |b9 r=>exact λb v a g'=>h b v a (g.trans g')
def n7(K:aN)(mg:bp)(m:b0):gQ:=λd c H=>sU K mg m c H λO _ b a=>vl K mg O b H a d
section
variable(X:aQ)
structure eV(e:Expr)(m:d3):Prop where
 un:b6 X e (xT X.K X.mg m)
structure jN(e:Expr)(m:aG->N Bool):Prop where
 un:iq X e (G4 X.K X.mg m)
structure sX(e:Expr)(m:aG->N Bool):Prop where
 un:k0 X e (G4 X.K X.mg m)
structure jM(az:List Expr)(m:gS):Prop where
 un:g9 X az (G1 X.K X.mg m)
structure fW(st:Stmt)(m:b0):Prop where
 un:iJ X st (n7 X.K X.mg m)
structure ir(uU:List Stmt)(m:b0):Prop where
 un:ip X uU (n7 X.K X.mg m)
end
def c6(m:bt):d3:=λU=>(m U).up
def gd(m:aG->M Bool):aG->N Bool:=λU=>(m U).up
def dE(m:cP):gS:=λU=>(m U).up
def bU(m:aM):b0:=λU=>(m U).up
section
variable{X:aQ}{e:Expr}{az:List Expr}{m:bt}{t:aG->M Bool}{ms:cP}{b:aM}{st:Stmt}{uU:List Stmt}
theorem ah9(h:bb X e m):eV X e (c6 m):=⟨eb h.un λk H Q i=>by
 obtain⟨O,U,S,r,a,st,h,q⟩:=i;obtain rfl:=(m U).e3 _ _ _ h;exact⟨O,U,a,r,a,st.s3,h,λf v d c g j nn=>q f v d c.dx (st.go c g.cm) j nn⟩⟩
theorem aip(h:fo X e t):jN X e (gd t):=⟨sj h.un λj H Q i=>by
 obtain⟨O,U,S,r,a,st,h,q⟩:=i;obtain rfl:=(t U).e3 _ _ _ h;exact⟨O,U,a,r,a,st.s3,h,λf d c g=>q f d c.dx (st.go c g.cm)⟩⟩
theorem ah1(h:gw X az ms):jM X az (dE ms):=⟨uF h.un λk H Q i=>by
 obtain⟨O,U,S,r,a,st,h,q⟩:=i;obtain rfl:=(ms U).e3 _ _ _ h;exact⟨O,U,a,r,a,st.s3,h,λf v d c g j nn=>q f v d c.dx (st.go c g.cm) j nn⟩⟩
theorem Rh:∀D i H,n7 K mg (bU b) D i H->kL K mg b D i H:=by
 rintro D i H ⟨O,U,S,j,l,st,h,q⟩;obtain rfl:=(b U).e3 _ _ _ h;refine⟨O,U,l,j,l,st.s3,h,?_⟩
 cases j with
 |bA U'=>exact λc f a g t k=>q c f a g.d_ (st.b1 g k t)
 |bk U'=>exact λc f a g t k=>q c f a g.d_ (st.b1 g k t)
 |cz U'=>exact λc f a g t k=>q c f a g.d_ (st.b1 g k t)
 |b9 r=>exact λc v a g d dQ n=>q c v a g.d_ d dQ (by rw[g.bK];exact st.full) n
def aih(h:fE X st b):fW X st (bU b):=⟨gZ h.un Rh⟩
def Rm(h:hH X uU b):ir X uU (bU b):=⟨Ao h.un Rh⟩
end
end aC
namespace aC
open PySem PySem.Spec aA
def bF(a b:b0):b0:=λU=>do
 let c <-a U
 match c with
 |.bA U'=>b U'|c=>pure c
def fA(t:aG->N Bool)(a b:b0):b0:=λU=>do
 let t <-t U
 if t=true then a U else b U
def sG(i:Nat)(m:d3):b0:=λU=>do
 let r <-m U
 let d <-r.dat.up
 pure (.bA (U.set i (.v d)))
def gN(m:d3):b0:=λU=>do
 let r <-m U
 match r with
 |.v d=>pure (.b9 (.v d))|.fr xs=>pure (.b9 (.fr xs))|_=>gG
def lE(m:d3):b0:=λU=>do
 let _ <-m U
 pure (.bA U)
variable[aA.a0]
section
variable{K:aN}{mg:bp}{O p2:a5}{H H₀:au}{S:bG}{U:aG}{ak:St}
def dA.cN(s:dA K mg O U S ak H)(H₀:au):dA K mg (cN H₀ O) U S ak H:=⟨s.s3.cN H₀,s.full,λi xs e=>by
 obtain⟨a,b,aq,l,r⟩:=s.qS i xs e;refine⟨a,b,aq,l.imp (λz=>⟨z.1,?_,z.2.2⟩) id,r.dd (i7 _ _)⟩;rcases z.2.1 with f|f
 .exact .inl ((i7 H₀ O).fr a f)
 .exact .inr (by rw[rD (by rw[f];intro z;cases z)];exact f)⟩
def ep.cN(g:ep p2 O H₀ H):ep p2 (cN H₀ O) H₀ H:=⟨λb o e h n=>g.cells b o e h n,λb a=>(Dk a).trans (g.own b a),g.has,g.cL,g.b4,g.bK,g.new⟩
def dA.set{s:Slot}{v:V}(st:dA K mg O U S ak H)(aw:∀xs,s≠.b5 xs)(h:jl K mg O H (.loc i) s (some v)):dA K mg O (U.set i s) S (ak.set i (some v)) H:=⟨st.s3.set h,st.full,λj xs e=>by
 by_cases a:i=j
 .subst a
  rw[alA (by have:=(ak8.mp e).1;rwa[alS]at this)]at e;exact absurd (alE e) (aw xs)
 .rw[ale a]at e
  rw[ale a];exact st.qS j xs e⟩
end
section
variable{X:aQ}{st:Stmt}{rest A B:List Stmt}{pos pos':Pos}{a b:b0}{e c:Expr}{m:d3}{t:aG->N Bool}{i:Nat}{x:Str}
def ain(h:fW X st a):ir X [st] a:=⟨PI h.un⟩
def aim(d:fW X st a)(s:ir X rest b):ir X (st::rest) (bF a b):=⟨Ao (PH d.un s.un) λD z H p=>by
 obtain⟨O,U,S,n,u,st,h,q⟩:=p;obtain⟨j,g,d,h⟩:=N.inv h;refine⟨O,U,S,j,g,st,d,?_⟩
 cases j with
 |bA f=>exact λk E y w l=>⟨k,f,g,n,u,l,h,q.d_ w⟩
 |b9 r=>cases h;exact q
 |bk f=>cases h;exact q
 |cz f=>cases h;exact q⟩
theorem aie(u:jN X c t)(s:ir X A a)(p:ir X B b):fW X (.If c A B pos) (fA t a b):=⟨gZ (PF u.un s.un p.un) λD y H n=>by
 obtain⟨O,U,S,j,k,st,h,q⟩:=n;obtain⟨t,d,r,h⟩:=N.inv h;refine⟨O,U,S,t,d,st,r,λf w l g=>?_⟩
 cases t with
 |false=>
  exact nA ⟨f,U,d,j,k,g,h,q.d_ l.d_⟩
 |true=>
  exact nB ⟨f,U,d,j,k,g,h,q.d_ l.d_⟩⟩
theorem aii(he:eV X e m):fW X (.Return (some e) pos) (gN m):=⟨gZ (FU he.un) λD y H p=>by
 obtain⟨O,U,S,u,w,st,h,q⟩:=p;obtain⟨r,n,s,h⟩:=N.inv h;refine⟨O,U,S,r,n,st,s,λj v g l f k nn=>?_⟩
 cases r with
 |v d=>cases h;exact q j v g l.d_ f.s3.cm f.s3.gK f.full k
 |fr xs=>cases h;exact q j v g l.d_ f.s3.cm f.s3.gK f.full (Qd k (.inr ⟨_,rfl⟩))
 |b5 xs=>cases h
 |mv xs=>cases h⟩
theorem aic(he:eV X e m)(aw:amI e none pos.line X.env=pure false:=by rfl):fW X (.Expr e pos) (lE m):=⟨gZ (FT he.un aw) λD l H j=>by
 obtain⟨O,U,S,s,u,st,h,q⟩:=j;obtain⟨r,p,k,h⟩:=N.inv h;cases h;exact⟨O,U,S,r,_,st,k,λf v d n g w nn=>q f l d n.d_ g⟩⟩
theorem aij(hN:X.N.Nodup)(hi:X.N[i]? = some x)(s:Loc X.env.scope x)(he:eV X e m)(aw:amI e (some (.Name x pos')) pos.line X.env=pure false:=by rfl)(y:X.fn x=true\/X.env.scope.names.lookup x=some .local:=by first|exact .inl rfl|exact .inr rfl|assumption) :
  fW X (.Assign [.Name x pos'] e pos) (sG i m):=⟨gZ (FV hN hi s he.un aw y) λD J H l=>by
 obtain⟨O,U,S,E,G,st,h,q⟩:=l;obtain⟨r,g,n,h⟩:=N.inv h;obtain⟨d,F,p,h⟩:=N.inv h;cases h;refine⟨O,U,S,r,g,st,n,λj v f w k u nn=>?_⟩;obtain⟨c_,rfl⟩:=rp u nn p;exact q (cN H j) _ f w.cN.d_ ((k.cN H).set (λxs z=>by cases z) ⟨v,rfl,c_⟩)⟩
end
def Hj(b:il)(O:a5)(H:au)(c:List V):Prop:=∀e a,gu O e H a->∀i,(i<c.length->b.go i a/\∀x d,b.pT i a x d->d=a/\c[i]? = some x)/\(c.length<=i->b.stop i a)
def GG(K:aN)(mg:bp)(m:fB):TI:=λc H R=>sU K mg (λU=>(m U).up) c H λO U f xs=>∀b a d e,Go O b H a->dA K mg b U f c a->Hj d b a e->bh K mg b a xs e->R d a
structure BM(X:aQ)(cg e:Expr)(m:fB):Prop where
 un:jK X cg e (GG X.K X.mg m)
def n6(b:D->b0):List D->b0
 |[]=>λU=>pure (.bA U)
 |d::ds=>λU=>do
  let a <-b d U
  match a with
  |.bA U'=>n6 b ds U'|.cz U'=>n6 b ds U'|.bk U'=>pure (.bA U')|.b9 r=>pure (.b9 r)
def Q_(B:D->b0)(it:fB):b0:=λU=>do
 let ds <-(it U).up
 n6 B ds U
abbrev xP(i:Nat)(it:fB)(b:b0):b0:=Q_ (λd U=>b (U.set i (.v d))) it
section
variable{X:aQ}{cg iter:Expr}{m:bt}{a:Expr}{ms:cP}{pos p d9:Pos}{it:fB}{bd:b0}{body:List Stmt}{i:Nat}{x:Str}
theorem ZH{O:a5}(lo:Int)(n:Nat):Hj (mU lo n) O H (mB lo n):=λc b _ i=>zm lo n b (eD.refl _) i
def aib(k:ee X "range")(hm:X.mg "range"=none)(r:gw X [a] ms)(aw:alJ [a] X.env=[(false,eval a X.env)]:=by rfl):BM X cg (.Call (.Name "range" p) [a] [] pos) (gV ms):=⟨pk (FP k hm r.un aw) λw H R n=>by
 obtain⟨O,U,S,xs,u,st,h,q⟩:=n;obtain rfl:=(gV ms U).e3 _ _ _ h;obtain⟨rs,b,d,h⟩:=M.inv h;obtain rfl:=(ms U).e3 _ _ _ d;split at h
 .rename_i j
  by_cases c:-(2 ^ 62)<=j/\j<2 ^ 62
  .rw[if_pos c]at h
   cases h;refine⟨O,U,b,_,b,st.s3,d,λg vs f e l t nn=>?_⟩;obtain⟨v,rfl,s⟩:=kI t;cases(show v=.int j from s);exact⟨j,rfl,c.1,c.2,q g f (mU 0 j.toNat) (mB 0 j.toNat) e (st.go e l.cm) (ZH _ _) (Ga _ _)⟩
  .rw[if_neg c]at h;cases h
 .cases h⟩
theorem aaI{K:aN}{mg:bp}{H:il}{G:iL}{B:aC.D->b0}{b:List aC.D}{w:a5}{U:aG}{O F:bG}{S:St}{u:au}{E:fR}{W:Ends}(Y:dA K mg w U O S u)(stop:∀g c,gu w g u c->H.stop b.length c)
  (step:∀k d g c U' s y f l,b[k]? = some d->gu w g u c->dA K mg g U' s y c->(B d U').run s=.ok f l->H.go k c/\∀x j (R:St->au->Prop),H.pT k c x j->
   (∀M Q J,gu g g c J->dA K mg g M s Q J->(bd M).run s=.ok f l->R Q J)->G x y j R)
  (h:(n6 B b U).run O=.ok E F) (q:vl K mg w F u E W):xx (λ_ _ R=>R H u) G (n7 K mg bd) W S u:=by
 refine⟨λk m y c=>m=b.length-k/\k<=b.length/\∃g U' s,dA K mg g U' s y c/\gu w g u c/\(n6 B (b.drop k) U').run s=.ok E F,
  ⟨_,rfl,alX _,w,U,O,Y,(ej.refl _ _).d_,h⟩,?_⟩
 rintro k m y c ⟨rfl,ar,g,U',s,V,g',h⟩
 cases e:b.drop k with
 |nil=>
  obtain rfl:k=b.length:=by
   have:=congrArg amO e;rw[amb,amm]at this;omega
  rw[e]at h;cases h;exact .inl ⟨stop g c g',q g y c g' V⟩
 |cons d ks=>
  have fw:k<b.length:=by
   have:=congrArg amO e;rw[amb,alP]at this;omega
  have eK:b[k]? = some d:=by
   have:=congrArg (·[0]?) e;simpa using this
  have T:b.drop (k+1)=ks:=by
   simpa using congrArg (List.drop 1) e
  rw[e]at h;obtain⟨P,l,o,h⟩:=N.inv h;obtain⟨go,mK⟩:=step k d g c U' s y P l eK g' V o;refine .inr ⟨go,λA j=>∃n t l,dA K mg n t l A j/\gu w n u j/\(n6 B (b.drop (k+1)) t).run l=.ok E F,?_,λx j kS=>mK x j _ kS λM Q J rF sq Z=>?_⟩
  .rintro A j ⟨n,t,l,a1,a2,gy⟩
   exact⟨_,by omega,rfl,fw,n,t,l,a1,a2,gy⟩
  .refine⟨g,M,s,P,l,sq,Z,?_⟩
   have L:=g'.trans rF
   cases P with
   |bA t=>exact λn A j z bM=>⟨n,t,l,bM,L.trans z,by rw[T];exact h⟩
   |cz t=>exact λn A j z bM=>⟨n,t,l,bM,L.trans z,by rw[T];exact h⟩
   |bk t=>cases h;exact λn A j z bM=>q n A j (L.trans z) bM
   |b9 r=>cases h;exact λn v j z I aE f2 C=>q n v j (L.trans z) I aE f2 C
theorem Vx{G:iL}{B:aC.D->b0}(Y:∀O U S b H d y f j Q,dA K mg O U S b H->Rep K mg O H d y->(B d U).run S=.ok f j->(∀n r,dA K mg O n S r H->(bd n).run S=.ok f j->Q r H)->G y b H Q) :
  ∀D b H,n7 K mg (Q_ B it) D b H->xx (GG K mg it) G (n7 K mg bd) D b H:=by
 rintro D b H ⟨O,U,S,I,ah,st,h,q⟩;obtain⟨ds,w,E,h⟩:=N.inv h;refine⟨O,U,S,ds,w,st,E,λC o ct ys P s c u=>aaI s (λl e g=>(c l e g _).2 (anQ u.len)) (λk d l e U' e9 cV f j M g' L F=>?_) h (q.d_ P.b1.d_)⟩;obtain⟨y,t,J⟩:=(u.d_ g' s.s3.cm.rh).get M;obtain⟨go,W⟩:=(c l e g' k).1 (ak8.mp t).1;refine⟨go,λx z R V T=>?_⟩;obtain⟨rfl,ex⟩:=W x z V;rw[t]at ex;cases ex;exact Y _ _ _ _ _ _ _ _ _ _ L J F λn r Z A=>T _ _ _ (ej.refl _ _).d_ Z A
def aid(b:aoF (model X.prog X.w) X.A X.env X.dS)(f:X.calm=true)(hi:BM X (.Name x d9) iter it)(hN:X.N.Nodup)(d:X.N[i]? = some x)(hl:Loc X.env.scope x)(c:ir X body bd)
  (aw:k4 X iter:=by intro _;rfl) (g:X.fn x=true\/X.env.scope.names.lookup x=some .local:=by first|exact .inl rfl|exact .inr rfl|assumption):fW X (.For (.Name x d9) iter body [] pos) (xP i it bd):=
 ⟨gZ (PE b f hi.un (sh hN d hl g) c.un aw) (Vx λ_ _ _ _ _ _ _ _ _ _ st e h k=>k _ _ (st.set (s:=.v _) (λxs z=>by cases z) ⟨_,rfl,e⟩) h)⟩
end
end aC
namespace aC
open PySem PySem.Spec aA
def fnX(n N:Nat)(b:b0):dC:=λds=>if ds.length=n then do
  let a <-b (ds.map b7++alp (N-n) .e)
  match a with
  |.b9 (.v d)=>pure (.v d)|.b9 (.fr xs)=>pure (.fr xs)|.bA _=>pure (.v .aH)|_=>gG
 else gG
def Df{n N:Nat}{ds:List D}{S a:bG}{r:R}(h:(fnX n N b ds).run S=.ok r a):ds.length=n:=by
 unfold fnX at h
 by_cases c:ds.length=n
 .exact c
 .rw[if_neg c]at h;cases h
def ka:gS:=λ_=>pure []
def gs(m:d3)(ms:gS):gS:=λU=>do
 let x <-m U
 let xs <-ms U
 if x.hk=true then pure (x::xs)else gG
def kQ(m:d3)(ms:cP):gS:=λU=>do
 let x <-m U
 let xs <-(ms U).up
 pure (x::xs)
def iZ(mf:dC)(ms:gS):d3:=λU=>do
 let rs <-ms U
 if rs.all R.hk=true then mf (rs.map R.arg)else gG
def dF(c m:Str)(mf:dC)(mo:bt)(ms:gS):d3:=λU=>do
 let x <-(mo U).up
 let o <-(hj x).up
 match o with
 |.ba c' aX=>if c'=c/\aX.lookup m=none then(do
  let rs <-ms U
  if rs.all R.hk=true then mf (x.arg::rs.map R.arg)else gG)else gG
 |_=>gG
def kR(c:Str)(mf:dC)(ms:gS):d3:=λU=>do
 let rs <-ms U
 if rs.all R.hk=true then(do
  let S <-y3
  putN (S++[.ba c []])
  let r <-mf (.ref S.length::rs.map R.arg)
  match r with
  |.v .aH=>pure (.v (.ref S.length))| _=>gG)else gG
variable[aA.a0]
def pV(K:aN)(mg:bp)(O:a5)(H:au):D->V->Prop
 |.l xs,v=>∃a b,v=.ref a/\((hE H a (.l b)/\a∉O.bK)\/Bv K a b)/\bh K mg O H xs b|d,v=>Rep K mg O H d v
def mO(K:aN)(mg:bp)(O:a5)(H:au):List D->List V->Prop
 |[],ys=>ys=[]|x::xs,ys=>∃y r,ys=y::r/\pV K mg O H x y/\mO K mg O H xs r
section
variable{K:aN}{mg:bp}{O:a5}{H:au}{S:bG}
def pV.rep{v:V}(rh:jk O)(h:Rep K mg O H d v):pV K mg O H d v:=by
 cases d with
 |l xs=>obtain⟨a,b,e,l,r⟩:=h;exact⟨a,b,e,.inl ⟨.inl l.1,rh.no l.2 (by intro z;cases z)⟩,r⟩
 |_=>exact h
def Sb{r:R}{v:V}(rh:jk O)(aw:r.hk=true)(h:ek K mg O H r v):pV K mg O H r.arg v:=by
 cases r with
 |v d=>exact pV.rep rh h| fr xs=>obtain⟨a,b,e,l,t,r⟩:=h;exact⟨a,b,e,.inl ⟨.inl l,rh.no t (by intro z;cases z)⟩,r⟩
 |b5 _=>cases aw
 |mv _=>cases aw
theorem yn(rh:jk O):∀{rs:List R}{vs:List V},rs.all R.hk=true->i3 K mg O H rs vs->mO K mg O H (rs.map R.arg) vs
 |[],_,_,h=>h|_::_,_,aw,h=>by
  rw[anE,alC]at aw;obtain⟨y,r,q,a,b⟩:=h;exact⟨y,r,q,Sb rh aw.1 a,yn rh aw.2 b⟩
def pV.r{v:V}(h:pV K mg O H d v):u_ K mg O H d v:=by
 cases d with
 |l xs=>obtain⟨a,b,e,l,r⟩:=h;exact⟨a,b,e,l.imp (·.1) id,r⟩
 |_=>exact h
theorem mO.r:∀{ds:List D}{vs:List V},mO K mg O H ds vs->lH K mg O H ds vs
 |[],_,h=>h| _::_,_,h=>by obtain⟨y,r,q,a,b⟩:=h;exact⟨y,r,q,a.r,mO.r b⟩
theorem mO.get:∀{ds:List D}{xs:List V}{i:Nat}{d:D},mO K mg O H ds xs->ds[i]? = some d->∃x,xs[i]? = some x/\pV K mg O H d x
 |[],_,_,_,_,e=>by simp at e| _::_,_,0,d,h,e=>by obtain⟨x,r,rfl,a,_⟩:=h;cases(show some _=some d from e);exact⟨x,rfl,a⟩
 |_::ds,_,i+1,d,h,e=>by
  obtain⟨x,r,rfl,_,b⟩:=h;obtain⟨y,aq,aE⟩:=mO.get b e;exact⟨y,by simpa using aq,aE⟩
def hx(K:aN)(mg:bp)(mf:dC):en:=λvs H Q _=>∃O ds r S c,df O H/\fN K mg O H S/\O.bK.length=S.length/\mO K mg O H ds vs/\(mf ds).run S=.ok r c/\
 ∀b v a,ep O b H a->df b a->fN K mg b a c->b.bK.length=c.length->ek K mg b a r v->iH H r v->Q v a
def afF{ps N:List Str}{ds:List D}(h:df O H)(dQ:fN K mg O H S)(f:O.bK.length=S.length)(b:mO K mg O H ds vs)(hl:ds.length=ps.length):dA K mg (dK O) (ds.map b7++alp (N.length-ps.length) .e) S (aA.start N vs) H:=by
 refine⟨Gq h dQ b.r hl,f,λi xs e=>?_⟩
 by_cases hi:i<ds.length
 .rw[alz (by rw[ala];exact hi),alr]at e
  cases o:ds[i]? with
  |none=>rw[o]at e;cases e
  |some d=>
   rw[o]at e;obtain⟨v,c,g⟩:=b.get o
   cases d with
   |l k=>
    cases e;obtain⟨a,j,rfl,l,r⟩:=g;refine⟨a,j,?_,l.imp (λz=>⟨z.1,k6 O a,z.2⟩) id,r.dd (jO O)⟩;unfold aA.start;rw[alz (by rw[ala];exact(ak8.mp c).1),alr,c];rfl
   |_=>cases e
 .rw[alw (by rw[ala];omega),amA]at e
  split at e
  .cases e
  .cases e
def TO{L:b0}{Q:cI}{s:bG}{r:R}(F:df O H)(N:dA K mg (dK O) U S I H)(T:(L U).run S=.ok C s)(h:Bp C r)(q:∀c v f,ep O c H f->df c f->fN K mg c f s->c.bK.length=s.length->ek K mg c f r v->iH H r v->Q v f):n7 K mg L { bA:=fun _ f=>Q .aH f,b9:=Q } I H:=by
 have back:∀{c:a5}{f:au},gu (dK O) c H f->df c f->∃k:a5,ep O k H f/\df k f/\lK c k/\∀b,(c b=.dI\/∃i,c b=.loc i)->H b=none/\k b=.dI:=λ{c f} g d=>by
  have G:∀b,H b≠none->(match H b with|some _=>O b|none=>(match c b with|.loc _=>.dI|o=>o))=O b:=λb j=>by
   cases e:H b with
   |none=>exact absurd e j|some o=>rfl
  have B:∀b,H b=none->(match H b with|some _=>O b|none=>(match c b with|.loc _=>.dI|o=>o))=(match c b with|.loc _=>Own.dI|o=>o):=λb j=>by rw[j]
  refine⟨⟨λb=>match H b with|some _=>O b|none=>(match c b with|.loc _=>.dI|o=>o),c.bK⟩,⟨λb o e h n=>g.cells b o e (h.imp (λz=>⟨k6 O b,z⟩) id) n,G,g.has,g.cL,g.b4,g.bK,g.new⟩,⟨λb j=>?_,d.tabs,d.rh.1,λb m=>?_⟩,⟨λb j=>?_,rfl⟩,λb j=>?_⟩
  .cases e:H b with
   |some o=>exact g.has b (ib e)|none=>
    refine d.has b λz=>j ?_
    refine(B b e).trans ?_;rw[z]
  .rcases g.new b m with z|z
   .exact(G b (F.has b (by rw[F.rh.2 b z];intro z;cases z))).trans (F.rh.2 b z)
   .refine(B b z).trans ?_
    rw[d.rh.2 b m]
  .cases e:H b with
   |some o=>exact(G b (ib e)).trans (oj.mp ((g.own b (ib e) (k6 O b)).symm.trans j))|none=>
    refine(B b e).trans ?_;rw[j]
  .have u:H b=none:=by
    cases e:H b with
    |none=>rfl|some o=>
     exfalso;have bB:=g.own b (ib e) (k6 O b);rcases k6 O b with z|z<;>rw[z]at bB<;>rcases j with w|⟨i,w⟩<;>rw[bB]at w<;>cases w
   refine⟨u,(B b u).trans ?_⟩;rcases j with w|⟨i,w⟩<;>rw[w]
 refine⟨dK O,_,S,C,s,N,T,?_⟩
 cases C with
 |bA U'=>
  cases h;intro c cV f g E;obtain⟨k,A,y,p,_⟩:=back g E.s3.cm;exact q k .aH f A y (E.s3.gK.all (λ_ _ z=>Rep.dd p z) p.bK λ_ _ _ l _=>l) (by rw[p.bK];exact E.full) rfl trivial
 |bk U'=>cases h
 |cz U'=>cases h
 |b9 V=>
  intro c v f g d D P x;obtain⟨k,A,y,p,Y⟩:=back g d;have M:=D.all (λ_ _ z=>Rep.dd p z) p.bK λ_ _ _ l _=>l
  have J:k.bK.length=s.length:=by rw[p.bK];exact P
  cases V with
  |v dG=>cases h;exact q k v f A y M J (Rep.dd p x) trivial
  |fr xs=>
   cases h;obtain⟨a,ys,rfl,l,t,Z⟩:=x;obtain⟨u,W⟩:=Y a t;exact q k _ f A y M J ⟨a,ys,rfl,l,W,Z.dd p⟩ λb X=>by cases X;exact u
  |b5 xs=>exact alV x|mv xs=>exact alV x
theorem JA{ps N:List Str}(k:hx K mg (fnX ps.length N.length o) vs H Q E):n7 K mg o { bA:=λ_ d=>Q .aH d,b9:=Q } (aA.start N vs) H:=by
 obtain⟨O,ds,r,S,g,b,dQ,c,j,h,q⟩:=k;have hl:=Df h;unfold fnX at h;rw[if_pos hl]at h;obtain⟨a,e,f,h⟩:=aC.N.inv h;obtain⟨l,rfl⟩:Bp a r/\e=g:=by cases a with|b9 i=>cases i<;>cases h<;>exact⟨rfl,rfl⟩|_=>cases h<;>exact⟨rfl,rfl⟩
 exact TO b (afF b dQ c j hl) f l q
end
structure x4(K:aN)(mg:bp)(c m qual:Str)(st:Stmt)(ps:List Str):Prop where
 ex:∃C f fd,mg c=some (.ref C)/\i0 K C/\Meth K C m f/\kX K m qual st f fd/\Binds K fd ps []
structure kh(P:aly)(w:World)(K:aN)(mg:bp)(base:Heap)(c m:Str)(ps:List Str)(k:Nat)(sp:en):Prop where
 ex:∃C f fd,mg c=some (.ref C)/\i0 K C/\Meth K C m f/\e6 P w K mg base eC k f fd ps sp/\Binds K fd ps []
section
variable{P:aly}{w:World}{K:aN}{mg:bp}{base:Heap}{x c m qual:Str}{st:Stmt}{ps N:List Str}{k:Nat}{cK:b0}{n nl:Nat}{f:Addr}{fd:ame}
def Dg(F:kX K x qual st f fd)(b:g8 N ps (dm st))(d:ps.length=n)(hl:N.length=nl)
  (g:∀(a:Value)(A:alI)(outer:List Env)(s:alc)(H:au)(E:gx),cB k (A.deeper (amc qual (dm st) s.heap.objs.size f a))->
   ir (ha eC P w K mg base N qual (dm st) f a A outer s H E).gI (fO st) cK):e6 P w K mg base eC (k+1) f fd ps (hx K mg (fnX n nl cK)):=by
 subst d hl;exact F.ok b (λvs H Q E ⟨O,ds,r,S,p,t,dQ,l,i,h,q⟩=>i.r.len.trans (Df h)) λa A outer s H vs Q E e j=>⟨_,(g a A outer s H E e).un,JA j⟩
theorem Wt(g7:g7 K mg x st ps)(d:g8 N ps (dm st))(e:ps.length=n)(hl:N.length=nl)
  (g:∀(f:Addr)(a:Value)(A:alI)(outer:List Env)(s:alc)(H:au)(E:gx),cB k (A.deeper (amc x (dm st) s.heap.objs.size f a))->
   ir (ha eC P w K mg base N x (dm st) f a A outer s H E).gI (fO st) cK):eH P w K mg base x ps (k+1) (hx K mg (fnX n nl cK)):=by
 obtain⟨f,fd,F,b,m⟩:=g7.ex;exact⟨f,fd,Dg F d e hl (λa=>g f a),b,F.kp,m⟩
theorem Wr(g7:x4 K mg c m qual st ps)(d:g8 N ps (dm st))(e:ps.length=n)(hl:N.length=nl)
  (g:∀(f:Addr)(a:Value)(A:alI)(outer:List Env)(s:alc)(H:au)(E:gx),cB k (A.deeper (amc qual (dm st) s.heap.objs.size f a))->
   ir (ha eC P w K mg base N qual (dm st) f a A outer s H E).gI (fO st) cK):kh P w K mg base c m ps (k+1) (hx K mg (fnX n nl cK)):=by
 obtain⟨C,f,fd,h,cl,me,F,b⟩:=g7.ex;exact⟨C,f,fd,h,cl,me,Dg F d e hl (λa=>g f a),b⟩
theorem Ws{cK:aM}(g7:x4 K mg c m qual st ps)(d:g8 N ps (dm st))(e:ps.length=n)(hl:N.length=nl)
  (g:∀(f:Addr)(a:Value)(A:alI)(outer:List Env)(s:alc)(H:au)(E:gx),cB k (A.deeper (amc qual (dm st) s.heap.objs.size f a))->
   vc (ha eC P w K mg base N qual (dm st) f a A outer s H E).gI (fO st) cK):kh P w K mg base c m ps (k+1) (e4 K mg (fnOf n nl cK)):=by
 obtain⟨C,f,fd,h,cl,me,F,b⟩:=g7.ex;exact⟨C,f,fd,h,cl,me,Mm F d e hl (λa=>g f a),b⟩
end
section
variable{X:aQ}{x:Str}{ps:List Str}{k:Nat}{mf:dC}{p pos:Pos}{e:Expr}{az:List Expr}{ms:gS}{pm:cP}{Bb:d3}
def ah0:jM X [] ka:=⟨uF xg λc H Q a=>by
 obtain⟨O,U,S,r,b,st,h,q⟩:=a;cases h;exact q O [] H (Go.refl _ _).dx st rfl trivial⟩
theorem kj.dx{O a:a5}(g:ep O a H H'):∀{rs:List R}{vs:List V},kj H' rs vs->kj H rs vs
 |[],_,_=>trivial|_::_,[],_=>trivial|_::_,_::_,h=>⟨h.1.dx g,kj.dx g h.2⟩
theorem ahY(t:eV X e Bb)(i:jM X az ms)(aw:e_ X e az:=by rfl):jM X (e::az) (gs Bb ms):=⟨uF (uE t.un i.un aw) λB H Q m=>by
 obtain⟨O,U,S,r,A,st,h,q⟩:=m;obtain⟨x,a,n,h⟩:=N.inv h;obtain⟨xs,z,s,h⟩:=N.inv h;split at h
 .rename_i w
  cases h;refine⟨O,U,S,x,a,st,n,λj c y d b g bA=>?_⟩;exact⟨j,U,a,xs,_,b,s,λu vs l f bM rs ns=>q u (c::vs) l (d.trans f) bM ⟨c,vs,rfl,g.dx f b.s3.cm.rh w,rs⟩ ⟨bA,ns.dx d⟩⟩
 .cases h⟩
theorem ahZ(s:eV X e Bb)(i:gw X az pm)(aw:e_ X e az:=by rfl):jM X (e::az) (kQ Bb pm):=⟨uF (uE s.un i.un aw) λA H Q m=>by
 obtain⟨O,U,S,r,z,st,h,q⟩:=m;obtain⟨x,w,n,h⟩:=N.inv h;obtain⟨xs,y,c,h⟩:=N.inv h;cases h;obtain rfl:=(pm U).e3 _ _ _ c;refine⟨O,U,S,x,_,st,n,λj d u f b g bA=>?_⟩;exact⟨j,U,_,xs,_,b.s3,c,λt vs l a bM rs ns=>q t (d::vs) l (f.trans a.dx) (b.go a bM.cm) ⟨d,vs,rfl,g.go a,rs⟩ ⟨bA,ns.dx f⟩⟩⟩
def Ud:∀b H Q,xT K mg (iZ mf ms) b H Q->AJ (hx K mg mf) (G1 K mg ms) b H Q:=by
 rintro b H Q ⟨O,U,S,r,n,st,h,q⟩;obtain⟨rs,c,m,h⟩:=N.inv h;split at h
 .rename_i w
  refine⟨O,U,S,rs,c,st,m,λj vs z f a u nn=>?_⟩;exact⟨j,_,r,c,n,a.s3.cm,a.s3.gK,a.full,yn a.s3.cm.rh w u,h,λs v i g d dQ l t y=>q s v i (f.trans g) (a.dx g d dQ l) t (y.dx f)⟩
 .cases h
def ah2(h:eH X.prog X.w X.K X.mg X.base x ps k (hx X.K X.mg mf))(a:cB k X.A)(b:ee X x)(c:jM X (e::az) ms)(d:fX x:=by decide)
  (he:e_ X e az:=by rfl) (f:f5 X pos az:=by rfl):eV X (.Call (.Name x p) (e::az) [] pos) (iZ mf ms):=
 ⟨eb (Po h a b c.un d he f) Ud⟩
end
end aC
namespace aC
open PySem PySem.Spec aA
def dk(c m:Str)(mf:bq)(mo:bt)(ms:cP):bt:=λU=>do
 let x <-mo U
 let o <-hj x
 match o with
 |.ba c' aX=>if c'=c/\aX.lookup m=none then(do
  let rs <-ms U
  mf (x.arg::rs.map R.arg))else bad
 |_=>bad
def AA(x:R)(o:ey):N Unit:=match x with
 |.v (.ref n)=>⟨λS=>.ok () (S.set n o)⟩
 |_=>gG
def dU(c f:Str)(mo:bt)(mv:d3):b0:=λU=>do
 let r <-mv U
 let d <-r.dat.up
 let x <-(mo U).up
 let o <-(hj x).up
 match o with
 |.ba c' aX=>if c'=c/\aX.length<1000 then(do
  AA x (.ba c (ia f d aX))
  pure (.bA U))else gG
 |_=>gG
def mI(f:List D->List R->M (R×List D))(mo:bt)(ms:cP):b0:=λU=>do
 let x <-(mo U).up
 let rs <-(ms U).up
 let o <-(hj x).up
 match o with
 |.l xs=>do
  let p <-(f xs rs).up
  AA x (.l p.2)
  pure (.bA U)
 |_=>gG
def ie(m:d3):d3:=λU=>do
 let r <-m U
 match r with
 |.fr xs=>do
  let S <-y3
  putN (S++[.l xs])
  pure (.v (.ref S.length))
 |_=>gG
variable[aA.a0]
def hu(O:a5)(p:Addr):a5:=⟨λb=>if b=p then .out else O b,O.bK++[p]⟩
section
variable{K:aN}{mg:bp}{O ai:a5}{H H':au}{S ah:bG}{U:aG}{ak:St}{p a:Addr}{o:ey}{n:Nat}{u u':gP}
omit [aA.a0]in
theorem pd(h:b≠p):hu O p b=O b:=if_neg h
omit [aA.a0]in
theorem acI:hu O p p=.out:=if_pos rfl
theorem OX(c:df O H)(d:p∉O.bK):jk (hu O p):=⟨an1.mpr ⟨c.rh.1,by simp,λx b y f=>by rintro rfl;rw[alB.mp f]at b;exact d b⟩,λa m=>by
 by_cases e:a=p
 .rw[e];exact acI
 .rw[pd e];exact c.rh.2 a ((al6.mp m).elim id λz=>absurd (alB.mp z) e)⟩
def df.acR(b:df O H)(c:H p=none):p∉O.bK:=λm=>b.has p (by rw[b.rh.2 p m];intro z;cases z) c
theorem alloc(i:df O H)(dQ:fN K mg O H S)(q:O.bK.length=S.length)(k:H p=none)(c:eD H H')(x:H' p≠none)(ba:(∀d v,Rep K mg O H d v->Rep K mg (hu O p) H' d v)->ob K mg (hu O p) H' p o) :
  ep O (hu O p) H H'/\df (hu O p) H'/\fN K mg (hu O p) H' (S++[o])/\(hu O p).bK.length=(S++[o]).length:=by
 have g:ep O (hu O p) H H':=⟨λb o e _ n=>c.at' b o e n,λb j=>pd (by rintro rfl;exact j k),λ_ h=>c.some h,c.cL,c.b4,anT _ _,λb m=>(al6.mp m).imp id λz=>by rw[alB.mp z];exact k⟩;have f:∀d v,Rep K mg O H d v->Rep K mg (hu O p) H' d v:=λ_ _ z=>Rep.dx g i.rh z
 refine⟨g,⟨λb j=>?_,c.b4 i.tabs,OX i (i.acR k)⟩,λn w e=>?_,by rw[alb,<-q];exact alb⟩
 .by_cases e:b=p
  .rw[e];exact x
  .rw[pd e]at j;exact c.some (i.has b j)
 .by_cases r:n<S.length
  .rw[alz r]at e
   obtain⟨a,s,t⟩:=dQ n w e;exact⟨a,by show(O.bK++[p])[n]? = _;rw[alz (by rw[q];exact r)];exact s,t.all f λu l n=>c.at' _ _ l n⟩
  .rw[alw (by omega)]at e
   obtain rfl:n=S.length:=by
    have:=(ak8.mp e).1;simp at this;omega
   rw[ang]at e;cases e;exact⟨p,by show(O.bK++[p])[S.length]? = _;rw[<-q,alw (alf _),ang];rfl,ba f⟩
def dA.write(st:dA K mg O U S ak H)(i:O.bK[n]? = some a)(c:H a=some u)(A:¬Fix u)(s:∀ps,u≠.gc ps)(w:∀q,u≠.ext (rj a q))(ba:(∀d v,Rep K mg O H d v->Rep K mg O (upd H a u') d v)->ob K mg O (upd H a u') a o) :
  ep O O H (upd H a u')/\dA K mg O U (S.set n o) ak (upd H a u'):=by
 have b4:TabsOk H->TabsOk (upd H a u'):=λt=>t.put u' (λps z=>s ps (alE (c.symm.trans z))) (λq z=>w q (alE (c.symm.trans z)))
 have has:∀b,H b≠none->upd H a u' b≠none:=λb j=>by
  by_cases e:b=a
  .rw[e,dZ];intro z;cases z
  .rw[c3 e];exact j
 have g:ep O O H (upd H a u'):=by
  refine⟨λb o e h _=>?_,λ_ _=>rfl,has,λb ps e=>⟨ps,?_⟩,b4,aof _,λ_ m=>.inl m⟩
  .rw[c3]
   .exact e
   .rintro rfl
    rcases h with h|h
    .exact h (alF i)
    .rw[c]at e;cases e;exact A h
  .rw[c3]
   .exact e
   .rintro rfl;rw[c]at e;cases e;exact s _ rfl
 have f:∀d v,Rep K mg O H d v->Rep K mg O (upd H a u') d v:=λ_ _ z=>Rep.dx g st.s3.cm.rh z
 refine⟨g,st.dx g ⟨λb j=>has b (st.s3.cm.has b j),b4 st.s3.cm.tabs,st.s3.cm.rh⟩ (λk x e=>?_) (by rw[alS];exact st.full)⟩
 by_cases r:n=k
 .subst r
  rw[alA (by have:=(ak8.mp e).1;rwa[alS]at this)]at e;cases e;exact⟨a,i,ba f⟩
 .rw[ale r]at e
  obtain⟨b,aq,aE⟩:=st.s3.gK k x e;refine⟨b,aq,aE.all f λu l _=>?_⟩;rw[c3]
  .exact l
  .rintro rfl
   obtain⟨bB,bY⟩:=ak8.mp aq;obtain⟨B,y⟩:=ak8.mp i;exact r ((List.getElem_inj st.s3.cm.rh.1).mp (y.trans bY.symm))
theorem i3.dx(g:ep O ai H H')(rh:jk O):∀{rs:List R}{vs:List V},rs.all R.hk=true->i3 K mg O H rs vs->i3 K mg ai H' rs vs
 |[],_,_,h=>h|_::_,_,aw,h=>by
  rw[anE,alC]at aw;obtain⟨y,r,q,a,b⟩:=h;exact⟨y,r,q,a.dx g rh aw.1,i3.dx g rh aw.2 b⟩
def uy{r:R}{v:V}(st:cC K mg O U S ak H)(f:ek K mg O H r v)(h:(hj r).run S=.ok o ah):∃n a,r=.v (.ref n)/\v=.ref a/\O.bK[n]? = some a/\S[n]? = some o/\ob K mg O H a o:=by
 obtain⟨n,rfl,e,rfl⟩:=O4 h;obtain⟨a,d,i⟩:=st.gK n o e;obtain⟨b,g,c⟩:=f;rw[d]at c;cases c;exact⟨n,a,rfl,g,d,e,i⟩
theorem fC.EI:∀{I:List (Str×D)}{C:List (Str×V)},fC K mg O H I C->I.lookup f=none->C.lookup f=none
 |[],C,h,e=>by obtain rfl:=h.Fe;rfl
 |p::I,C,h,e=>by
  obtain⟨q,r,rfl,aq,aE,h'⟩:=h.cons;obtain⟨p1,cG⟩:=p;obtain⟨bB,bY⟩:=q;cases(show p1=bB from aq);rw[als]at e ⊢
  cases dg:f==p1 with
  |true=>rw[dg]at e;cases e
  |false=>rw[dg]at e;exact fC.EI h' e
end
def AK(mg:bp)(c m:Str)(sp:en)(e:TE)(t:fV):TE:=λU H Q=>e U H λx b=>∃a C f aX,x=.ref a/\mg c=some (.ref C)/\b a=some (.ins C f aX)/\aX.lookup m=none/\t U b λvs d=>sp (x::vs) d Q i1
def BJ(t:TE):Prop:=∀U H Q b,(∀v a,Q v a->b v a)->t U H Q->t U H b
def qP:BJ (gr K mg m):=λd H Q e i ⟨O,U,S,x,b,st,h,q⟩=>⟨O,U,S,x,b,st,h,λc v a g s p n=>i _ _ (q c v a g s p n)⟩
section
variable{X:aQ}{c m:Str}{ps:List Str}{k:Nat}{sp:en}{o e:Expr}{az:List Expr}{bR:TE}{t:fV}{apos pos:Pos}{mf:dC}{sg:bq}{mo:bt}{pm:cP}{ms:gS}
def Pr{pl:Sem Bool}(h:kh X.prog X.w X.K X.mg X.base c m ps k sp)(i:cB k X.A)(up:BJ bR)(he:b6 X o bR)(j:g9 X (e::az) t)
  (u:e_ X e az:=by rfl) (q:f5 X pos az:=by rfl)
  (l:oi X pl o m apos (e::az) pos:=by rfl) :
  b6 X (.Call (.Attribute o m apos) (e::az) [] pos) (AK X.mg c m sp bR t):=by
 obtain⟨C,f,y,s,cl,me,F,b⟩:=h.ex;refine eb (Pp he cl me F i b .nil qF j u q l) λU H Q g=>up _ _ _ _ (λv x z=>?_) g
 obtain⟨a,B,n,aX,r,d,p,hl,z⟩:=z;rw[s]at d;cases d;refine⟨a,n,aX,r,p,hl,?_⟩;simpa only[aml]using z
def Pt{pl:Sem Bool}(h:kh X.prog X.w X.K X.mg X.base c m ps k sp)(i:cB k X.A)(up:BJ bR)(he:b6 X o bR)
  (j:oi X pl o m apos [] pos:=by rfl) :
  b6 X (.Call (.Attribute o m apos) [] [] pos) (AK X.mg c m sp bR xy):=by
 obtain⟨C,f,s,q,cl,me,F,b⟩:=h.ex;refine eb (Pq he cl me F i b .nil qF j) λU H Q g=>up _ _ _ _ (λv r z=>?_) g
 obtain⟨a,u,l,aX,p,d,n,hl,z⟩:=z;rw[q]at d;cases d;exact⟨a,l,aX,p,n,hl,z⟩
def OG:∀b H Q,gr K mg (dk c m sg mo pm) b H Q->AK mg c m (e4 K mg sg) (gr K mg mo) (n1 K mg pm) b H Q:=by
 rintro b H Q ⟨O,U,S,r,A,st,h,q⟩;obtain⟨x,u,y,P⟩:=M.inv h;clear h;refine⟨O,U,S,x,u,st,y,λw fg H1 p j i bA=>?_⟩;obtain⟨ba,aW,l,h⟩:=M.inv P;obtain⟨n,a,rfl,rfl,ra,z,Y⟩:=uy j i l;obtain rfl:=(hj (.v (.ref n))).e3 _ _ _ l;split at h
 .rename_i c' aX
  split at h
  .rename_i W
   obtain⟨rfl,hm⟩:=W;obtain⟨rs,T,E,h⟩:=M.inv h;obtain⟨C,L,Z,N,J,I⟩:=Y;refine⟨a,C,L,Z,rfl,J.1,N,I.EI hm,w,U,_,rs,T,j,E,λG vs aJ f bM F nn=>?_⟩;obtain rfl:=(sg _).e3 _ _ _ h;exact⟨G,.ref n::rs.map R.arg,r,A,bM.cm,bM.gK,⟨_,_,rfl,HD (ek.go f i),BU F⟩,h,λB v s g d D V=>q B v s ((p.trans f).trans g) (bM.go g d) D (V.back (p.trans f).same)⟩
  .cases h
 .cases h
def ahc{pl:Sem Bool}(h:kh X.prog X.w X.K X.mg X.base c m ps k (e4 X.K X.mg sg))(a:cB k X.A)(he:bb X o mo)(b:gw X (e::az) pm)
  (g:e_ X e az:=by rfl) (f:f5 X pos az:=by rfl)
  (d:oi X pl o m apos (e::az) pos:=by rfl):bb X (.Call (.Attribute o m apos) (e::az) [] pos) (dk c m sg mo pm):=
 ⟨eb (Pr h a qP he.un b.un g f d) OG⟩
def ahd{pl:Sem Bool}(h:kh X.prog X.w X.K X.mg X.base c m ps k (e4 X.K X.mg sg))(f:cB k X.A)(he:bb X o mo)
  (i:oi X pl o m apos [] pos:=by rfl):bb X (.Call (.Attribute o m apos) [] [] pos) (dk c m sg mo b'):=
 ⟨eb (Pt h f qP he.un i) λn H Q d=>qP _ _ _ _ (λv b z=>by
  obtain⟨a,C,j,aX,aq,aE,cX,eO,O,U,S,rs,l,st,g,q⟩:=z;cases g;exact⟨a,C,j,aX,aq,aE,cX,eO,q O [] b (Go.refl _ _) st rfl trivial⟩) (OG _ _ _ d)⟩
def z2:∀f H Q,xT K mg (dF c m mf mo ms) f H Q->AK mg c m (hx K mg mf) (gr K mg mo) (G1 K mg ms) f H Q:=by
 rintro f H Q ⟨O,U,S,r,E,st,h,q⟩;obtain⟨x,j,p,Y⟩:=N.inv h;clear h;obtain rfl:=(mo U).e3 _ _ _ p;refine⟨O,U,j,x,j,st.s3,p,λA fg H1 u b l bA=>?_⟩;obtain⟨ba,aW,s,h⟩:=N.inv Y;obtain⟨n,a,rfl,rfl,ra,D,hv⟩:=uy b l s;obtain rfl:=(hj (.v (.ref n))).e3 _ _ _ s;split at h
 .rename_i c' aX
  split at h
  .rename_i I
   obtain⟨rfl,hm⟩:=I;obtain⟨rs,y,J,h⟩:=N.inv h;obtain⟨C,T,ky,V,P,pq⟩:=hv;split at h
   .rename_i W
    refine⟨a,C,T,ky,rfl,P.1,V,pq.EI hm,A,U,_,rs,y,(st.go u b.cm),J,λM vs aJ w bM L nn=>?_⟩;have i:=u.dx.trans w;exact⟨M,.ref n::rs.map R.arg,r,y,E,bM.s3.cm,bM.s3.gK,bM.full,⟨_,_,rfl,Rep.dx w b.cm.rh l,yn bM.s3.cm.rh W L⟩,h,λF v z g d dQ B G Z=>q F v z (i.trans g) (bM.dx g d dQ B) G (Z.dx i)⟩
   .cases h
  .cases h
 .cases h
def ah4{pl:Sem Bool}(h:kh X.prog X.w X.K X.mg X.base c m ps k (hx X.K X.mg mf))(a:cB k X.A)(he:bb X o mo)(b:jM X (e::az) ms)
  (g:e_ X e az:=by rfl) (f:f5 X pos az:=by rfl)
  (d:oi X pl o m apos (e::az) pos:=by rfl):eV X (.Call (.Attribute o m apos) (e::az) [] pos) (dF c m mf mo ms):=
 ⟨eb (Pr h a qP he.un b.un g f d) z2⟩
def ah5{pl:Sem Bool}(h:kh X.prog X.w X.K X.mg X.base c m ps k (hx X.K X.mg mf))(f:cB k X.A)(he:bb X o mo)
  (i:oi X pl o m apos [] pos:=by rfl):eV X (.Call (.Attribute o m apos) [] [] pos) (dF c m mf mo ka):=
 ⟨eb (Pt h f qP he.un i) λn H Q d=>qP _ _ _ _ (λv b z=>by
  obtain⟨a,C,j,aX,aq,aE,cX,eO,O,U,S,rs,l,st,g,q⟩:=z;cases g;exact⟨a,C,j,aX,aq,aE,cX,eO,q O [] b (Go.refl _ _).dx st rfl trivial⟩) (z2 _ _ _ d)⟩
theorem Rj{aX:List Str}{p:Pos}(T:mR X.K X.mg c aX)(h:kh X.prog X.w X.K X.mg X.base c "__init__" ps k (hx X.K X.mg mf))(Y:cB (k+1) X.A)(Z:ee X c)(l:jM X (e::az) ms)(eL:fX c:=by decide)
  (he:e_ X e az:=by rfl) (eP:f5 X pos az:=by rfl):eV X (.Call (.Name c p) (e::az) [] pos) (kR c mf ms):=by
 obtain⟨C,f,fd,B,cl,me,F,b⟩:=h.ex;obtain⟨jI,M,_,⟨mk,kp⟩,_⟩:=T.ex;rw[B]at M;cases M;refine⟨eb (ad9 ⟨mk,me.at_,me.fn,kp⟩ F Y Z B b .nil qF l.un eL he eP) λak H Q aT=>?_⟩;obtain⟨O,U,S,r,ah,st,h,q⟩:=aT;obtain⟨rs,j,ab,E⟩:=N.inv h;refine⟨O,U,S,rs,j,st,ab,λs vs G g1 i br nn a y l W u=>?_⟩;split at E
 .rename_i L
  obtain⟨km,aW,af,aa⟩:=N.inv E;cases af;obtain⟨_,hF,bI,hc⟩:=N.inv aa;cases bI;obtain⟨bV,q9,cJ,h⟩:=N.inv hc;have pA:eD G (upd (upd G y (.own a)) a (.ins C y [])):=(uP W _).trans (uP (by rw[c3 (anG u)];exact l) _);obtain⟨D,x,P,J⟩:=alloc (o:=.ba c []) i.s3.cm i.s3.gK i.full l pA (by rw[dZ];intro z;cases z) λ_=>⟨C,y,[],dZ,⟨B,cl⟩,rfl,rfl⟩
  rw[aml];have n:(hu s a).bK[j.length]? = some a:=by show(s.bK++[a])[j.length]? = _;rw[<-i.full,alw (alf _),ang];rfl
  refine⟨hu s a,.ref j.length::rs.map R.arg,bV,_,q9,x,P,J,⟨_,_,rfl,⟨a,rfl,n⟩,?_⟩,cJ,λai v V g d dQ I bC h_=>?_⟩
  .exact yn x.rh L (i3.dx D i.s3.cm.rh L br)
  .split at h
   .cases h
    refine⟨bC,q ai _ V ((g1.trans D).trans g) ((i.dx D x P J).dx g d dQ I) ⟨a,rfl,?_⟩ trivial⟩;obtain⟨t,e⟩:=g.bK;rw[<-e,alz (ak8.mp n).1];exact n
   .cases h
 .cases E
end
end aC
namespace aC
open PySem PySem.Spec aA PyProof.Rows
@[reducible] def Ef:apw where
 α:=Int
 blt a b:=decide (a<b)
 irrefl a:=by simp
 trans a b c o C:=by simp only[decide_eq_true_eq]at *;omega
 negTrans a b c h:=by simp only[decide_eq_true_eq]at *;omega
 total a b o C:=by simp only[decide_eq_false_iff_not]at *;omega
 keyOf v:=match v with|.int i _=>some i|_=>none
 dflt:=0
def Zx:Ef.OneLt:=by
 intro prog w A E s x y a b Q d c h;cases x<;>simp only[ reduceCtorEq]at d
 cases y<;>simp only[ reduceCtorEq]at c
 cases d;cases c;exact oneLt_int h
structure iE where
 κ:apw
 es:κ.α->D
 un:D->Option κ.α
structure iE.Ok(Z:iE):Prop where
 one:Z.κ.OneLt
 u1:∀d a,Z.un d=some a->d=Z.es a
 key:∀(a:Z.κ.α)(K:aN)(mg:bp)(O:a5)(H:au)(v:V)(u:Value),Rep K mg O H (Z.es a) v->RelV v u->Z.κ.keyOf u=some a
 kind:∀(sz sA:Value)(vs:List Value),(∀v∈sz::sA::vs,∃a,Z.κ.keyOf v=some a)->keyKind' (sz::sA::vs).toArray=pure oneType'
@[reducible] def fy:iE where
 κ:=Ef
 es:=D.int
 un d:=match d with|.int i=>some i|_=>none
@[reducible] def md:iE where
 κ:=apx
 es:=λl=>D.str ⟨l.toArray⟩
 un d:=match d with|.str x=>some x.cps.toList|_=>none
def N5:fy.Ok where
 one:=Zx
 u1:=λd a h=>by cases d<;>first|(cases h;rfl)|cases h
 key:=λa K mg O H v u h r=>by
  cases(show v=.int a from h);obtain⟨t,rfl⟩:=r;rfl
 kind:=λf e vs h=>by
  refine keyKind_ints (intsAre_map _ λv c=>?_);obtain⟨a,b⟩:=h v c;cases v<;>first|(exact⟨_,_,rfl⟩)|cases b
def aaf:md.Ok where
 one:=strKind_oneLt
 u1:=λd a h=>by cases d<;>first|(cases h;rfl)|cases h
 key:=λa K mg O H v u h r=>by
  cases(show v=.str ⟨a.toArray⟩from h);obtain⟨t,rfl⟩:=r;rfl
 kind:=λf e vs h=>by
  have key:∀(l:List Value),(∀v∈l,∃a,apx.keyOf v=some a)->∃ss,StrsAre l ss:=λl=>by
   induction l with
   |nil=>exact λ_=>⟨[],.nil⟩
   |cons v l b=>
    intro h;obtain⟨ss,aw⟩:=b λw hw=>h w (alh _ hw)
    obtain⟨a,c⟩:=h v alo;cases v<;>first|exact⟨_::ss,.cons _ _ aw⟩|cases c
  obtain⟨ss,aw⟩:=key _ h;exact keyKind_strs aw
section
variable{β:Type}
def tH(blt:β->β->Bool)(p:β×D):List (β×D)->List (β×D)
 |[]=>[p]
 |q::r=>if blt q.1 p.1 then q::tH blt p r else p::q::r
def jH(blt:β->β->Bool):List (β×D)->List (β×D)
 |[]=>[]
 |p::r=>tH blt p (jH blt r)
theorem Ed(blt:β->β->Bool)(p:β×D):∀l,(tH blt p l).Perm (p::l)
 |[]=>.refl _|q::r=>by
  unfold tH;split
  .exact((Ed blt p r).cons q).trans (.swap p q r)
  .exact .refl _
theorem AB(blt:β->β->Bool):∀l,(jH blt l).Perm l
 |[]=>.refl _|p::r=>(Ed blt p _).trans ((AB blt r).cons p)
end
theorem NA(O:amD)(p:O.α×D):∀l:List (O.α×D),l.Pairwise (λa b=>O.blt a.1 b.1=true)->(∀q∈l,q.1≠p.1)->(tH O.blt p l).Pairwise (λa b=>O.blt a.1 b.1=true)
 |[],_,_=>List.pairwise_singleton _ _|q::r,h,o=>by
  rw[amL]at h;unfold tH
  cases e:O.blt q.1 p.1 with
  |true=>
   rw[if_pos rfl,amL];refine⟨λx c=>?_,NA O p r h.2 λx c=>o x (alh _ c)⟩;rcases alj.mp ((Ed O.blt p r).mem_iff.mp c)with rfl|c
   .exact e
   .exact h.1 x c
  |false=>
   rw[if_neg alg,amL,amL];have d:O.blt p.1 q.1=true:=by
    cases aE:O.blt p.1 q.1 with
    |true=>rfl|false=>exact absurd (O.total _ _ e aE) (o q alo)
   refine⟨λx c=>?_,h.1,h.2⟩;rcases alj.mp c with rfl|c
   .exact d
   .exact O.trans _ _ _ d (h.1 x c)
theorem Gk(O:amD):∀l:List (O.α×D),(l.map (·.1)).Nodup->(jH O.blt l).Pairwise (λa b=>O.blt a.1 b.1=true)
 |[],_=>.nil|p::r,h=>by
  rw[alv,al7]at h;refine NA O p _ (Gk O r h.2) λq c e=>h.1 ?_
  rw[<-e];exact ani ((AB O.blt r).mem_iff.mp c)
theorem Qe{f:Type}{lt:f->f->Prop}(g:∀a,¬lt a a)(i:∀a b c,lt a b->lt b c->lt a c):∀{d l₂:List f},d.Perm l₂->d.Pairwise lt->l₂.Pairwise lt->d=l₂
 |[],l₂,p,_,_=>(List.nil_perm.mp p).symm|a::d,[],p,_,_=>(List.nil_perm.mp p.symm)
 |a::d,b::l₂,p,o,C=>by
  rw[amL]at o C;have e:a=b:=by
   rcases alj.mp (p.mem_iff.mp alo)with h|h
   .exact h
   .rcases alj.mp (p.mem_iff.mpr alo)with h'|h'
    .exact h'.symm
    .exact(g _ (i _ _ _ (o.1 b h') (C.1 a h))).elim
  subst e;rw[Qe g i (List.Perm.cons_inv p) o.2 C.2]
def Gl(O:amD){l ps:List (O.α×D)}(d:(l.map (·.1)).Nodup)(e:ps.Perm l)(aw:ps.Pairwise (λa b=>O.blt a.1 b.1=true)):ps=jH O.blt l:=
 Qe (lt:=λa b=>O.blt a.1 b.1=true) (λa=>by rw[O.irrefl];exact alg) (λa b c=>O.trans _ _ _) (e.trans (AB O.blt l).symm) aw (Gk O l d)
def afK(O:amD){ps:List (O.α×D)}(c:(ps.map (·.1)).Nodup)(h:ps.Pairwise (λa b=>O.blt b.1 a.1=false)):ps.Pairwise (λa b=>O.blt a.1 b.1=true):=by
 induction ps with
 |nil=>exact .nil|cons p r g=>
  rw[alv,al7]at c;rw[amL]at h ⊢;refine⟨λq d=>?_,g c.2 h.2⟩
  cases e:O.blt p.1 q.1 with
  |true=>rfl| false=>exact absurd (ani (f:=λx:O.α×D=>x.1) d) (by rw[<-O.total _ _ e (h.1 q d)];exact c.1)
end aC
namespace aC
open PySem PySem.Spec aA PyProof.Rows
variable[aA.a0]
def oa(X:aQ)(k:Nat)(f:Addr)(G:au->Prop)(mf:bq):Prop:=
 (∀H a,eD H a->G H->G a)/\(∀H p b o,H p=some (.l b)->G H->G (upd H p o))/\∀(A:alI)(s:alc)(H:au)(u:Value)(v:V)(Q:cI),cB k A->kW X.prog X.w X.K X.mg X.base A X.stack s H->G H->RelV v u->e4 X.K X.mg mf [v] H Q i1->
  anH (model X.prog X.w) A (.call (.ref f) ⟨[u],[]⟩) (Ha eC X.stack X.prog X.w H s Q i1) s
def lstP(a:Addr)(e:Nat):Heap->Prop:=λh=>h.get? a=some (amq "list" #[] e)
structure q2(X:aQ)(ae:cZ)(U:aA.St)(G:au->Prop)(O:a5)(H:au)(a dN:Addr)(aq:Nat)(cb:List D)(a7:alc):Prop where
 ex:∃ai H' ys,Inv X ae U H' a7/\Go O ai H H'/\df ai H'/\G H'/\H' a=some (.ext (lstP a aq))/\H' dN=some (.l ys)/\bh X.K X.mg ai H' cb ys/\ai dN=.dI
 na:a∉O.bK
section
variable{X:aQ}{ae:cZ}{U:aA.St}{H:au}{s:alc}{G:au->Prop}{mf:bq}{f a dN:Addr}{k:Nat}{O:a5}{aq:Nat}
def aaL{h:Heap}(e:h.get? a=some (amq "list" #[] aq)):iI prog w H h a (.ext (lstP a aq)):=
 ⟨e,⟨_,e⟩,λb c p q=>q _ p⟩
def Mc{b:au}(I:Inv X ae U b C)(d:b a=some (.ext (lstP a aq)))(q:Str):b a≠some (.ext (rj a q)):=λz=>by
 obtain⟨p,_⟩:=I.cf a _ d;obtain⟨cG,_⟩:=I.cf a _ z;obtain⟨c,o,vs,t,aq,aE,cX,_⟩:=cG;cases aq;rw[p]at aE;cases aE;cases cX
def aaa{p:List D}{v:V}(F:oa X k f G mf)(M:cB k X.A.in1.in1)(l6:H a=none)(l8:H dN=none)(oI:dN≠a)(c_:Rep X.K X.mg O H d v)(eo:RelV v u)(hd:(mf [d]).run []=.ok (.v o) [])(tB:p.length<64)(S:q2 X ae U G O H a dN aq p C) :
  wpAny (model X.prog X.w) X.A.in1.in1 (call (.ref f) [u]) (λu' s2=>∃(c:a5)(b:au)(m:List V)(h:V),Inv X ae U b s2/\Go O c H b/\df c b/\G b/\b a=some (.ext (lstP a aq))/\b dN=some (.l m)/\bh X.K X.mg c b p m/\Rep X.K X.mg c b o h/\RelV h u'/\c dN=.dI) (λ_ _=>False) C:=by
 obtain⟨y,t,m,E,J,fs,L,Q,B,ra,eS⟩:=S.ex;refine wpAny_call (anz (F.2.2 X.A.in1.in1 C t u v (λh b=>∃c,Go y c t b/\df c b/\Rep X.K X.mg c b o h) M E.yS.in1.in1 L eo ?_) λr s2 j=>?_)
 .refine⟨y,[d],.v o,[],fs,fN.nil,⟨v,[],rfl,?_,rfl⟩,hd,λc h b g I W _=>⟨c,g,I,W⟩⟩
  have n:=c_.go J;cases d<;>first|exact n|exact alV n|skip
  obtain⟨x,zs,q,l,r⟩:=n;exact⟨x,zs,q,l.cT,r⟩
 .cases r with
  |error e=>exact alV j|ok P=>
   cases P with
   |ret u'=>
    obtain⟨h,N,cc,R,Y,i,Z,T⟩:=E.after j;exact⟨Y,N,m,h,cc,J.trans i,Z,F.1 _ _ i.same L,i.same.at' _ _ Q,i.same.at' _ _ B,ra.go i,T,R,(i.own dN (by rw[B];intro z;cases z)).trans eS⟩
   |next=>exact alV j
   |brk=>exact alV j|cont=>exact alV j
def afA{Z:iE}(jX:Z.Ok){ds:List D}{g:List Z.κ.α}{xs:List V}{us:List Value}{P:Fin->alc->Prop}{E:dp}(fu:oa X k f G mf)(aD:cB k X.A.in1.in1)(l6:H a=none)(l8:H dN=none)(oI:dN≠a)
  (ra:bh X.K X.mg O H ds xs) (bS:Vals xs us) (tB:∀(i:Nat)(d:D),ds[i]? = some d->∃κ,g[i]? = some κ/\(mf [d]).run []=.ok (.v (Z.es κ)) []) (hlen:g.length=ds.length) (la:ds.length<64) (S:q2 X ae U G O H a dN aq [] s)
  (fin:∀(B:alc)(q:Array Value),q2 X ae U G O H a dN aq (g.map Z.es) B->q.toList.map Z.κ.keyOf=g.map some->wpAny (model X.prog X.w) X.A.in1.in1 (ksk_end a false us.toArray aq (.ref dN) q) P E B) :
  wpAny (model X.prog X.w) X.A.in1.in1 (ksk_rest a (.ref f) false us.toArray aq (.ref dN)) P E s:=by
 have akG:=ra.len;have EL:=bS.length;refine ak7 (wpAny_rule ?_)
 first
  |rw[List.forIn_toArray]
  |(rw[<-Array.forIn_toList])
  |rw[<-Array.forIn_toList]
 refine ak7 (ksk_fold (λi B=>q2 X ae U G O H a dN aq ((g.take i).map Z.es) B) us 0 s S ?step ?done)
 case step=>
  intro j u B cO F;simp only[anS]at F ⊢;have bj:=(ak8.mp cO).1;obtain⟨v,J,eo⟩:∃v,xs[j]? = some v/\RelV v u:=by
   have J:xs[j]? = some xs[j]:=aln (by omega);obtain⟨u',zi,r⟩:=bS.get J;rw[cO]at zi;cases zi;exact⟨_,J,r⟩
  obtain⟨d,hd,c_⟩:=ra.Mz J;obtain⟨κ,Zk,hm⟩:=tB j d hd;have hz:((g.take j).map Z.es).length<64:=by rw[ala,ama];omega
  refine ak7 (wpAny_attempt (al9 (aaa fu aD l6 l8 oI c_ eo hm hz F) (λu' s2 he=>?_) λ_ _ oG=>oG.elim));obtain⟨C,T,x,fQ,L,M,c9,I,vX,p,Q,W,Y,R⟩:=he;obtain⟨hg,c,n,m,N⟩:=L.cf dN _ p;have YB:c.length=(g.take j).length:=by rw[<-m.length,Q.len,ala]
  have ako:c.length<64:=by rw[YB,ama];omega
  obtain⟨aj,jz⟩:∃aj,(s2.heap.update dN (alL (·.push u'))).get? dN=some (amq "list" (c.toArray.push u') aj):=⟨_,anp N (·.push u')⟩;refine ak7 (aoR N rfl ?_ (by rw[ali,alM];omega) (alR (anQ (Array.size_push ..)) (by rw[ali,alM];omega)));refine alm ⟨rfl,⟨⟨C,upd T dN (.l (x++[fQ])),x++[fQ],?_,⟨xJ l8 M.same p _,M.own,M.bK⟩,c9.eF p,fu.2.1 _ _ _ _ p I,by rw[c3 oI.symm];exact vX,dZ,?_,R⟩,F.na⟩⟩
  .refine L.write (by rw[p];trivial) (.inl rfl) (λb o aa e=>((amh s2.heap dN (alL (·.push u'))).2 b aa).trans e) ⟨_,jz⟩ ⟨?_,c++[u'],aj,m.append (.cons Y .nil),?_⟩
   .rw[alb,m.length];rw[alM];simp;omega
   .rw[jz];simp
  .have jS:g.take (j+1)=g.take j++[κ]:=by rw[aoW,Zk];rfl
   rw[jS,amw];exact(Q.append (.one W)).eF (by rw[R];intro z;cases z) p
 case done=>
  intro B F;have cX:g.take (0+us.length)=g:=amr (by omega);rw[cX]at F;obtain⟨C,T,x,L,M,c9,I,vX,p,Q,R⟩:=id F.ex;obtain⟨hg,c,n,m,N⟩:=L.cf dN _ p;refine ak7 (listItems_at N rfl ?_);refine fin B c.toArray F ?_;have key:∀(g:List Z.κ.α)(x:List V)(c:List Value),bh X.K X.mg C T (g.map Z.es) x->Vals x c->c.map Z.κ.keyOf=g.map some:=by
   intro g
   induction g with
   |nil=>intro x c h r;cases h;cases r;rfl
   |cons κ g aV=>
    intro x c h r;obtain⟨y,t,rfl,ab,af⟩:=h
    cases r with
    |cons bD bV=>
     rw[alv,alv,aV _ _ af bV,jX.key κ _ _ _ _ _ _ ab bD]
  exact key _ _ _ Q m
end
end aC
namespace aC
open PySem PySem.Spec aA PyProof.Rows
def aeh{α b:Type}(f:α->b):∀{L M:List b},L.Perm M->∀{Q:List α},M=Q.map f->∃a:List α,a.Perm Q/\L=a.map f:=by
 intro L M h
 induction h with
 |nil=>
  intro Q e
  cases Q with
  |nil=>exact⟨[],.refl _,rfl⟩|cons q Q=>cases e
 |cons x _ d=>
  intro Q e
  cases Q with
  |nil=>cases e
  |cons q Q=>
   rw[alv]at e;injection e with aq aE
   obtain⟨a,p,cX⟩:=d aE;exact⟨q::a,p.cons q,by rw[aq,cX];rfl⟩
 |swap x y l=>
  intro Q e
  cases Q with
  |nil=>cases e
  |cons q Q=>
   cases Q with
   |nil=>rw[alv]at e;injection e with _ aE;cases aE
   |cons r Q=>
    rw[alv,alv]at e;injection e with aq aE
    injection aE with aE cX
    exact⟨r::q::Q,.swap _ _ _,by rw[aq,aE,cX];rfl⟩
 |trans _ _ i j=>
  intro Q e;obtain⟨g,p1,aq⟩:=j e;obtain⟨c,cG,aE⟩:=i aq;exact⟨c,cG.trans p1,aE⟩
variable[aA.a0]
abbrev ye(Z:iE):=(Value×Value)×(Z.κ.α×(D×V))
section
variable{K:aN}{mg:bp}{O:a5}{H:au}{Z:iE}
def aeL{ds:List D}:∀{xs:List V}{us a:List Value}{b:List Z.κ.α},bh K mg O H ds xs->Vals xs us->a.map Z.κ.keyOf=b.map some->b.length=ds.length->
  ∃Q:List (ye Z),Q.map (·.1)=a.zip us/\Q.map (λq=>(q.2.1,q.2.2.1))=b.zip ds/\∀q∈Q,Z.κ.keyOf q.1.1=some q.2.1/\Rep K mg O H q.2.2.1 q.2.2.2/\RelV q.2.2.2 q.1.2:=by
 induction ds with
 |nil=>
  intro xs us a b h r e l;cases h;cases r;rw[anl.mp l]at e ⊢;have:a=[]:=by cases a with|nil=>rfl|cons=>cases e
  subst this;exact⟨[],rfl,rfl,λ_ h=>(nomatch h)⟩
 |cons d ds f=>
  intro xs us a b h r e l;obtain⟨x,t,rfl,g,i⟩:=h
  cases r with
  |@cons _ u _ us j k=>
   cases b with
   |nil=>cases l
   |cons κ b=>
    cases a with
    |nil=>cases e
    |cons n a=>
     rw[alv,alv]at e;injection e with aq aE
     obtain⟨Q,bB,bY,m⟩:=f i k aE (by simpa using l);refine⟨((n,u),(κ,(d,x)))::Q,?_,?_,λq c=>?_⟩
     .rw[alv,bB];rfl
     .rw[alv,bY];rfl
     .rcases alj.mp c with rfl|c
      .exact⟨aq,g,j⟩
      .exact m q c
theorem Qb{α:Type}(f:α->D)(g:α->V):∀l:List α,(∀q∈l,Rep K mg O H (f q) (g q))->bh K mg O H (l.map f) (l.map g)
 |[],_=>rfl|q::l,h=>⟨_,_,rfl,h q alo,Qb f g l λx a=>h x (alh _ a)⟩
omit [aA.a0]in
theorem QX{α:Type}(f:α->V)(g:α->Value):∀l:List α,(∀q∈l,RelV (f q) (g q))->Vals (l.map f) (l.map g)
 |[],_=>.nil|q::l,h=>.cons (h q alo) (QX f g l λx a=>h x (alh _ a))
def sorted_out{ds:List D}{xs:List V}{us:List Value}{e:Array Value}{g:List Z.κ.α}(L:bh K mg O H ds xs)(E:Vals xs us)(B:e.toList.map Z.κ.keyOf=g.map some)(hl:g.length=ds.length)(w:g.Nodup)
  {c:Array Keyed}(A:c.Perm (e.zip us.toArray)) (aw:SortedToK Z.κ c c.size) :
  ∃s,Vals s (c.map (·.2)).toList/\s.length=ds.length/\bh K mg O H ((jH Z.κ.blt (g.zip ds)).map (·.2)) s:=by
 obtain⟨Q,bB,bY,G⟩:=aeL L E B hl;have z:c.toList.Perm (Q.map (·.1)):=by
  rw[bB,<-ksk_zip];exact Array.perm_iff_toList_perm.mp A
 obtain⟨d,r,n⟩:=aeh (λq:ye Z=>q.1) z rfl;have k:∀q∈d,Z.κ.keyOf q.1.1=some q.2.1/\Rep K mg O H q.2.2.1 q.2.2.2/\RelV q.2.2.2 q.1.2:=λq h=>G q (r.mem_iff.mp h)
 have x:(g.zip ds).map (·.1)=g:=by rw[List.map_fst_zip];omega
 have f:(d.map λq=>(q.2.1,q.2.2.1)).Perm (g.zip ds):=by rw[<-bY];exact r.map _
 have fI:((d.map λq:ye Z=>(q.2.1,q.2.2.1)).map (·.1)).Nodup:=by
  have:=f.map (λp:Z.κ.α×D=>p.1);rw[x]at this;exact this.nodup_iff.mpr w
 have l:(d.map λq:ye Z=>(q.2.1,q.2.2.1)).Pairwise (λa b=>Z.κ.blt b.1 a.1=false):=by
  rw[anw,List.pairwise_iff_getElem];intro i j hi F y;have u:c.toList.length=d.length:=by rw[n,ala]
  have J:i<c.size:=by rw[al0]at u;omega
  have t:j<c.size:=by rw[al0]at u;omega
  have:=aw i j (amP y) t;have at':∀(m:Nat)(hm:m<d.length)(M:m<c.size),KK Z.κ c m=d[m].2.1:=λm hm M=>by
   have aq:c[m]? = some d[m].1:=by
    have:c.toList[m]? = some d[m].1:=by rw[n,alr,aln hm];rfl
    rwa[aok]at this
   unfold KK;rw[aq];show(Z.κ.keyOf d[m].1.1).getD Z.κ.dflt=_;rw[(k _ (amH hm)).1];rfl
  rw[at' i hi J,at' j F t]at this;exact this
 have one:=Gl Z.κ.toKeyOrd (by rw[x];exact w) f (afK Z.κ.toKeyOrd fI l);refine⟨d.map λq=>q.2.2.2,?_,?_,?_⟩
 .have:(c.map (·.2)).toList=d.map λq=>q.1.2:=by
   rw[Array.toList_map,n,amZ];rfl
  rw[this];exact QX _ _ _ λq h=>(k q h).2.2
 .rw[ala,r.length_eq]
  have:=congrArg amO bY;rw[ala,List.length_zip,hl,Nat.min_self]at this;exact this
 .rw[<-one,amZ]
  exact Qb _ _ _ λq h=>(k q h).2.1
end
section
variable{X:aQ}{ae:cZ}{U:aA.St}{H:au}{s:alc}{G:au->Prop}{a dN:Addr}{O:a5}{aq:Nat}{Z:iE}{ds:List D}{cS:List Z.κ.α}{xs:List V}{us:List Value}{E:dp}{keys:Array Value}
def BC(X:aQ)(ae:cZ)(U:aA.St)(O:a5)(H:au)(a:Addr)(out:List D)(e:alc):Prop:=
 ∃c b d,Inv X ae U b e/\Go O c H b/\df c b/\b a=some (.l d)/\c a=.dI/\bh X.K X.mg c b out d
def Qx{A:alI}{st:SortSt}(B:H a=none)(l8:H dN=none)(R:dN≠a)(ra:bh X.K X.mg O H ds xs)(bS:Vals xs us)(ar:keys.toList.map Z.κ.keyOf=cS.map some)(hl:cS.length=ds.length)(I:cS.Nodup)(la:ds.length<64)
  (S:q2 X ae U G O H a dN aq (cS.map Z.es) s) (aI:(arrOf st).Perm (keys.zip us.toArray)) (aw:SortedToK Z.κ (arrOf st) (arrOf st).size) (W:failedOf st=none) :
  wpAny (model X.prog X.w) A (ksk_tail a false aq (.ref dN) st) (λr C=>r=.done (.ret .none)/\BC X ae U O H a ((jH Z.κ.blt (cS.zip ds)).map (·.2)) C) E s:=by
 obtain⟨N,h,ak5,t,j,i,Br,V,k,uK,Al⟩:=S.ex;obtain⟨_,y,n,f,P⟩:=t.cf dN _ k;have Y:s.heap.get? a=some (amq "list" #[] aq):=(t.cf a _ V).1;obtain⟨F,L,n8,q⟩:=sorted_out ra bS ar hl I aI aw;have hg:(arrOf st).size=ds.length:=by
  have ab:=L.length;have af:((arrOf st).map (·.2)).toList.length=(arrOf st).size:=by rw[al0,Array.size_map]
  omega
 have akx:y.length=ds.length:=by rw[<-f.length,uK.len,ala,hl]
 have T:=amh s.heap dN (alL λ_=>(#[]:Array Value));obtain⟨bg,J⟩:∃bg,(s.heap.update dN (alL λ_=>(#[]:Array Value))).get? dN=some (amq "list" #[] bg):=⟨_,anp P λ_=>#[]⟩;have p:(s.heap.update dN (alL λ_=>(#[]:Array Value))).get? a=some (amq "list" #[] aq):=(T.2 a R.symm).trans Y;have u:Inv X ae U (upd h dN (.l [])) { s with heap:=s.heap.update dN (alL λ_=>(#[]:Array Value)) }:=
  t.write (x:=dN) (e:=dN) (t':=s.toks) (by rw[k];trivial) (.inl rfl) (λb o c e=>(T.2 b c).trans e) ⟨_,J⟩ ⟨alX _,[],bg,.nil,J⟩
 have s2:=amh (s.heap.update dN (alL λ_=>(#[]:Array Value))) a (alL λ_=>(arrOf st).map (·.2));obtain⟨aj,Q⟩:∃aj,((s.heap.update dN (alL λ_=>(#[]:Array Value))).update a (alL λ_=>(arrOf st).map (·.2))).get? a=some (amq "list" ((arrOf st).map (·.2)) aj):=⟨_,anp p λ_=>(arrOf st).map (·.2)⟩;have d:upd h dN (.l []) a=some (.ext (lstP a aq)):=by rw[c3 R.symm];exact V
 unfold ksk_tail
 try dsimp only
 simp only[anU,if_false];refine ak7 (aoR P rfl ?_ (by rw[ali,alM];omega) (alX _));refine ak7 (anI ?_);refine ak7 (seqEpoch_at p rfl ?_);refine ak7 (aoR p rfl ?_ (alX _) (alR (anQ (Array.size_map ..)) (by rw[hg,alM];omega)));rw[W];simp only[bne_self_eq_false,anU,if_false];have same:eD H (upd (upd h dN (.l [])) a (.l F)):=by
  have D:=xJ l8 j.same k (.l []);refine⟨λb o e n=>by rw[c3 (kF e B)];exact D.at' b o e n,λb ps e=>by rw[c3 (kF e B)];exact D.cL b ps e,λg=>?_⟩;exact(D.b4 g).put _ (λps=>by rw[d];intro z;cases z) (Mc u d)
 have go:Go O (gL N a .dI) H (upd (upd h dN (.l [])) a (.l F)):=⟨same,λb c=>by
  rw[pK (by rintro rfl;exact c B)];exact j.own b c,j.bK⟩
 refine alm ⟨rfl,gL N a .dI,_,F,?_,go,⟨λb c=>?_,?_,i.rh.1,λb m=>by rw[pK (by rintro rfl;exact S.na (j.bK▸m))];exact i.rh.2 b m⟩,dZ,lC,q.go go⟩
 .refine u.write (x:=a) (e:=a) (t':=s.toks) (by rw[d];trivial) (.inl rfl) (λb o c e=>(s2.2 b c).trans e) ⟨_,Q⟩ ⟨?_,_,aj,L,?_⟩
  .rw[n8,alM];omega
  .rw[Q,aoq]
 .by_cases e:b=a
  .rw[e,dZ];intro z;cases z
  .rw[c3 e]
   rw[pK e]at c
   by_cases M:b=dN
   .rw[M,dZ];intro z;cases z
   .rw[c3 M];exact i.has b c
 .exact(i.tabs.l k _).put _ (λps=>by rw[d];intro z;cases z) (Mc u d)
def afy{A:alI}(t:Z.Ok)(u:H a=none)(x:H dN=none)(y:dN≠a)(m:bh X.K X.mg O H ds xs)(h:Vals xs us)(f:keys.toList.map Z.κ.keyOf=cS.map some)(hl:cS.length=ds.length)(q:cS.Nodup)(l:ds.length<64)
    (S:q2 X ae U G O H a dN aq (cS.map Z.es) s) :
    wpAny (model X.prog X.w) A (ksk_end a false us.toArray aq (.ref dN) keys) (λr n=>r=.done (.ret .none)/\BC X ae U O H a ((jH Z.κ.blt (cS.zip ds)).map (·.2)) n) E s:=by
  have F:us.length=ds.length:=by rw[<-h.length,m.len]
  have V:keys.size=ds.length:=by
    have:=congrArg amO f;rw[ala,ala,al0]at this;omega
  have g:(keys.zip us.toArray).size=ds.length:=by rw[Array.size_zip,V,ali,F,Nat.min_self]
  have D:∀v∈keys.toList,∃κ,Z.κ.keyOf v=some κ:=λv k=>by
    have:Z.κ.keyOf v∈cS.map some:=by rw[<-f];exact ani k
    obtain⟨κ,_,e⟩:=alK.mp this;exact⟨κ,e.symm⟩
  unfold ksk_end
  try dsimp only
  simp only[anU,if_false]
  by_cases b:us.toArray.size<2
  · rw[if_pos b,if_pos b]
    refine ak7 (alm ?_);rw[StateT.run_pure];refine ak7 (alm ?_)
    try dsimp only
    refine Qx (st:=SortSt.mk' general' (keys.zip us.toArray) #[] 7 none) u x y m h f hl q l S (Array.Perm.refl _) ?_ rfl;intro i j W M;have J:j<(keys.zip us.toArray).size:=M;rw[g]at J;rw[ali]at b;have:i=j:=by omega
    subst this;exact PyProof.Rows.KeyOrd.kle_refl _
  · rw[if_neg b,if_neg b]
    rw[ali]at b;have L:2<=(keys.zip us.toArray).size:=by
      have Y:2<=us.length:=Nat.le_of_not_lt b;rw[g];omega
    have R:keyKind' keys=pure oneType':=by
      cases e:keys.toList with
      |nil=>
               have N:keys.size=0:=by rw[<-al0,e];rfl
               omega
      |cons B r=>
        cases r with
        |nil=>
                 have N:keys.size=1:=by rw[<-al0,e];rfl
                 omega
        |cons z r=>
          have T:keys=(B::z::r).toArray:=by rw[<-e,aoq]
          rw[T];exact t.kind B z r λv k=>D v (by rw[e];exact k)
    rw[R];refine ak7 (alm ?_);refine ak7 (al9 (wpS_sortRunsK (κ:=Z.κ) t.one (a₀:=keys.zip us.toArray) (st:=SortSt.mk' oneType' (keys.zip us.toArray) #[] 7 none)
      (Q:=λ_ d=>(arrOf d).Perm (keys.zip us.toArray)/\failedOf d=none/\SortedToK Z.κ (arrOf d) (keys.zip us.toArray).size)
      (λp c=>?_) ⟨Array.Perm.refl _,rfl,rfl,rfl⟩ L (by rw[g];exact l) λd a1 a2 gy=>⟨a1,a2,gy⟩) ?_ λ_ _ e=>e)
    · rw[ksk_zip]at c
      exact D _ (anK c).1
    rintro⟨⟨⟩,d⟩ n ⟨rfl,c,P,aw⟩
    try dsimp only
    exact Qx u x y m h f hl q l S c (by rw[c.size_eq];exact aw) P
end
end aC
namespace aC
open PySem PySem.Spec aA PyProof.Rows
variable[aA.a0]
section
variable{X:aQ}{ae:cZ}{U:aA.St}{H:au}{s:alc}{G:au->Prop}{mf:bq}{f l:Addr}{k:Nat}{O:a5}{Z:iE}{ds:List D}{cS:List Z.κ.α}{xs:List V}{E:dp}
def afx(R:Z.Ok)(I:Inv X ae U H s)(B:df O H)(L:bh X.K X.mg O H ds xs)(fv:dw X.K H l xs)(Q:oa X k f G mf)(y0:G H)(aD:cB (k+2) X.A)
  (tB:∀(i:Nat)(d:D),ds[i]? = some d->∃κ,cS[i]? = some κ/\(mf [d]).run []=.ok (.v (Z.es κ)) []) (c:cS.length=ds.length) (aB:cS.Nodup) (V:ds.length<64) :
  wpAny (model X.prog X.w) X.A (call (.builtin "sorted") [.ref l] [(alG "key",.ref f)]) (λu x=>∃a,u=.ref a/\H a=none/\BC X ae U O H a ((jH Z.κ.blt (cS.zip ds)).map (·.2)) x) E s:=by
 obtain⟨us,n,pl,_⟩:=I.list fv;have EL:us.length=ds.length:=by rw[<-n.length,L.len]
 have g:H (s.heap.objs.size+1)=none:=I.cf.fresh (aoE _);refine call_function_entry_kw kind_sorted plain_sorted entry_sorted (ksk_s1 _ _)<|ak7 (alm ?_)
 refine ak7 (collect_list pl.isList ?_ (by rw[alM];omega));refine ak7 (wpAny_newList ?_ (by rw[alM];omega));have J:((s.heap.push (amq "list" #[] 0)).update s.heap.objs.size (alL (·++us.toArray))).objs.size=s.heap.objs.size+1:=by
  rw[Heap.size_update,size_push']
 have j:(((s.heap.push (amq "list" #[] 0)).update s.heap.objs.size (alL (·++us.toArray))).push (amq "list" us.toArray 0)).get? (s.heap.objs.size+1)=some (amq "list" us.toArray 0):=by
  rw[<-J];exact alk _ rfl
 have keep:∀b o,s.heap.get? b=some o->(((s.heap.push (amq "list" #[] 0)).update s.heap.objs.size (alL (·++us.toArray))).push (amq "list" us.toArray 0)).get? b=some o:=λb o q=>by
  have F:=alq q;rw[Heap.get?_push_ne _ _ _ (by rw[J];exact alQ (Nat.lt_succ_of_lt F)),Heap.get?_update_ne _ _ _ _ (alQ F),Heap.get?_push_ne _ _ _ (alQ F)];exact q
 have bx:Inv X ae U (upd H (s.heap.objs.size+1) (.l xs)) { s with heap:=((s.heap.push (amq "list" #[] 0)).update s.heap.objs.size (alL (·++us.toArray))).push (amq "list" us.toArray 0) }:=
  I.laid keep (aoE _) ⟨by omega,us,0,n,j⟩
 rw[J];refine ak7 (amF (wpAny_call_entry_kw slot_list_sort ⟨_,j,rfl⟩ entry_list_sort ?body (ksk_l1 _ _)))
 case body=>
  rw[ksk_t1];generalize iT:s.heap.objs.size+1=a at *;generalize((s.heap.push (amq "list" #[] 0)).update s.heap.objs.size (alL (·++us.toArray))).push (amq "list" us.toArray 0)=ab at *;obtain⟨aq,t⟩:∃aq,(ab.update a (alL λ_=>(#[]:Array Value))).get? a=some (amq "list" #[] aq):=⟨_,anp j λ_=>#[]⟩;have N:=
   bx.write (t':=s.toks) (by rw[dZ];trivial) (.inl rfl) (λb o aa e=>((amh ab a (alL λ_=>(#[]:Array Value))).2 b aa).trans e) ⟨_,t⟩ (aaL t)
  rw[agN]at N;refine ak7 (listItems_at j rfl ?_);refine ak7 (aoR j rfl ?_ (by rw[ali,alM];omega) (alX _));refine ak7 (seqEpoch_at t rfl ?_);refine ak7 (wpAny_newTuple ?_ (by show us.length<=_;rw[alM];omega));refine ak7 (wpAny_newList ?_ (alX _));refine amF ?_;have P:Inv X ae U (upd H a (.ext (lstP a aq))) { s with heap:=(ab.update a (alL λ_=>(#[]:Array Value))).push (amq "tuple" us.toArray 0) }:=
   N.kept λb o e=>ak9 _ e
  generalize akn:(ab.update a (alL λ_=>(#[]:Array Value))).push (amq "tuple" us.toArray 0)=C at *;have h:=P.cf.fresh (alf _);have p:C.objs.size≠a:=by
   intro z;rw[z,dZ]at h;cases h
  have T:H C.objs.size=none:=by rw[c3 p]at h;exact h
  have n':Inv X ae U (upd (upd H a (.ext (lstP a aq))) C.objs.size (.l [])) { s with heap:=C.push (amq "list" #[] 0) }:=
   P.laid (λb o e=>ak9 _ e) (alf _) ⟨alX _,[],0,.nil,alk _ rfl⟩
  have M:Go O (gL O C.objs.size .dI) H (upd (upd H a (.ext (lstP a aq))) C.objs.size (.l [])):=(Go.gH g).trans (Go.new h);have Y:df (gL O C.objs.size .dI) (upd (upd H a (.ext (lstP a aq))) C.objs.size (.l [])):=(B.same (Go.gH (O:=O) g).same).new h;have W:q2 X ae U G O H a C.objs.size aq [] { s with heap:=C.push (amq "list" #[] 0) }:=
   ⟨⟨gL O C.objs.size .dI,_,[],n',M,Y,Q.1 _ _ M.same y0,by rw[c3 p.symm];exact dZ,dZ,rfl,lC⟩,λm=>B.has a (by rw[B.rh.2 a m];intro z;cases z) g⟩
  refine al9 (afA R Q (aD.in1.in1) g T p L n tB c V W λx S ah YI=>afy R g T p L n YI c aB V ah) (λr x y=>?_) λ_ _ e=>e
  obtain⟨rfl,y⟩:=y;exact⟨_,rfl,alm ⟨_,rfl,a,rfl,g,y⟩⟩
end
structure p0(K:aN)(c P:Addr)(q:Str):Prop where
 hd:∀h,K.In h->W.CodeHd h c P
 ic:a0.ic P
 uJ:a0.uJ P=q
structure kb(base:Heap)(mg:bp):Prop where
 ex:∃bm o,mg (alG "__builtins__")=some (amU bm)/\bm≠aoX/\bm≠alU/\base.get? bm=some o/\o.cls=apt "module"/\o.dict=some aoX/\o.data=Data.plain
def Fn(f:Addr)(ba:Obj):Heap->Prop:=λh=>h.get? f=some ba
def mW(f c:Addr)(q:Str)(ba:Obj):au->Prop:=λH=>H f=some (.ext (Fn f ba))/\H c=some (.ext (rj c q))
def mW.mono(H a:au)(s:eD H a)(g:mW f c q ba H):mW f c q ba a:=⟨s.at' _ _ g.1,s.at' _ _ g.2⟩
def mW.upd(H:au)(p:Addr)(a:List V)(o:gP)(h:H p=some (.l a))(g:mW f c q ba H):mW f c q ba (upd H p o):=
 ⟨by rw[c3 (by rintro rfl;have:=g.1;rw[h]at this;cases this)];exact g.1,by rw[c3 (by rintro rfl;have:=g.2;rw[h]at this;cases this)];exact g.2⟩
def Vl{K:aN}{mg:bp}{N ps:List Str}{m:bt}{vs:List V}{H:au}{Q:cI}(h:e4 K mg (fnOf ps.length N.length (aZ m)) vs H Q i1):gr K mg m (aA.start N vs) H Q:=by
 obtain⟨O,ds,r,S,k,dQ,F,h,q⟩:=h;have hl:=yX h;unfold fnOf at h;rw[if_pos hl]at h;obtain⟨P,L,D,h⟩:=M.inv h;obtain⟨w,B,E,p⟩:=M.inv D;refine⟨dK O,_,S,w,B,(Gq k dQ F hl),E,λj v n g x y nn=>?_⟩
 let f:a5:=⟨λb=>match H b with|some _=>O b|none=>j b,O.bK⟩
 have u:∀b,H b≠none->f b=O b:=λb c=>by
  show(match H b with|some _=>O b|none=>j b)=O b
  cases e:H b with
  |none=>exact absurd e c|some o=>rfl
 have s:∀b,H b=none->f b=j b:=λb c=>by
  show(match H b with|some _=>O b|none=>j b)=j b;rw[c]
 have dd:lK j f:=⟨λb c=>by
  by_cases i:H b=none
  .rw[s b i];exact c
  .rw[u b i];exact oj.mp ((g.own b i).symm.trans c),g.bK.symm⟩
 have go:Go O f H n:=⟨g.same,λb c=>u b c,rfl⟩;have cm:df f n:=⟨λb c=>by
  by_cases i:H b=none
  .rw[s b i]at c;exact x.cm.has b c
  .exact g.same.some i,x.cm.tabs,k.rh.1,λb m=>(u b (k.has b (by rw[k.rh.2 b m];intro z;cases z))).trans (k.rh.2 b m)⟩
 cases w with
 |v d=>
  cases p;cases h;exact q f v n go cm (Rep.dd dd y) trivial
 |fr A=>
  cases p;cases h;obtain⟨a,J,rfl,l,t,G⟩:=y;exact q f _ n go cm ⟨a,J,rfl,l,(s a (nn a rfl)).trans t,G.dd dd⟩ nn
 |b5 A=>cases p
 |mv A=>cases p
section
variable{X:aQ}{k:Nat}{f c:Addr}{name q:Str}{params:anR}{body:Expr}{scope:Scope}{pm g_:Value}{N ps:List Str}{m:bt}
theorem Oe{p1:Str}(a:g8 N [p1] scope)(O:∀(u:Value),anf (W.kla_fn name q params body scope [] pm (.ref c) g_) ⟨[u],[]⟩=pure [(p1,u)])
  (B:∀(A:alI)(s:alc)(H:au),cB k (A.deeper (anA q scope s.heap.objs.size f (.ref c)))->hB (ha eC X.prog X.w X.K X.mg X.base N q scope f (.ref c) A X.stack s H i1).gI body m) :
  oa X (k+1) f (mW f c q (W.kla_obj name q params body scope [] pm c g_)) (fnOf 1 N.length (aZ m)):=by
 refine⟨mW.mono,mW.upd,λA s H u v Q i d g E L=>?_⟩;obtain⟨G,_⟩:=d.cf f _ g.1;obtain⟨J,_⟩:=d.cf c _ g.2;have l:∀y∈[p1].zip [u],scope.names.lookup y.1=some .local\/(scope.names.lookup y.1=some .cell/\((cellsFrom (s.heap.objs.size+1) scope.names []).lookup y.1).isSome=true):=λz t=>by
  obtain⟨n,v⟩:=z;rcases a.par n (anK t).1 with q|q
  .exact .inl q
  .exact .inr ⟨q,ao7 _ _ _ (.inl q)⟩
 refine W.kla_callFunE i.depth G rfl a.co a.gen rfl J ?_;rw[O];refine alm<|wpAny_newFunctionEnv_cells a.kind l λenv he j x=>?_
 subst he;refine⟨(d.mod.nolimit.keeps λb o e=>(d.bs b o e).1).keeps x.toInCall.keep,W.kla_codeExpr ?_⟩;have I:Inv (ha eC X.prog X.w X.K X.mg X.base N q scope f (.ref c) A X.stack s H i1) [] (aA.start N [v]) H j:=NB a i.hd d rfl (.cons E .nil) x;refine al9 ((b6.gI (B A s H (i.deeper _))) [] j (aA.start N [v]) H _ I (Vl (ps:=[p1]) L)) (λu' r aw=>?_) λe r aw=>aw
 obtain⟨F,p,h,D,M⟩:=aw;exact⟨F,p,h.os,h.bare,h.base,h.cf,D,M⟩
end
end aC
namespace aC
open PySem PySem.Spec aA PyProof.Rows
theorem QL{a b:Int}:∀l:List Value,apj l->apj (l++[anD a,anD b,c])
 |[],_=>trivial|.int _ _::.int _ _::_::rest,h=>QL rest h
theorem Hz{pos e:Pos}:∀l:List Value,apj l->aoH e (l++[anD pos.line,anD pos.col,c])=some o->aoH e l=some o\/o=c
 |[],_,h=>by
  right;have h:(if((pos.line:Int)==e.line&&(pos.col:Int)==e.col)=true then some c else none)=some o:=h;split at h
  .cases h;rfl
  .cases h
 |.int a _::.int b _::d::rest,t,h=>by
  have h:(if(a==e.line&&b==e.col)=true then some d else aoH e (rest++[anD pos.line,anD pos.col,c]))=some o:=h;show(if(a==e.line&&b==e.col)=true then some d else aoH e rest)=some o\/_;split at h
  .rename_i f;rw[if_pos f];exact .inl h
  .rename_i f;rw[if_neg f];exact Hz rest t h
variable[aA.a0]
section
variable{X:aQ}{ae:cZ}{U:aA.St}{H:au}{s:alc}{O:a5}{c P:Addr}{q:Str}{params:anR}{body:Expr}{scope:Scope}{pos:Pos}
def Od(I:Inv X ae U H s)(cM:df O H)(L:p0 X.K c P q)(B:kb X.base X.mg)(nv:X.env.code=.ref c)(a9:X.env.qual++alG "<lambda>"=q)(oK:ao0 params X.env=([],[]))(nu:anY scope X.env=pure []) :
  wpAny (model X.prog X.w) X.A (eval (.Lambda params body scope pos) X.env) (λu a7=>∃(f c':Addr)(pm E:Value)(J:au),u=.ref f/\Inv X ae U J a7/\Go O O H J/\df O J/\mW f c' q (W.kla_obj (alG "<lambda>") q params body scope [] pm c' E) J) X.dS s:=by
 obtain⟨ps,i,R,Y⟩:=cM.tabs P L.ic;rw[L.uJ]at Y;have Mv:=I.cf P _ i;have Js:∀b o,X.base.get? b=some o->b≠P:=λb o e z=>by
  subst z;have:=(I.bs b o e).2;rw[i]at this;cases this
 have qm:=I.mod.glob.keeps I.bk;have Yx:alU≠P:=by
  obtain⟨o,az,cv,e,_⟩:=I.mod.glob;exact Js _ _ e
 have nr:s.heap.BuiltinsAt X.mg P:=by
  obtain⟨bm,o,cx,cD,ho,hJ,jq⟩:=B.ex;exact⟨bm,o,cx,cD,ho,Js _ _ hJ,I.bk _ _ hJ,jq⟩
 have C:=L.hd _ I.f7;refine W.kla_eval oK ?_;rw[a9]
 cases iP:aoH pos ps.toList with
 |some G=>
  obtain⟨c',rfl,y7⟩:=Y pos G iP;refine W.kla_makeFunctionHit nu I.ok.glob qm nv C Mv R iP nr λE h' tk ar hg=>?_
  have M:=I.cf.fresh hg;have go:Go O O H (upd H h'.objs.size (.ext (Fn h'.objs.size (W.kla_obj (alG "<lambda>") q params body scope [] ((X.mg (alG "__name__")).getD .none) c' E)))):=Go.gH M;refine⟨h'.objs.size,c',_,E,_,rfl,I.laid (λb o e=>ak9 _ (ar b o e)) hg ?_,go,cM.same go.same,dZ,go.same.at' _ _ y7⟩;exact⟨alk _ rfl,⟨_,alk _ rfl⟩,λx a p r=>r _ p⟩
 |none=>
  refine W.kla_makeFunction nu I.ok.glob qm nv C Mv R iP Yx nr λc' E h' tk N M1 fw D0 Nm=>?_
  have Nb:=I.cf.fresh M1
  let Q:=ps++#[anD pos.line,anD pos.col,.ref c']
  let D:=upd (upd H P (.gc Q)) c' (.ext (rj c' q))
  have j:∀{b:Addr},b≠P->b≠c'->D b=H b:=λx a=>by show upd _ _ _ _=_;rw[c3 a,c3 x]
  have S:D P=some (.gc Q):=by show upd _ _ _ _=_;rw[c3 ((kF i Nb).symm).symm];exact dZ
  have V:D c'=some (.ext (rj c' q)):=dZ;have Z:∀{b:Addr}{o:Obj},s.heap.get? b=some o->b≠c':=λe=>alQ (alO (alq e) M1)
  have m:∀{b:Addr}{o:gP},H b=some o->b≠c':=λe=>kF e Nb
  have un:gR X.aX [] H D s.heap h':=by
   refine⟨λb o e n _ _=>N b o (by rintro rfl;rw[i]at n;cases n) e,λb o e n _ _=>⟨o.slots,N b o (by rintro rfl;rw[i]at n;cases n) e⟩,
    λb o e n _=>by rw[j (by rintro rfl;rw[i]at n;cases n) (Z e)];exact n,λb o e _=>?_,λb xs e=>?_,λb o u e=>?_,λb T e=>?_⟩
   .by_cases k:b=P
    .rw[k];exact⟨_,Nm⟩
    .exact⟨o,N b o k e⟩
   .rw[j (by rintro rfl;rw[i]at e;cases e) (m e)];exact e
   .rw[j (by rintro rfl;rw[i]at e;cases e) (m e)];exact e
   .by_cases k:b=P
    .subst k
     rw[i]at e;cases e;exact⟨_,S⟩
    .exact⟨#[],by rw[j k (m e),e];simp⟩
  have cf:gg X.prog X.w D h':=λb u e=>by
   by_cases x:b=c'
   .subst x
    rw[V]at e;cases e;obtain⟨aj,c1,vs,t,gO,eZ,xV,Bh⟩:=D0;cases gO;exact⟨⟨_,c1,vs,t,rfl,eZ,xV,Bh⟩,⟨_,eZ⟩,λx a aT r=>by obtain⟨e',acZ,agQ,t3,Bd,Be,ahW,ahX⟩:=aT;cases Bd;exact⟨_,acZ,agQ,t3,rfl,r _ Be,ahW,ahX⟩⟩
   .by_cases a:b=P
    .subst a
     rw[S]at e;cases e;exact Nm
    .rw[j a x]at e
     refine(I.cf b u e).so (λd o hd lX=>N d o (λz=>?_) lX) (λd y=>?_) λd xs y=>?_
     .rcases hd with rfl|hd
      .exact a z
      .rw[z,i]at hd;cases hd
     .rw[j (by rintro rfl;rw[i]at y;cases y) (m y)];exact y
     .rw[j (by rintro rfl;rw[i]at y;cases y) (m y)];exact y
  have M:=cf.fresh (alf _);have aff:eD H D:=by
   refine⟨λb o e n=>by rw[j (by rintro rfl;rw[i]at e;cases e;exact n) (m e)];exact e,λb T e=>?_,λg q7 Wi=>?_⟩
   .by_cases k:b=P
    .exact⟨Q,by rw[k];exact S⟩
    .exact⟨T,by rw[j k (m e)];exact e⟩
   .obtain⟨T,aq,aE,cX⟩:=g q7 Wi
    by_cases k:q7=P
    .subst k
     refine⟨Q,S,?_,λl G F=>?_⟩
     .show apj (ps++#[anD pos.line,anD pos.col,.ref c']).toList
      rw[Array.toList_append];exact QL _ R
     .have F:=F
      rw[Array.toList_append]at F;rw[L.uJ];rcases Hz _ R F with h|h
      .obtain⟨aj,rfl,a⟩:=Y l G h
       exact⟨aj,rfl,by rw[j (by rintro rfl;rw[i]at a;cases a) (m a)];exact a⟩
      .exact⟨c',h,V⟩
    .refine⟨T,by rw[j k (m aq)];exact aq,aE,λl G F=>?_⟩
     obtain⟨aj,x,a⟩:=cX l G F;exact⟨aj,x,by rw[j (by rintro rfl;rw[i]at a;cases a) (m a)];exact a⟩
  have go:Go O O H (upd D h'.objs.size (.ext (Fn h'.objs.size (W.kla_obj (alG "<lambda>") q params body scope [] ((X.mg (alG "__name__")).getD .none) c' E)))):=(⟨aff,λ_ _=>rfl,rfl⟩:Go O O H D).trans (Go.gH M);refine⟨h'.objs.size,c',_,E,_,rfl,(I.un (t':=tk) un cf).laid (λb o e=>ak9 _ e) (alf _) ?_,go,cM.same go.same,dZ,(uP M _).at' _ _ V⟩;exact⟨alk _ rfl,⟨_,alk _ rfl⟩,λx a p r=>r _ p⟩
end
end aC
namespace aC
open PySem PySem.Spec aA PyProof.Rows
def T8:al2 "sorted"=some (.builtin "sorted"):=by decide +kernel
def tO(Z:iE)(mf:bq)(d:D):Option Z.κ.α:=match(mf [d]).run []with
 |.ok (.v x) []=>Z.un x|_=>none
def keysOf(Z:iE)(mf:bq):List D->Option (List Z.κ.α)
 |[]=>some []|d::ds=>match tO Z mf d,keysOf Z mf ds with
  |some a,some as=>some (a::as)|_,_=>none
def m4{α:Type}(blt:α->α->Bool):List α->Bool
 |[]=>true|a::r=>r.all (λb=>blt a b||blt b a)&&m4 blt r
def oC(Z:iE)(mf:bq)(x:R):M R:=match x.fz with
 |some ds=>match keysOf Z mf ds with
  |some a=>if m4 Z.κ.blt a=true/\ds.length<64 then pure (.fr ((jH Z.κ.blt (a.zip ds)).map (·.2)))else bad|none=>bad
 |none=>bad
@[simp] def p9(Z:iE)(mf:bq)(ma:bt)(U:aG):M R:=do
 let x <-ma U
 oC Z mf x
theorem N0{Z:iE}{mf:bq}(u1:∀d a,Z.un d=some a->d=Z.es a):∀{ds:List D}{b:List Z.κ.α},keysOf Z mf ds=some b->b.length=ds.length/\∀(i:Nat)(d:D),ds[i]? = some d->∃κ,b[i]? = some κ/\(mf [d]).run []=.ok (.v (Z.es κ)) []
 |[],b,h=>by cases h;exact⟨rfl,λi d h=>by simp at h⟩
 |d::ds,b,h=>by
  unfold keysOf at h;split at h
  .rename_i a as c f
   cases h;obtain⟨l,r⟩:=N0 u1 f;refine⟨by rw[alP,alP,l],λi e he=>?_⟩
   cases i with
   |zero=>
    cases(show some d=some e from he);refine⟨a,rfl,?_⟩;unfold tO at c;split at c
    .rename_i x g
     rw[g,u1 x a c]
    .cases c
   |succ i=>
    obtain⟨κ,aq,aE⟩:=r i e he;exact⟨κ,by simpa using aq,aE⟩
  .cases h
theorem HB(Q:amD):∀{l:List Q.α},m4 Q.blt l=true->l.Nodup
 |[],_=>.nil|a::r,h=>by
  unfold m4 at h;rw[alC,alW]at h;rw[al7];refine⟨λhm=>?_,HB Q h.2⟩;have:=h.1 a hm;rw[Q.irrefl]at this;cases this
variable[aA.a0]
section
variable{X:aQ}{k:Nat}{e:Expr}{ma:bt}{Z:iE}{p pos kp:Pos}{i_:Expr}{mf:bq}{G:Addr->au->Prop}
def Us(N:Z.Ok)(C:ee X "sorted")(hm:X.mg "sorted"=none)(o:cB (k+2) X.A)(ao:hB X e ma)
  (er:∀(j:cZ)(s:alc)(U:aA.St)(O:a5)(H:au),Inv X j U H s->df O H->
   wpAny (model X.prog X.w) X.A (eval i_ X.env) (λu Y=>∃(f:Addr)(t:au)(G:au->Prop),u=.ref f/\Inv X j U t Y/\Go O O H t/\df O t/\G t/\oa X k f G mf) X.dS s)
  (he:sY X pos e:=by rfl)
  (aw:e_ X e []:=by rfl)
  (h7:f5 X pos [e]:=by rfl) :
  hB X (.Call (.Name "sorted" p) [e] [⟨some (alG "key"),i_,kp⟩] pos) (p9 Z mf ma):=by
 rintro j s U H Q I ⟨O,P,S,r,ah,st,h,q⟩;obtain⟨x,B,ab,h⟩:=M.inv h;obtain⟨ds,g,oL,W,T,la,rfl,rfl⟩:∃ds g,x.fz=some ds/\keysOf Z mf ds=some g/\m4 Z.κ.blt g=true/\ds.length<64/\r=.fr ((jH Z.κ.blt (g.zip ds)).map (·.2))/\B=ah:=by
  unfold oC at h;split at h
  .rename_i ds aq
   split at h
   .rename_i g aE
    by_cases c:m4 Z.κ.blt g=true/\ds.length<64
    .rw[if_pos c]at h
     cases h;exact⟨ds,g,aq,aE,c.1,c.2,rfl,rfl⟩
    .rw[if_neg c]at h;cases h
   .cases h
  .cases h
 obtain⟨n,tB⟩:=N0 N.u1 W;refine amo (nK I C hm T8 ?_);refine callWith_kw ?_ he h7 rfl rfl;refine bZ ((uE ao xg aw) pos j s U H (λvs i=>∃v d,vs=[v]/\Go O d H i/\cC X.K X.mg d P B U i/\ek X.K X.mg d i x v) I ⟨O,P,S,x,B,st,ab,λd v i z y F nn=>⟨v,d,rfl,z,y,F⟩⟩) λus s1 D=>?_
 obtain⟨vs,i,bx,bD,v,d,ev,z,y,F⟩:=D;subst ev;obtain⟨l,ys,rfl,hl,ra⟩:=R.oV F oL;obtain⟨u,rfl,eo⟩:=vals1 bD;cases eo;refine wpAny_evalAll_cons (ak7 (bZ (er j s1 U d i bx y.cm) λu s2 ar=>ak7 (an8 (alm ?_))));obtain⟨f,aJ,G,rfl,cc,m,c9,V,fu⟩:=ar;refine wpAny_evalAll_nil<|bZ (afx N cc c9 (ra.go m) (m.same.seq hl) fu V o tB n (HB Z.κ.toKeyOrd T) la) λu s3 D=>?_
 obtain⟨a,ng,l6,fT,J,zs,dV,L,tc,rJ,uC,E⟩:=D;subst ng;refine⟨.ref a,J,dV,rfl,q fT _ J (z.trans (m.trans L)) (y.go (m.trans L) tc) ⟨a,zs,rfl,rJ,uC,E⟩ λb dg=>?_⟩;cases dg;exact(z.trans m).same.free l6
def Ut{c P:Addr}{q p1:Str}{params:anR}{body:Expr}{scope:Scope}{y:Pos}{N:List Str}{m:bt}(z:Z.Ok)(j:ee X "sorted")(hm:X.mg "sorted"=none)(i:cB (k+3) X.A)(L:p0 X.K c P q)(B:kb X.base X.mg)(M:X.env.code=.ref c)
  (h:X.env.qual++alG "<lambda>"=q) (g:g8 N [p1] scope)
  (E:∀(c:Addr)(b a u:Value),anf (W.kla_fn (alG "<lambda>") q params body scope [] b (.ref c) a) ⟨[u],[]⟩=pure [(p1,u)])
  (l:∀(f c:Addr)(A:alI)(s:alc)(H:au),cB k (A.deeper (anA q scope s.heap.objs.size f (.ref c)))->hB (ha eC X.prog X.w X.K X.mg X.base N q scope f (.ref c) A X.stack s H i1).gI body m)
  (n:hB X e ma) (Q:ao0 params X.env=([],[]):=by rfl) (J:anY scope X.env=pure []:=by rfl)
  (he:sY X pos e:=by rfl)
  (aw:e_ X e []:=by rfl)
  (x:f5 X pos [e]:=by rfl) :
  hB X (.Call (.Name "sorted" p) [e] [⟨some (alG "key"),.Lambda params body scope y,kp⟩] pos) (p9 Z (fnOf 1 N.length (aZ m)) ma):=
 Us z j hm i n (λS s U O H I r=>bZ (Od I r L B M h Q J) λu R ⟨f,c',b,a,d,F,t,g',d',D⟩=>
  ⟨f,d,_,F,t,g',d',D,Oe g (E c' b a) (l f c')⟩) he aw x
end
def y6{P:aly}{w:World}{K:aN}{mg:bp}{base:Heap}{x:Str}{st:Stmt}{ps N:List Str}{k:Nat}{p:aM}{n nl:Nat}{c:Addr}(g7:g7 K mg x st ps)(M:∀(f:Addr)(c1:Value)(i:Option Addr)(dy a l:Value)(g:Option Addr)(d cz:Value)(j:Array (Option Value)),mg x=some (.ref f)->K.lookup f=some ⟨c1,i,.func (amW x x (iO st) (fO st) (dm st) .none dy a l g d cz),j⟩->d=.ref c)
  (u:g8 N ps (dm st)) (y:ps.length=n) (hl:N.length=nl)
  (B:∀(f:Addr)(A:alI)(outer:List Env)(s:alc)(H:au)(E:gx),cB k (A.deeper (amc x (dm st) s.heap.objs.size f (.ref c)))->
   vc (ha eC P w K mg base N x (dm st) f (.ref c) A outer s H E).gI (fO st) p):eH P w K mg base x ps (k+1) (e4 K mg (fnOf n nl p)):=by
 obtain⟨f,G,F,b,m⟩:=g7.ex;refine⟨f,G,?_,b,F.kp,m⟩;obtain⟨c1,i,dy,a,l,g,d,cz,j,rfl,t,J⟩:=F.ex;have e:=M f c1 i dy a l g d cz j m t;subst e;subst y hl;refine Di t J u (λvs H Q E ⟨O,ds,r,R,S,dQ,D,h,q⟩=>D.len.trans (yX h)) λA outer s H vs Q E z L=>⟨_,(B f A outer s H E z).gI,JB L⟩
end aC
namespace aA
open PySem PySem.Spec PyProof.Rows
def h9(r:Int->Int->Bool)(z:Nat->Nat->Bool):List Int->List Int->Bool
 |x::xs,y::ys=>if x=y then h9 r z xs ys else r x y|xs,ys=>z xs.length ys.length
def Oq(r:Int->Int->Bool)(z:Nat->Nat->Bool)(x y:Int)(xs a:List Int):h9 r z (x::xs) (y::a)=if x=y then h9 r z xs a else r x y:=rfl
def aaD(r:Int->Int->Bool)(z:Nat->Nat->Bool)(a:List Int):h9 r z [] a=z 0 a.length:=by cases a<;>rfl
def aaE(r:Int->Int->Bool)(z:Nat->Nat->Bool)(xs:List Int):h9 r z xs []=z xs.length 0:=by cases xs<;>rfl
inductive iG where
 |lt|le|gt
def iG.op:iG->CmpOp
 |.lt=>.Lt|.le=>.LtE|.gt=>.Gt
abbrev iG.r(c:iG)(i j:Int):Bool:=match c with
 |.lt=>decide (i<j)|.le=>decide (i<=j)|.gt=>decide (j<i)
abbrev iG.z(c:iG)(i j:Nat):Bool:=match c with
 |.lt=>decide (i<j)|.le=>decide (i<=j)|.gt=>decide (j<i)
def iG.B:iG->Builtin
 |.lt=>Builtin.«tuple.__lt__»|.le=>Builtin.«tuple.__le__»|.gt=>Builtin.«tuple.__gt__»
abbrev lexLt:List Int->List Int->Bool:=h9 (λi j=>decide (i<j)) (λi j=>decide (i<j))
abbrev lexLe:List Int->List Int->Bool:=h9 (λi j=>decide (i<=j)) (λi j=>decide (i<=j))
abbrev oU:List Int->List Int->Bool:=h9 (λi j=>decide (j<i)) (λi j=>decide (j<i))
def iG.u9(c:iG){a b d e:Nat}(h:a+e=b+d):c.z a b=c.z d e:=by cases c<;>exact decide_eq_decide.mpr (by omega)
def iG.pC(c:iG)(m n:Nat):Builtin.Tuple.tupleCompareSizes c.op m n=.bool (c.z m n):=by cases c<;>rfl
section
open PySem.SeqAt
open PySem.AutoSeq1 (wpAny_loadPart')
open PySem.MeetsSeq PySem.MeetsSeq2 PySem.MeetsSeq3
set_option maxHeartbeats 0 in
def GD(i:iG)(l b:Addr)(f m:Array Value)(n Y:Nat)(dG Z:Option Addr)(bc xt:Array (Option Value))(ns ms:List Int)(hi:anc f.toList ns)(S:anc m.toList ms) :
  Meets (i.B ⟨[.ref l,.ref b],[]⟩)
   (λ_ R s=>s.heap.get? l=some { cls:=.type "tuple",dict:=dG,data:=.seq f n,slots:=bc }/\s.heap.get? b=some { cls:=.type "tuple",dict:=Z,data:=.seq m Y,slots:=xt }/\
    R (.ok (.ret (.bool (h9 i.r i.z ns ms)))) s):=
 .of_wp λprog w A R s h=>by
  have pC:=i.pC;have u9:=@iG.u9 i;have O:∀(A:alI)(a c:Int)(t u:Tok)(E:dp)(Q:dp)(s:alc),Q (.bool (i.r a c)) s->wpAny (model prog w) A (richCompare i.op (.int a t) (.int c u)) Q E s:=by
   cases i<;>intro A a c t u E Q s h
   .exact(PyProof.Rows.lt_int h:wpAny (model prog w) A (alY .Lt (.int a t) (.int c u)) Q E _)
   .exact(PyProof.Rows.le_int h:wpAny (model prog w) A (alY .LtE (.int a t) (.int c u)) Q E _)
   .exact(PyProof.Rows.gt_int h:wpAny (model prog w) A (alY .Gt (.int a t) (.int c u)) Q E _)
  have L:∀{x y:Int}{xs T:List Int},h9 i.r i.z (x::xs) (y::T)=if x=y then h9 i.r i.z xs T else i.r x y:=rfl
  generalize i.r=C at *;generalize i.z=o at *;obtain⟨K,g,d,tk,os⟩:=s;obtain⟨hl,X,h⟩:=h;cases i
  all_goals
   dsimp only[iG.op]at O pC;have f2:=ao8;have gO:f.size=ns.length:=by rw[<-hi.length];simp
   have eZ:m.size=ms.length:=by rw[<-S.length];simp
   wp_walk using wpAny_loadPart' hl,wpAny_loadPart' X,wpAny_forIn_list _ (λrest b J=>b.1=none/\J=⟨K,g,d,tk,os⟩/\∃(vs F:List Value)(D p:List Int),rest=vs.zip F/\
    anc vs D/\anc F p/\D.length+m.size=p.length+f.size/\R (.ok (.ret (.bool (h9 C o D p)))) ⟨K,g,d,tk,os⟩) _
   case turn=>
    rintro⟨y,x⟩ rest b J ⟨M,rfl,vs,F,D,p,hz,G,H,j,k⟩
    cases G with
    |nil=>rw[List.zip_nil_left]at hz;cases hz
    |cons a t V=>
     cases H with
     |nil=>rw[List.zip_nil_right]at hz;cases hz
     |cons c u W=>
      rw[anV]at hz;injection hz with U I
      injection U with aO ag
      subst aO ag;rw[L]at k;simp only[alP]at j;obtain⟨e,he,N⟩:=c7.U8 A.in1 ⟨K,g,d,tk,os⟩ a t c u;refine ak7 (he prog w _ _ ?_)
      cases e with
      |true=>
       rw[if_pos (N.mp rfl)]at k
       wp_walk
       exact⟨rfl,rfl,_,_,_,_,I,V,W,by omega,k⟩
      |false=>
       rw[if_neg (λq=>absurd (N.mpr q) alg)]at k
       wp_walk using O
       exact⟨_,rfl,by simpa using k⟩
   case fin=>
    rintro⟨cx,cD⟩ J ⟨M,rfl,vs,F,D,p,hz,G,H,j,k⟩;simp only at M;subst M;have P:h9 C o D p=o f.size m.size:=by
     cases G with
     |nil=>
      rw[aaD];simp only[amm]at j;exact u9 (by simp only[amm]at *;omega)
     |cons a t P=>
      cases H with
      |nil=>
       rw[aaE];simp only[amm]at j;exact u9 (by simp only[amm]at *;omega)
      |cons c u hw=>
       rw[anV]at hz;cases hz
    rw[P]at k
    wp_walk
    exact⟨_,rfl,by rw[pC];exact k⟩
   case h=>
    exact⟨rfl,rfl,f.toList,m.toList,ns,ms,rfl,hi,S,by omega,h⟩
end
def JJ(c:iG){prog:aly}{w:World}{A:alI}{E:dp}{s:alc}{l b:Addr}{a g:Array Value}{ns ms:List Int}{Q:dp}(hl:IsTup s.heap l a)(B:IsTup s.heap b g)(hi:anc a.toList ns)(j:anc g.toList ms)
  (k:A.units<cLine) (h:Q (.bool (h9 c.r c.z ns ms)) s):wpAny (model prog w) A (alY c.op (.ref l) (.ref b)) Q E s:=by
 obtain⟨⟨cls,dG,data,bc⟩,d,u,i,hd⟩:=id hl;obtain⟨⟨D,q,m,t⟩,e,y,p,f⟩:=id B;simp only at u hd y f;subst u hd y f;have n:aps (h9 c.r c.z ns ms)≠Value.notImplemented/\Q (.bool (h9 c.r c.z ns ms)) s:=⟨(λx=>nomatch x),h⟩;cases c
 .exact an6 (op:=.Lt) ⟨_,d,rfl⟩ ⟨_,e,rfl⟩ PySem.F.slot_tuple_lt PySem.F.entry_tuple_lt (PySem.F.args_tuple_lt_2 _ _) (GD .lt l b a g i p dG q bc t ns ms hi j) ⟨d,e,n⟩ k
 .exact an6 (op:=.LtE) ⟨_,d,rfl⟩ ⟨_,e,rfl⟩ PySem.F.slot_tuple_le PySem.F.entry_tuple_le (PySem.F.args_tuple_le_2 _ _) (GD .le l b a g i p dG q bc t ns ms hi j) ⟨d,e,n⟩ k
 .exact an6 (op:=.Gt) ⟨_,d,rfl⟩ ⟨_,e,rfl⟩ PySem.F.slot_tuple_gt PySem.F.entry_tuple_gt (PySem.F.args_tuple_gt_2 _ _) (GD .gt l b a g i p dG q bc t ns ms hi j) ⟨d,e,n⟩ k
def Pb(c:iG)(m:X.A.units+64<cLine):d0 X (alY c.op) (λx y H Q=>∃a b ns ms,x=.ref a/\y=.ref b/\dB X.K H a (ns.map V.int)/\dB X.K H b (ms.map V.int)/\Q (.av (h9 c.r c.z ns ms)) H):=by
 intro l s U H x y v u Q I d g h;obtain⟨a,b,ns,ms,rfl,rfl,f,e,q⟩:=h;cases d;cases g;obtain⟨k,i,p1,_⟩:=I.tuple f;obtain⟨n,j,cG,_⟩:=I.tuple e;exact JJ c p1 cG (intsAre_of i) (intsAre_of j) (by omega) ⟨.av (h9 c.r c.z ns ms),H,I,rfl,q⟩
def ada(c:X.A.units+64<cLine):d0 X (alY .Lt) (λx y H Q=>∃a b ns ms,x=.ref a/\y=.ref b/\dB X.K H a (ns.map V.int)/\dB X.K H b (ms.map V.int)/\Q (.av (lexLt ns ms)) H):=Pb .lt c
def ac9(c:X.A.units+64<cLine):d0 X (alY .LtE) (λx y H Q=>∃a b ns ms,x=.ref a/\y=.ref b/\dB X.K H a (ns.map V.int)/\dB X.K H b (ms.map V.int)/\Q (.av (lexLe ns ms)) H):=Pb .le c
def V7{A:alI}{s:alc}{a c:Array Value}{ns ms:List Int}{Q:dp}(hl:IsTup s.heap l a)(d:IsTup s.heap b c)(hi:anc a.toList ns)(e:anc c.toList ms)(f:A.units<cLine)(h:Q (.bool (oU ns ms)) s):wpAny (model prog w) A (alY .Gt (.ref l) (.ref b)) Q E s:=JJ .gt hl d hi e f h
end aA
namespace aC
open PySem PySem.Spec aA
def uv(g:List Int->List Int->Bool):R->R->M R
 |.v (.t xs),.v (.t ys)=>match nums xs,nums ys with
  |some ns,some ms=>pure (.v (.av (g ns ms)))|_,_=>bad
 |_,_=>bad
variable[aA.a0]
def HJ{g:List Int->List Int->Bool}:ei K mg (λx y H Q=>∃a b ns ms,x=.ref a/\y=.ref b/\dB K H a (ns.map V.int)/\dB K H b (ms.map V.int)/\Q (.av (g ns ms)) H) (uv g):=λO U S m H x y k n p l Q st f e h q=>by
 unfold uv at h;split at h
 .rename_i xs r
  split at h
  .rename_i ns ms aq aE
   cases h;obtain⟨a,as,rfl,d,j⟩:=f;obtain⟨b,bs,rfl,c,i⟩:=e;rw[Ad j aq]at d;rw[Ad i aE]at c;exact⟨a,b,ns,ms,rfl,rfl,d,c,q O _ H (Go.refl _ _) st rfl trivial⟩
  .cases h
 .cases h
end aC
namespace aC
open PySem PySem.Spec aA PyProof.Rows
def tR(x:Str):Str:=x++alG ".<locals>."++alG "<lambda>"
def oQ(K:aN)(P:Addr)(x:Str):Bool:=match W.tabIn K x with
 |some (_,o)=>o==P|none=>false
abbrev uX(K:aN)(ln:List Str):a0:=⟨λP=>∃x∈ln,∃c,W.tabIn K x=some (c,P),λP=>match ln.find? (oQ K P)with
 |some x=>tR x| none=>""⟩
def aeK{K:aN}{ln:List Str}{x:Str}{c P:Addr}(b:x∈ln)(d:W.tabIn K x=some (c,P))(inj:∀y∈ln,oQ K P y=true->y=x):(uX K ln).uJ P=tR x:=by
 show(match ln.find? (oQ K P)with|some x=>tR x|none=>"")=_;have a:oQ K P x=true:=by unfold oQ;rw[d];exact beq_self_eq_true P
 cases e:ln.find? (oQ K P)with
 |none=>exact absurd a (List.find?_eq_none.mp e x b)|some y=>
  rw[inj y (amN e) (anM e)]
def xC{K:aN}{x:Str}{f c P:Addr}{c1 g:Value}{i h:Option Addr}{b:ame}{bc k:Array (Option Value)}{vs:Array Value}(a:an5 K alU x=some (some (.ref f)))(l:K.lookup f=some ⟨c1,i,.func b,bc⟩)(j:b.code=.ref c)
  (d:K.lookup c=some ⟨g,h,.fields vs,k⟩) (e:vs[11]? = some (.ref P)):W.tabIn K x=some (c,P):=by
 unfold W.tabIn;rw[a];simp only[l,j,d,e]
def Yb{K:aN}{c P:Addr}{p:Option Addr}{bc:Array (Option Value)}{vs:Array Value}{b:Str}{f cg g:Tok}{a e:Int}{i:Bool}(d:K.lookup c=some ⟨.type "code",p,.fields vs,bc⟩)(q:vs[11]? = some (.ref P))(l:vs.getD 11 .none=.ref P)
  (m:vs.getD 18 .none=.str b f) (j:vs.getD 7 .none=.int a cg) (n:vs.getD 9 .none=.bool i) (k:vs.getD 10 .none=.int e g) (ne:c≠P):∀h,K.In h->W.CodeHd h c P:=λh X=>
 ⟨_,vs,b,f,a,cg,i,e,g,X _ _ d,rfl,rfl,q,l,m,j,n,k,ne⟩
def Uy{K:aN}{st:Stmt}{g:ame}(X:K.In h)(G:h.Ns alU mg)(a:an5 K alU x=some (some (.ref o)))(l:K.lookup o=some ⟨C,I,.func g,U⟩)(n:g.code=.ref c) :
  ∀(f:Addr)(c1:Value)(j:Option Addr)(dy b m:Value)(i:Option Addr)(d cz:Value)(k:Array (Option Value)),mg x=some (.ref f)->K.lookup f=some ⟨c1,j,.func (amW x x (iO st) (fO st) (dm st) .none dy b m i d cz),k⟩->d=.ref c:=by
 intro f c1 j dy b m i d cz k hm hl;have e:=aoA X G a;rw[hm]at e;cases e;rw[l]at hl;cases hl;exact n
def R5{l:W.OpenLaw}{w:World}{K:aN}{mg:bp}{fa:Addr}{k:Nat}{st:Stmt}[aA.a0](i:mg "law"=some (.ref fa))(h:g7 K mg "law" st ["script"])
  (j:∀(dy c g:Value)(d:Option Addr)(e cz v:Value),anf (amW "law" "law" (iO st) (fO st) (dm st) .none dy c g d e cz) ⟨[v],[]⟩=pure [(("script":Str),v)])
  (ok:∀(base:Heap),kb base mg->∀(f:Addr)(a:ame),kX K "law" "law" st f a->e6 l.prog w K mg base eC k f a ["script"] (xv K)) :
  ∃a:ame,(∀(s:alc)(v:Value),BindsTo s a ⟨[v],[]⟩ [("script",v)])/\∀base:Heap,K.In base->base.Ns alU mg->kb base mg->e6 l.prog w K mg base eC k fa a ["script"] (xv K):=by
 obtain⟨f,a,F,b,m⟩:=h.ex;cases(alE (i.symm.trans m));refine⟨a,λs v=>?_,λbase _ _ bm=>ok base bm fa a F⟩;obtain⟨c1,n,dy,c,g,d,e,cz,p,rfl,r,q⟩:=F.ex;exact .of_eq (j dy c g d e cz v)
def aat{P:aly}{w:World}{K:aN}{mg N:bp}{k:Nat}{fa a:Addr}{Z:ame}{c:alc}{vs:List Value}{ns:List Int}[aA.a0]
  (Y:K.In c.heap) (zf:c.heap.Ns alU mg) (f:c.heap.Ns aoX N) (X8:∀x:Str,x≠"__name__"->N x=al2 x) (YL:c.heap.NoLimit) (aK:c.gens=#[])
  (A:c.heap.get? a=some { cls:=.type "list",data:=.seq vs.toArray }) (hi:anc vs ns) (hl:ns.length<=63) (aD:cB k ao3)
  (DE:kb c.heap mg) (F:∀base:Heap,K.In base->base.Ns alU mg->kb base mg->e6 P w K mg base eC k fa Z ["script"] (xv K)) (l4:∀(s:alc)(u:Value),BindsTo s Z ⟨[u],[]⟩ [("script",u)])
  (i:∀p,a0.ic p->c.heap.get? p=some (W.tabObj #[])/\isCodeTable c.heap p/\K.lookup p=none) :
  anH (model P w) ao3 (.call (.ref fa) ⟨[.ref a],[]⟩) (λr g=>r=.ok (.ret (.bool true))/\OldK c.heap g.heap/\g.os=c.os/\aoi g.gens) c:=by
 have X:=QW hi;have R:ns.length<=ald:=by rw[alM];omega
 have M:¬a0.ic a:=λz=>by have:=(i a z).1;rw[A]at this;cases this
 have j:∀H:au,(∀b,H b=none\/(∃o xs,H b=some (.cN o (.l xs)))\/(a0.ic b/\H b=some (.gc #[])))->dw K H a (ns.map V.int)->TabsOk H->gg P w H c.heap->(∀b,H b≠none->b=a\/a0.ic b)->(∀b,H b≠none->K.lookup b=none)->
   anH (model P w) ao3 (.call (.ref fa) ⟨[.ref a],[]⟩) (λr g=>r=.ok (.ret (.bool true))/\OldK c.heap g.heap/\g.os=c.os/\aoi g.gens) c:=by
  intro H Wh fv Wl cf U iu;have w6:∀{b:Addr}{o:Obj}{J:Array aol}{cv:Nat},c.heap.get? b=some o->o.data=.dict J cv->H b=none:=λ{b o J cv} e d=>by
   cases q:H b with
   |none=>rfl|some u=>
    rcases U b (by rw[q];simp)with C|C
    .subst C
     rw[A]at e;cases e;cases d
    .rw[(i b C).1]at e;cases e
     cases d
  have G:∀{b:Addr}{m:bp},c.heap.Ns b m->(oM c.heap H).Ns b m:=λ{b m} ⟨o,J,cv,e,d,r⟩=>⟨o,J,cv,DS e (w6 e d),d,r⟩
  have Q:K.In (oM c.heap H):=λb o e=>DS (Y b o e) (by
   cases q:H b with
   |none=>rfl| some u=>rw[iu b (by rw[q];simp)]at e;cases e)
  have DA:Mod K mg (oM c.heap H):=⟨Q,G zf,⟨N,G f,X8⟩,let⟨fH,ab,af⟩:=YL;⟨fH,G ab,af⟩⟩;have dX:kW P w K mg (oM c.heap H) ao3 [] c H:=⟨rfl,DA,λb o e=>ac0 e,anQ (Yz _ _),trivial,λb f=>absurd (show b∈([]:List Addr)from f) (by simp),cf,.of_eq aK⟩;have Wc:kb (oM c.heap H) mg:=by
   obtain⟨bm,o,cx,cD,ho,B,jq,ko,L⟩:=DE.ex;refine⟨bm,o,cx,cD,ho,DS B ?_,jq,ko,L⟩
   cases q:H bm with
   |none=>rfl|some u=>
    rcases U bm (by rw[q];simp)with C|C
    .subst C
     rw[A]at B;cases B;cases L
    .rw[(i bm C).1]at B;cases B
     cases L
  refine anz ((F _ Q (G zf) Wc).run ao3 [] c H ⟨[.ref a],[]⟩ [.ref a] [.ref a] (λv _=>v=.av true) i1 aD dX (l4 c (.ref a)) (.cons rfl .nil) ⟨a,ns,rfl,fv,hl,Wl,λ_=>rfl⟩) λr g h=>?_
  cases r with
  |error e=>exact alV h|ok aS=>
   cases aS with
   |next=>exact alV h
   |brk=>exact alV h|cont=>exact alV h|ret u=>
    obtain⟨v,H',os,bare,un,S,bC,q⟩:=h;have jd:=q;subst jd;obtain rfl:=bC;have n:∀b o,c.heap.get? b=some o->asItWas c.heap g.heap b o/\∃dD,g.heap.get? b=some dD:=λb o e=>by
     rcases Wh b with z|⟨ba,xs,z⟩|⟨t,z⟩
     .have:=un.keep b o e z (by intro w;exact absurd (show b∈([]:List Addr)from w) (by simp)) (by simp)
      exact⟨.inl this,o,this⟩
     .have O:=un.oD b ba _ z
      obtain⟨aq,_⟩:=cf b _ z;obtain⟨aE,_⟩:=S b _ O;rw[e]at aq;cases aq;exact⟨.inl aE,_,aE⟩
     .obtain⟨E,O⟩:=un.pF b #[] z
      have aE:=S b _ O;rw[(i b t).1]at e;cases e;exact⟨.inr (.inl ⟨(i b t).2.1,rfl,#[],E,rfl,aE⟩),_,aE⟩
    exact⟨rfl,⟨λb o e=>(n b o e).1,λb o e=>(n b o e).2⟩,os,bare⟩
 classical
 have T:∀(H:au),(∀p,a0.ic p->H p=some (.gc #[]))->TabsOk H:=λH h p y=>⟨#[],h p y,trivial,λpos iN z=>by cases z⟩
 cases I:K.lookup a with
 |some o=>
  have e:=Y a o I;rw[A]at e;cases e;refine j (λb=>if a0.ic b then some (.gc #[])else none) (λb=>?_) (.inr ⟨_,vs.toArray,_,I,rfl,rfl,rfl,by rw[ali,hi.length];exact R,by simpa using X⟩) (T _ λp y=>if_pos y) (λb u z=>?_) (λb z=>?_) λb z=>?_
  .by_cases t:a0.ic b
   .exact .inr (.inr ⟨t,if_pos t⟩)
   .exact .inl (if_neg t)
  .by_cases t:a0.ic b
   .have D:=(if_pos t).symm.trans z
    cases D;exact(i b t).1
   .have D:=(if_neg t).symm.trans z
    cases D
  .by_cases t:a0.ic b
   .exact .inr t
   .exact absurd (if_neg t) z
  .by_cases t:a0.ic b
   .exact(i b t).2.2
   .exact absurd (if_neg t) z
 |none=>
  refine j (λb=>if b=a then some (.cN { cls:=.type "list",data:=.seq vs.toArray } (.l (ns.map V.int)))else if a0.ic b then some (.gc #[])else none) (λb=>?_) (.inl (.inr ⟨{ cls:=.type "list",data:=.seq vs.toArray },if_pos rfl⟩)) (T _ λp y=>?_) (λb u z=>?_) (λb z=>?_) λb z=>?_
  .by_cases f:b=a
   .exact .inr (.inl ⟨_,_,if_pos f⟩)
   .by_cases t:a0.ic b
    .exact .inr (.inr ⟨t,by rw[if_neg f,if_pos t]⟩)
    .exact .inl (by rw[if_neg f,if_neg t])
  .rw[if_neg (by rintro rfl;exact M y),if_pos y]
  .by_cases f:b=a
   .have D:=(if_pos f).symm.trans z
    cases D;subst f;exact⟨A,by rw[ala];exact R,vs,_,X,A⟩
   .try dsimp only at z
    rw[if_neg f]at z
    by_cases t:a0.ic b
    .rw[if_pos t]at z;cases z
     exact(i b t).1
    .rw[if_neg t]at z;cases z
  .by_cases f:b=a
   .exact .inl f
   .try dsimp only at z
    rw[if_neg f]at z
    by_cases t:a0.ic b
    .exact .inr t
    .rw[if_neg t]at z;exact absurd rfl z
  .by_cases f:b=a
   .rw[f];exact I
   .try dsimp only at z
    rw[if_neg f]at z
    by_cases t:a0.ic b
    .exact(i b t).2.2
    .rw[if_neg t]at z;exact absurd rfl z
def agT{l:W.OpenLaw}{q:aly}{k:Nat}{j:List Str}{yj:(Str->Option Value)->Heap->Prop}{z:World->Heap->Prop}{d:DefRec}{K:Params->aN}(ln:List Str)(J:l.most=some 63)(D:d.params.defaults=[])(L:cB k ao3)
  (A:∀x∈ln,∃d,(recsOf q).find? (λe=>e.name==x)=some d) (H:∀p,W.noTabs (K p)=true)
  (tw:∀(w:World)(h:Heap),z w h->(K w.params).In h)
  (F:∀(w:World)(mg:bp)(fa:Addr)(h:Heap),(K w.params).In h->h.Ns alU mg->mg d.name=some (.ref fa)->
   ∃t:ame,(∀(s:alc)(u:Value),BindsTo s t ⟨[u],[]⟩ [("script",u)])/\∀base:Heap,(K w.params).In base->base.Ns alU mg->kb base mg->@e6 l.prog w (K w.params) mg base eC k fa t ["script"] (@xv (uX (K w.params) ln) (K w.params))) :
  W.WalkO q j yj z l.row.toRowW d [] (λf vs=>PySem.call f vs):=by
 refine G6.Sf J D λw g4 Z mg cK fa o pm cd X a vs ns G Y a3 hd gB v_ E i m M=>?_
 have n:=tw w _ Y;obtain⟨t,O,U⟩:=F w mg fa _ n G.T.g v_
 letI:=uX (K w.params) ln
 have B:kb Z.heap mg:=by
  obtain⟨bm,ba,V,S,y,C,I,ko⟩:=G.T.bmain;refine⟨bm,ba,V,S,λq=>?_,y,C,I,ko⟩;obtain⟨o,az,cv,e,hd,_⟩:=G.T.g;rw[q,e]at y;cases y;rw[hd]at ko;cases ko
 refine aat n G.T.g G.T.b G.T.builtins G.T.nolimit M E i m L B U O λp N=>?_
 obtain⟨x,Q,c,R⟩:=N;obtain⟨d,hd⟩:=A x Q;obtain⟨P,r⟩:=W.tab_of G.T n hd R;refine⟨r,(P.tab r).isCodeTable,?_⟩
 cases e:(K w.params).lookup p with
 |none=>rfl|some o=>
  have aE:=n p o e;rw[r]at aE;cases aE;exact absurd (show false=true from(alW.mp (H w.params) (p,_) (W.mem_of_lookupK e))) alg
def zD{K:aN}{h:Heap}{mg:bp}{x:Str}{st:Stmt}{ln:List Str}{f c P:Addr}{c1 k:Value}{i D:Option Addr}{q:ame}{bc J:Array (Option Value)}{vs:Array Value}{e:Str}{t cg H:Tok}{b g:Int}{M:Bool}(X:K.In h)(G:h.Ns alU mg)(m:x∈ln)
  (a:an5 K alU x=some (some (.ref f))) (l:K.lookup f=some ⟨c1,i,.func q,bc⟩) (r:q.code=.ref c) (d:K.lookup c=some ⟨k,D,.fields vs,J⟩) (L:k=.type "code") (s:vs[11]? = some (.ref P)) (z:vs.getD 11 .none=.ref P)
  (A:vs.getD 18 .none=.str e t) (u:vs.getD 7 .none=.int b cg) (B:vs.getD 9 .none=.bool M) (w:vs.getD 10 .none=.int g H) (ne:c≠P) (inj:∀y∈ln,oQ K P y=true->y=x) :
  ∃c P,@p0 (uX K ln) K c P (tR x)/\∀(f:Addr)(c1:Value)(i:Option Addr)(dy j F:Value)(E:Option Addr)(p cz:Value)(o:Array (Option Value)),mg x=some (.ref f)->K.lookup f=some ⟨c1,i,.func (amW x x (iO st) (fO st) (dm st) .none dy j F E p cz),o⟩->p=.ref c:=by
 subst L;have n:=xC a l r d s;exact⟨c,P,@p0.mk (uX K ln) K c P (tR x) (Yb d s z A u B w ne) ⟨x,m,c,n⟩ (aeK m n inj),Uy X G a l r⟩
end aC
namespace aC
open PySem PySem.Spec aA PyProof.Rows
variable[aA.a0]
section
variable{X:aQ}{k:Nat}{e:Expr}{ma:bt}{Z:iE}{p pos kp:Pos}
def GL{c P:Addr}{q p1:Str}{params:anR}{body:Expr}{scope:Scope}{n:Pos}{N:List Str}{m:bt}(r:Z.Ok)(g:ee X "sorted")(hm:X.mg "sorted"=none)(a:cB (k+3) X.A)(L:p0 X.K c P q)(B:kb X.base X.mg)(y:X.env.code=.ref c)
  (d:X.env.qual++alG "<lambda>"=q) (b:g8 N [p1] scope)
  (t:∀(c:Addr)(D j u:Value),anf (W.kla_fn (alG "<lambda>") q params body scope [] D (.ref c) j) ⟨[u],[]⟩=pure [(p1,u)])
  (h:∀(f c:Addr)(A:alI)(s:alc)(H:au),cB k (A.deeper (anA q scope s.heap.objs.size f (.ref c)))->bb (ha eC X.prog X.w X.K X.mg X.base N q scope f (.ref c) A X.stack s H i1).gI body m)
  (i:bb X e ma) (z:ao0 params X.env=([],[]):=by rfl) (x:anY scope X.env=pure []:=by rfl)
  (he:sY X pos e:=by rfl)
  (aw:e_ X e []:=by rfl)
  (l:f5 X pos [e]:=by rfl) :
  bb X (.Call (.Name "sorted" p) [e] [⟨some (alG "key"),.Lambda params body scope n,kp⟩] pos) (p9 Z (fnOf 1 N.length (aZ m)) ma):=
 ⟨Ut r g hm a L B y d b t (λf c A s H a=>(h f c A s H a).un) i.un z x he aw l⟩
end
end aC
namespace aC
open PySem PySem.Spec aA PyProof.Rows
def p'(z:Str)(lo hi:Option Int):Str:=⟨(cutD z.cps.toList lo hi).toArray⟩
def Fl:R->Option Int->Option Int->M R
 |.v (.str z),lo,hi=>if z.length<=ald then pure (.v (.str (p' z lo hi)))else bad|_,_,_=>bad
@[simp] def s9(a:bt)(lo hi:kZ)(U:aG):M R:=do
 let x <-a U
 let l <-lo U
 let h <-hi U
 Fl x l h
def part_of{v:Value}{o:Option Int}(h:an2 v o):∃l:Option (Int×Tok),v=partValue l/\l.map (·.1)=o:=by
 cases h with
 |none=>exact⟨none,rfl,rfl⟩|int i t=>exact⟨some (i,t),rfl,rfl⟩
def Qo(n d:Nat)(hd:d<=n)(o:Option Int):c7.cw n d o<=n:=by
 unfold c7.cw
 cases o with
 |none=>exact hd|some i=>simp only[];split<;>omega
def aen(z:Str)(lo hi:Option Int):(am0 lo hi 1 z.length).filterMap (λx=>z.cps[x]?)=cutD z.cps.toList lo hi/\(am0 lo hi 1 z.length).length=c7.cw z.length z.length hi-c7.cw z.length 0 lo:=by
 obtain⟨a,b,c⟩:=Qv lo hi z.length;have e:am0 lo hi 1 z.length=sliceRange (anb lo hi none z.length).1 (anb lo hi none z.length).2.1 1:=rfl;rw[e,a,b,sliceRange_one];refine⟨?_,by rw[ala,amt]⟩;rw[pick_run];unfold cutD;rw[show z.cps.toList.length=z.length from al0]
def UK{z:Str}{lo hi:Option Int}(h:c7.cw z.length z.length hi-c7.cw z.length 0 lo=z.length):p' z lo hi=z:=by
 have c:=Qo z.length 0 (alX _) lo;have d:=Qo z.length z.length (alf _) hi;have b:z.cps.toList.length=z.length:=al0;unfold p' cutD;rw[b];have a:c7.cw z.length 0 lo=0\/z.length=0:=by omega
 have:(z.cps.toList.drop (c7.cw z.length 0 lo)).take (c7.cw z.length z.length hi-c7.cw z.length 0 lo)=z.cps.toList:=by
  rcases a with a|a
  .rw[a,aoB,amr (by omega)]
  .have:z.cps.toList=[]:=aow (by omega)
   rw[this];simp
 rw[this]
def UI(z:Str)(lo hi:Option Int):(p' z lo hi).length<=z.length:=by
 show(cutD z.cps.toList lo hi).toArray.size<=z.cps.size;rw[ali];unfold cutD;rw[ama,amb,al0];omega
def afq:oe X (λx lo hi H Q=>∃z,x=.str z/\z.length<=ald/\Q (.str (p' z lo hi)) H):=by
 rintro g s U H x v h i lo hi bc Q I a aw pl f ⟨z,ex,hz,q⟩;subst ex;obtain⟨t,rfl⟩:=a;obtain⟨l,rfl,el⟩:=part_of pl;obtain⟨u,rfl,d⟩:=part_of f;refine⟨"str",_,slot_str_getitem.lookup,typeIs_str s z t,?_⟩;refine wpAny_getItem_str_slice (l:=l) (u:=u) (st:=none) aw rfl ?_;obtain⟨p1,cG⟩:=aen z lo hi;have cv:slicePicked z l u none=am0 lo hi 1 z.length:=by
  unfold slicePicked;rw[el,d];rfl
 unfold sliceMade;rw[cv,cG]
 by_cases c:c7.cw z.length z.length hi-c7.cw z.length 0 lo=z.length
 .rw[if_pos (by simp[c])]
  rw[UK c]at q;exact⟨.str z,H,I,⟨t,rfl⟩,q⟩
 .rw[if_neg (by simp[c])]
  show _<=ald/\_;rw[p1];refine⟨alR (UI z lo hi) hz,.str (p' z lo hi),H,?_,⟨s.toks,rfl⟩,q⟩;exact I.kept (t':=s.toks+1) λb o e=>e
variable[aA.a0]
section
variable{X:aQ}{e:Expr}{m:bt}{lo hi:Option Expr}{lr mh:kZ}{pos cG:Pos}
def ahj(he:bb X e m)(hl:p6 X lo lr)(y:p6 X hi mh):bb X (.Subscript e (.Slice lo hi none cG) pos) (s9 m lr mh):=⟨eb (FJ afq he.un hl.un y.un) λR H Q n=>by
 obtain⟨O,U,S,r,P,st,h,q⟩:=n;obtain⟨x,a,p,f⟩:=M.inv h;clear h;obtain⟨l,b,s,d⟩:=M.inv f;clear f;obtain⟨u,K,t,h⟩:=M.inv d;clear d;refine⟨O,U,S,x,a,st,p,λj D L E k i bA=>?_⟩;refine⟨j,U,a,l,b,k,s,λw N F bM=>?_⟩;refine⟨w,U,b,u,K,bM,t,λB A G J=>?_⟩;have g:=(E.trans F).trans G;unfold Fl at h;split at h
 .rename_i z
  by_cases c:z.length<=ald
  .rw[if_pos c]at h
   cases h;cases(show D=.str z from i);exact⟨z,rfl,c,q B _ A g J rfl trivial⟩
  .rw[if_neg c]at h;cases h
 .cases h⟩
end
omit [aA.a0]in
@[simp] theorem akb{z:Str}{lo hi:Option Int}:Fl (.v (.str z)) lo hi=if z.length<=ald then pure (.v (.str (p' z lo hi)))else bad:=rfl
end aC
namespace aC
open PySem PySem.Spec aA PyProof.Rows
structure ve(P:aly)(w:World)(K:aN)(mg:bp)(x:Str)(ps:List (Str×Str)):Prop where
 ex:∃(a:Addr)(az:Array aol)(n:Nat),mg x=some (.ref a)/\amE a K=some { cls:=.type "dict",data:=.dict az n }/\KeysOf (aob P w) az/\
  ∀k fn,ps.lookup k=some fn->∃f,findBy amf az k=some (.ref f)/\mg fn=some (.ref f)
@[simp] def Cz(ps:List (Str×Str))(mk:bt)(U:aG):M R:=do
 let k <-mk U
 match k with
 |.v (.str z)=>match ps.lookup z with
  |some fn=>pure (.v (.fn fn))|none=>bad
 |_=>bad
@[simp] def Cw(i:Nat)(aX:List (Str×bq))(ms:cP)(U:aG):M R:=match U[i]? with
 |some (.v (.fn f))=>match aX.lookup f with
  |some mf=>bl mf ms U|none=>bad
 |_=>bad
def af9(mg:bp)(ps:List (Str×Str))(ty:TE):TE:=λU H Q=>ty U H λy a=>∃z fn f,y=.str z/\ps.lookup z=some fn/\mg fn=some (.ref f)/\Q (.ref f) a
variable[aA.a0]
section
variable{X:aQ}{x:Str}{ps:List (Str×Str)}{i:Expr}{pos p:Pos}{ty:TE}{mk:bt}{j k:Nat}{e:Expr}{az:List Expr}{ms:cP}{pp:List Str}{aX:List (Str×bq)}
omit [aA.a0]in
theorem aef(T:ve X.prog X.w X.K X.mg x ps)(g:ee X x)(hi:b6 X i ty)(aw:Bz i)(u:fX x:=by decide):b6 X (.Subscript (.Name x p) i pos) (af9 X.mg ps ty):=by
 intro m s U H Q I h;obtain⟨a,ds,n,hm,hl,q,D⟩:=T.ex;refine afM PySem.F.slot_dict_getitem.lookup aw (tT I g hm ?_ u);refine bZ (hi m s U H _ I h) λE s2 l=>?_
 obtain⟨y,d,c,r,z,fn,f,B,el,A,bY⟩:=l;subst B;obtain⟨t,rfl⟩:=r;have b:=c.f7 a _ hl;obtain⟨G,aq,aE⟩:=D z fn el;rw[A]at aE;cases aE;refine⟨⟨_,b,rfl⟩,?_⟩;refine wpAny_getItem_of (knd:=aob X.prog X.w) ?_ ?_ aq ?_
 .show(z==z)=true
  simp
 .exact⟨_,ds,n,b,⟨rfl,rfl,rfl⟩,rfl,q,λ_=>rfl⟩
 .exact⟨.ref f,d,c.tok _,rfl,bY⟩
omit [aA.a0]in
theorem adZ(hN:X.N[j]? = some x)(B:q' X.env.scope x)(m:cB k X.A){t:fV}(y:g9 X (e::az) t)(E:fX x:=by decide)(L:(x==("__classdict__":Str))=false:=by decide)
  (he:e_ X e az:=by rfl) (G:f5 X pos az:=by rfl) :
  b6 X (.Call (.Name x p) (e::az) [] pos) (λU H Q=>∃(f:Addr)(c:ame)(sp:en),U[j]? = some (some (.ref f))/\e6 X.prog X.w X.K X.mg X.base eC k f c pp sp/\Binds X.K c pp []/\amX X.K (.ref f)=true/\t U H λvs a=>sp vs a Q i1):=by
 rintro d s U H Q I ⟨f,c,sp,J,F,b,kp,h⟩;refine amo (bZ (An hN B E L d s U H (λv l=>v=.ref f/\l=H) I ⟨.ref f,J,rfl,rfl⟩) λu M n=>?_);obtain⟨v,a,D,z,aq,aE⟩:=n;subst aq aE;obtain rfl:=z;refine ao5 I.ok.mod.tP kp (bZ (y pos d M U a _ D h) λus s2 ⟨vs,O,g,r,q⟩=>⟨g.f7,?_⟩) he G;exact xm F m b .nil qF g r (by simpa only[aml]using q)
def Q2(T:ve X.prog X.w X.K X.mg x ps)(g:ee X x)(hi:bb X i mk)(aw:Bz i:=by exact λ_ _=>rfl)(t:fX x:=by decide):bb X (.Subscript (.Name x p) i pos) (Cz ps mk):=⟨eb (aef T g hi.un aw t) λD H Q m=>by
 obtain⟨O,U,S,r,B,st,h,q⟩:=m;obtain⟨y,A,n,h⟩:=M.inv h;split at h
 .rename_i z
  split at h
  .rename_i fn el
   cases h;obtain⟨_,_,_,_,_,_,a⟩:=T.ex;obtain⟨f,_,b⟩:=a z fn el;refine⟨O,U,S,_,_,st,n,λd v c u l s nn=>?_⟩;exact⟨z,fn,f,s,el,b,q d _ c u l ⟨f,rfl,b⟩ trivial⟩
  .cases h
 .cases h⟩
def ag4(n:∀f mf,aX.lookup f=some mf->eH X.prog X.w X.K X.mg X.base f pp k (e4 X.K X.mg mf))(hN:X.N[j]? = some x)(B:q' X.env.scope x)(s:cB k X.A)(z:gw X (e::az) ms)(D:fX x:=by decide)(J:(x==("__classdict__":Str))=false:=by decide)
  (he:e_ X e az:=by rfl) (E:f5 X pos az:=by rfl):bb X (.Call (.Name x p) (e::az) [] pos) (Cw j aX ms):=⟨eb (adZ hN B s z.un D J he E) λd H Q t=>by
  obtain⟨O,U,S,r,u,st,h,q⟩:=t;unfold Cw at h;split at h
  .rename_i f L
   split at h
   .rename_i mf el
    obtain⟨fa,G,F,b,kp,m⟩:=(n f mf el).ex;obtain⟨v,c,a,rfl,l⟩:=st.loc j _ L;have:a=fa:=by
     rw[m]at l;cases l;rfl
    subst this;have g:d[j]? = some (some (.ref a)):=by
     cases w:d[j]? with
     |none=>rw[w]at c;cases c
     |some y=>rw[w]at c;exact congrArg some c
    exact⟨a,G,_,g,F,b,kp,CB d H Q ⟨O,U,S,r,u,st,h,q⟩⟩
   .cases h
  .cases h⟩
end
omit [aA.a0]in
theorem lookup_all{α f:Type}[BEq α][LawfulBEq α]{P:α->f->Prop}:∀{l:List (α×f)},(∀x∈l,P x.1 x.2)->∀a b,l.lookup a=some b->P a b
 |[],_,_,_,h=>by cases h
 |(c,d)::l,o,a,b,h=>by
  rw[als]at h;split at h
  .rename_i e
   cases h;rw[eq_of_beq e];exact o _ alo
  .exact lookup_all (λx g=>o x (alh _ g)) a b h
omit [aA.a0]in
theorem Vv{P:aly}{w:World}{K:aN}{h:Heap}{mg:bp}{x:Str}{d:Addr}{b:Array aol}{n:Nat}{ps:List (Str×Str)}(X:K.In h)(G:h.Ns alU mg)
  (a:an5 K alU x=some (some (.ref d))) (l:amE d K=some { cls:=.type "dict",data:=.dict b n }) (k:∀e∈b.toList,∃s,amf s e.key=true/\e.hash=hashStr w s)
  (f:∀p∈ps,∃f,an5 K d p.1=some (some (.ref f))/\an5 K alU p.2=some (some (.ref f))):ve P w K mg x ps:=by
 refine⟨d,b,n,aoA X G a,l,λe he=>?_,lookup_all (P:=λk fn=>∃f,findBy amf b k=some (.ref f)/\mg fn=some (.ref f)) λp i=>?_⟩
 .obtain⟨s,c,g⟩:=k e (by simpa using he)
  exact⟨s,c,g⟩
 .obtain⟨f,c,g⟩:=f p i
  exact⟨f,W.find_K l c,aoA X G g⟩
omit [aA.a0]in
@[simp] theorem aj5:b7 (.fn f)=.v (.fn f):=rfl
omit [aA.a0]in
theorem z'{K:aN}{P a c:Addr}{x y:Str}(b:W.tabIn K y=some (c,a))(ne:a≠P)(h:oQ K P y=true):y=x:=by
 unfold oQ at h;rw[b]at h;exact absurd (eq_of_beq h) ne
end aC
namespace aC
open PySem PySem.Spec aA PyProof.Rows
@[simp] def aiC(j:Nat)(mk mv:bt)(U:aG):M fR:=do
 let r <-mv U
 let d <-r.dat
 let k <-mk U
 match U[j]?,k with
 |some (.dO p xs),.v (.int i)=>if 0<=i/\i<xs.length then pure (.bA (U.set j (.dO p (xs.set i.toNat d))))else bad|_,_=>bad
def w':R->R->M R:=λx y=>match x.own,y with
 |some xs,.v (.int k)=>if 0<=k/\k<1000/\xs.length*k.toNat<=ald then pure (.fr (alp k.toNat xs).flatten)else bad|_,_=>bad
variable[aA.a0]
section
variable{K:aN}{mg:bp}
theorem bh.rep{O:a5}(h:bh K mg O H xs us):∀n:Nat,bh K mg O H (alp n xs).flatten (alp n us).flatten
 |0=>rfl|n+1=>by
  rw[amC,amC,am5,am5];exact h.append (bh.rep h n)
def Sr:ei K mg P8 w':=λO U S m H x y j n r l Q st f e h q=>by
 unfold w' at h;split at h
 .rename_i xs k aq
  by_cases hl:0<=k/\k<1000/\xs.length*k.toNat<=ald
  .rw[if_pos hl]at h
   cases h;obtain⟨a,us,rfl,g,d⟩:=R.Am f aq;cases(show y=.int k from e);refine⟨a,k,us,rfl,rfl,g,by omega,by omega,by rw[d.len];exact hl.2.2,λp c=>q (gL O p .dI) _ _ (Go.new c) (st.new c) ⟨p,_,rfl,dZ,lC,(d.rep k.toNat).go (Go.new c)⟩ λb i=>?_⟩;cases i;exact c
  .rw[if_neg hl]at h;cases h
 .cases h
end
end aC
namespace aC
open PySem PySem.Spec aA
def hG(b:Bool)(h:Heap)(i l:Addr)(k:Nat):Prop:=match b with
 |true=>h.IsTupleIter i l k|false=>h.IsListIter i l k
def kl(b:Bool)(h:Heap)(l:Addr)(xs:Array Value):Prop:=match b with
 |true=>h.IsTuple l xs|false=>h.IsList l xs
def hG.extBut(x:hG b h a l i)(aw:Heap.ExtBut c h h')(d:a≠c):hG b h' a l i:=by
 cases b with
 |true=>exact Heap.IsTupleIter.extBut x aw d|false=>exact Heap.IsListIter.extBut x aw d
def kl.extBut(x:kl b h a xs)(aw:Heap.ExtBut c h h')(d:a≠c):kl b h' a xs:=by
 cases b with
 |true=>exact Heap.IsTuple.extBut x aw d|false=>exact Heap.IsList.extBut x aw d
def hG.obj{h:Heap}(x:hG b h a l i):∃o vs,h.get? a=some o/\o.data=.fields vs:=by
 cases b with
 |true=>obtain⟨o,e,_,d⟩:=x;exact⟨o,_,e,d⟩
 |false=>obtain⟨o,e,_,d⟩:=x;exact⟨o,_,e,d⟩
def hG.at'{h h':Heap}(x:hG b h a l i)(k:∀o,h.get? a=some o->h'.get? a=some o):hG b h' a l i:=by
 cases b with
 |true=>obtain⟨o,e,r⟩:=x;exact⟨o,k o e,r⟩
 |false=>obtain⟨o,e,r⟩:=x;exact⟨o,k o e,r⟩
def kl.obj{h:Heap}(x:kl b h a xs):∃o n,h.get? a=some o/\o.data=.seq xs n:=by
 cases b with
 |true=>obtain⟨o,e,_,n,d⟩:=x;exact⟨o,n,e,d⟩
 |false=>obtain⟨o,e,_,n,d⟩:=x;exact⟨o,n,e,d⟩
section
variable{prog:aly}{w:World}{A:alI}{E:dp}{s:alc}
def Fd{b:Bool}{it l:Addr}{i:Nat}{a:Array Value}{Q:dp}(c:hG b s.heap it l i)(hl:kl b s.heap l a)
  (h:match a[i]? with
   |some x=>∀h',hG b h' it l (i+1)->ao4 it s.heap h'->Q x { s with heap:=h' }| none=>A.handled=none/\∀h' e,Heap.ExtBut it s.heap h'->(∃o,h'.get? e=some o/\o.cls=.type "StopIteration")->E (.ref e) { s with heap:=h' }):wpAny (model prog w) A (Builtin.SmallTypes.nextOf (.ref it)) Q E s:=by
 cases b with
 |false=>
  cases C:a[i]? with
  |some x=>rw[C]at h;exact wpAny_nextOf_list_item c hl C h|none=>rw[C]at h;exact wpAny_nextOf_list_end h.1 c hl C h.2
 |true=>
  obtain⟨o,d,j,hd⟩:=id c;obtain⟨k,g,_,nl,f⟩:=hl;refine ak7 (ank c.typeIs aoS (aod aoS c.typeIs F.entry_tuple_iterator_next ?_ (F.args_tuple_iterator_next_1 _)));show wpAny _ _ (field (.ref it) 0 >>= _) _ _ s;refine ak7 (ana d hd rfl ?_);refine ak7 (ana d hd rfl ?_);refine ak7 (ane g f ?_)
  cases C:a[i]? with
  |some x=>
   rw[C]at h;simp only[aoV,C];refine ak7 (wpAny_setField d hd (by simp) (alm ⟨x,rfl,alm (h _ ?_ (amh ..))⟩));exact⟨_,Heap.get?_update_self _ d (Obj.isFreed_of_fields (Obj.data_mapFields hd _)),(Obj.cls_mapFields ..).trans j,by rw[Obj.data_mapFields hd];simp[anD]⟩
  |none=>
   rw[C]at h;simp only[aoV,C];refine ak7 (wpAny_rule (ak7 (wpAny_setField d hd (by simp) ?_)));refine ak7<|ak7 (an0 ?_ (by size_fits))
   refine ak7 (wpAny_of_eq (by first|rfl|(rfl)) ?_);refine an0 ?_ (by size_fits);refine ak7 (wpAny_handled ?_)
   first|rw[show A.in1.handled=none from h.1]|rw[h.1]
   refine ak7 (alm (wpAny_throw ?_));exact h.2 _ _ (((amh ..).extBut.push _).push _) ⟨_,alk _ rfl,rfl⟩
end
section
variable{prog:aly}{w:World}{A:alI}{E:dp}{s:alc}
def Ro{K J:Bool}{z TI fD i j r t:Addr}{e1 eA:Nat}{xs L:Array Value}{a b:Value}{Q:Option Value->alc->Prop}(D:ZipApart z TI fD i j r t)
  (hz:IsZip s.heap z TI fD .none) (l1:aoJ s.heap TI (.ref i) (.ref j)) (nt:aoJ s.heap fD a b)
  (Z:hG K s.heap i r e1) (af:hG J s.heap j t eA) (nx:kl K s.heap r xs) (kB:kl J s.heap t L)
  (h:match xs[e1]?,L[eA]? with
   |some x,some y=>∀h',IsZip h' z TI fD (anD s.heap.objs.size)->aoJ h' fD x y->hG K h' i r (e1+1)->hG J h' j t (eA+1)->aoJ h' s.heap.objs.size x y->
    (∀c o,c≠z->c≠fD->c≠i->c≠j->s.heap.get? c=some o->h'.get? c=some o)->Q (some (.ref s.heap.objs.size)) { s with heap:=h' }
   |_,_=>A.handled=none/\∀h',(∀c o,c≠z->c≠fD->c≠i->c≠j->s.heap.get? c=some o->h'.get? c=some o)->Q none { s with heap:=h' }) :
  wpAny (model prog w) A (pyNext (.ref z)) Q E s:=by
 have hr:s.TypeIs (.ref z) "zip":=⟨_,hz,rfl⟩;have fin:∀h' e,(∀h',(∀c o,c≠z->c≠fD->c≠i->c≠j->s.heap.get? c=some o->h'.get? c=some o)->Q none { s with heap:=h' })->(∀c o,c≠z->c≠fD->c≠i->c≠j->s.heap.get? c=some o->h'.get? c=some o)->(∃o,h'.get? e=some o/\o.cls=.type "StopIteration")->
   wpAny (model prog w) A (do
    if <-isInstance (.ref e) (.type "StopIteration")then pure none else throw (.ref e)) Q E { s with heap:=h' }:=λh' e oH ar aT=>by
  obtain⟨o,a3,hc⟩:=aT;refine ak7 (wpAny_isInstance ⟨o,a3,hc⟩ isSubtype_stop ?_);exact alm (oH _ ar)
 refine ak7 (wpAny_attempt (ank hr F.slot_zip_next (aod F.slot_zip_next hr F.entry_zip_next ?_ (F.args_zip_next_1 _))));show wpAny _ _ (field (.ref z) 2 >>= _) _ _ _;refine ak7 (ana hz rfl rfl ?_);refine ak7 (ana hz rfl rfl ?_);refine ak7 (ane l1 rfl ?_);refine ak7<|ak7 (ana hz rfl rfl (alm ?_))
 refine ak7 (wpAny_rule ?_);refine ak7 (ana hz rfl rfl ?_);refine ak7 (anq hz (by simp) λrQ B f=>?_);refine ak7<|ak7 (ak7 (wpAny_onRaise ?_))
 cases C:xs[e1]? with
 |none=>
  rw[C]at h;refine ak7 (Fd (Z.extBut f.extBut D.i1z) (nx.extBut f.extBut D.l1z) ?_);rw[C];refine⟨h.1,λrR e d he=>?_⟩;obtain⟨H,n,p⟩:=he;have T:=d _ _ D.i1z.symm B;have G:e≠z:=λx=>by subst x;rw[T]at n;cases n;simp at p
  exact anq T (by simp) λrS _ g=>fin rS e h.2 (λc o bg _ e' _ x=>g.extBut _ _ bg (d _ _ e' (f.extBut _ _ bg x))) ⟨H,g.extBut _ _ G n,p⟩
 |some x=>
  rw[C]at h;refine ak7 (Fd (Z.extBut f.extBut D.i1z) (nx.extBut f.extBut D.l1z) ?_);rw[C];refine λrR V_ d=>alm ?_
  have M:=d.extBut _ _ D.TOi1 (f.extBut _ _ D.TOz nt);refine ak7 (ane M rfl ?_);refine ak7 (wpAny_updateSeq_pair M λrS Wk g=>?_);refine ak7 (anI (alm ?_));refine ak7 (ak7 (wpAny_onRaise ?_));refine ak7 (Fd (((af.extBut f.extBut D.i2z).extBut d.extBut D.i12.symm).extBut g.extBut D.TOi2.symm) (((kB.extBut f.extBut D.l2z).extBut d.extBut D.l2i1).extBut g.extBut D.l2TO) ?_)
  cases I:L[eA]? with
  |none=>
   rw[I]at h;refine⟨h.1,λD9 e k he=>?_⟩;obtain⟨H,n,p⟩:=he;have V:=k _ _ D.i2z.symm (g.extBut _ _ D.TOz.symm (d.extBut _ _ D.i1z.symm B));have G:e≠z:=λx=>by subst x;rw[V]at n;cases n;simp at p
   exact anq V (by simp) λm _ l=>fin m e h.2 (λc o bg aj e' q x=>l.extBut _ _ bg (k _ _ q (g.extBut _ _ aj (d.extBut _ _ e' (f.extBut _ _ bg x))))) ⟨H,l.extBut _ _ G n,p⟩
  |some y=>
   rw[I]at h;refine λD9 V' k=>alm ?_
   have N:=k.extBut _ _ D.TOi2 Wk;refine ak7 (ane N rfl ?_);refine ak7 (wpAny_updateSeq_pair N λm u l=>?_)
   replace u:aoJ m fD x y:=u
   refine ak7 (anI (alm (alm ?_)));refine ak7 (ane u rfl ?_);refine ak7 (wpAny_newTuple ?_);have U:m.objs.size=s.heap.objs.size:=by rw[l.1,k.1,g.1,d.1,f.1]
   have W:=l.extBut _ _ D.TOz.symm (k.extBut _ _ D.i2z.symm (g.extBut _ _ D.TOz.symm (d.extBut _ _ D.i1z.symm B)));have YK:∀c o,c≠z->c≠fD->c≠i->c≠j->s.heap.get? c=some o->m.get? c=some o:=λc o bg aj e' q e=>
    l.extBut _ _ aj (k.extBut _ _ q (g.extBut _ _ aj (d.extBut _ _ e' (f.extBut _ _ bg e))))
   have S:=alq W;refine ak7 ?_;have Zi:IsZip (m.push { cls:=.type "tuple",data:=.seq #[x,y] }) z TI fD .ellipsis:=ak9 _ W;refine ak7 (anq Zi (by simp) λakw Zj P=>?_);refine anq Zj (by simp) λY X R=>?_
   have up:∀c o,c≠z->m.get? c=some o->Y.get? c=some o:=λc o bg e=>R.extBut _ _ bg (P.extBut _ _ bg (ak9 _ e))
   have O:=R.extBut _ _ (Nat.ne_of_gt S) (P.extBut _ _ (Nat.ne_of_gt S) (alk _ rfl));rw[U]at X O;refine alm ⟨_,rfl,?_⟩;rw[U];exact alm (h Y X (up _ _ D.TOz u) ((((V_.extBut g.extBut D.TOi1.symm).extBut k.extBut D.i12).extBut l.extBut D.TOi1.symm).at' λo e=>up _ o D.i1z e) ((V'.extBut l.extBut D.TOi2.symm).at' λo e=>up _ o D.i2z e) O λc o bg aj e' q e=>up c o bg (YK c o bg aj e' q e))
end
section
variable{X:aQ}{ae:cZ}{U:St}{H:au}{s:alc}{h':Heap}
def Inv.QP{t':Nat}{ch:List Addr}(I:Inv X ae U H s)(k:∀b o,b∉ch->s.heap.get? b=some o->h'.get? b=some o)(d:∀b∈ch,hn X ae H b):Inv X ae U H { s with heap:=h',toks:=t' }:=by
 have f:∀b u,H b=some u->b∉ch:=λb u e z=>by rw[(d b z).1]at e;cases e
 refine I.step (λb h=>?_) (λb o _ _ a e _=>k b o a e) (λb o _ _ a e _=>⟨o.slots,k b o a e⟩) (λ_ _ _ _ n=>n)
  (λb o a e=>⟨o,k b o a e⟩) (λ_ _ e=>e) (λ_ _ _ e=>e) (λb ps e=>⟨#[],by rw[e];simp⟩) (λm hm=>?_) (λb u e=>?_) I.bare
 .obtain⟨_,j,_,t,l,p⟩:=d b h
  exact⟨t,j,l,p⟩
 .obtain⟨o,i,cv,g,r⟩:=hm
  exact⟨o,i,cv,k _ o (λz=>(d _ z).2.1 rfl) g,r⟩
 .refine(I.cf b u e).so (λc v a q=>k c v ?_ q) (λ_ q=>q) λ_ _ q=>q
  rcases a with z|z
  .rw[z];exact f b u e
  .exact f c _ z
end
def hZ(b:Bool)(K:aN)(H:au)(a:Addr)(xs:List V):Prop:=match b with
 |true=>dB K H a xs|false=>dw K H a xs
def Inv.cT{s:alc}(I:Inv X o U H s)(h:hZ b X.K H a xs):∃c:List Value,Vals xs c/\kl b s.heap a c.toArray:=by
 cases b with
 |true=>obtain⟨c,r,p,_⟩:=I.tuple h;exact⟨c,r,p⟩
 |false=>obtain⟨c,r,p,_⟩:=I.list h;exact⟨c,r,p.isList⟩
def Inv.Qz{s:alc}(I:Inv X o U H s)(h:hZ b X.K H a xs)(h':hZ b X.K H a ys):xs=ys:=by
 cases b with
 |true=>exact I.QN h h'|false=>exact I.Ot h h'
def Hk(K:aN)(e c:Bool)(b d:Addr):il:=
  ⟨λi H=>(∃xs x,hZ e K H b xs/\xs[i]? = some x)/\∃a y,hZ c K H d a/\a[i]? = some y,
   λi H x f=>∃u v T,x=.ref T/\H T=none/\f=upd H T (.t [u,v])/\(∀xs,hZ e K H b xs->xs[i]? = some u)/\∀a,hZ c K H d a->a[i]? = some v,
   λi H=>∃xs a,hZ e K H b xs/\hZ c K H d a/\(xs.length<=i\/a.length<=i)⟩
def agD(cx cD:Bool){z TI fD g j T W:Addr}(D:ZipApart z TI fD g j T W):Turn P w K (.Tuple elts i9 d9) (Hk K cx cD T W) [z,TI,fD,g,j] z
  (λi h=>IsZip h z TI fD .none/\aoJ h TI (.ref g) (.ref j)/\(∃a b,aoJ h fD a b)/\hG cx h g T i/\hG cD h j W i) where
 mem:=by simp
 obj:=λi h st b c=>by
  obtain⟨hz,l,⟨x,y,r⟩,m,n⟩:=st;rcases alj.mp c with rfl|c
  .exact⟨_,hz,λv z=>by cases z⟩
  rcases alj.mp c with rfl|c
  .exact⟨_,l,λv z=>by cases z⟩
  rcases alj.mp c with rfl|c
  .exact⟨_,r,λv z=>by cases z⟩
  rcases alj.mp c with rfl|c
  .obtain⟨o,vs,e,d⟩:=m.obj;exact⟨o,e,λv z=>by rw[d]at z;cases z⟩
  rcases alj.mp c with rfl|c
  .obtain⟨o,vs,e,d⟩:=n.obj;exact⟨o,e,λv z=>by rw[d]at z;cases z⟩
  cases c
 keep:=λi h h' ⟨hz,l,⟨x,y,r⟩,m,n⟩ k=>⟨k z (by simp) _ hz,k TI (by simp) _ l,⟨x,y,k fD (by simp) _ r⟩,m.at' λo e=>k g (by simp) o e,n.at' λo e=>k j (by simp) o e⟩
 item:=by
  rintro X Y hw C hc i R s U H E I L ⟨hz,l,⟨m3,jo,r⟩,m,n⟩ ⟨⟨xs,x,F,ag⟩,⟨ys,y,G,aO⟩⟩;subst Y hw C;obtain⟨Z,V,p⟩:=Inv.cT I F;obtain⟨NK,qJ,q⟩:=Inv.cT I G;obtain⟨u,cO,eo⟩:=V.get ag;obtain⟨v,bW,S⟩:=qJ.get aO;have Ys:∀b∈[z,fD,g,j],b∈[z,TI,fD,g,j]:=λb c=>by simp at c ⊢;rcases c with h|h|h|h<;>simp[h]
  refine Ro D hz l r m n p q ?_;rw[anB,anB,cO,bW];refine λh' a1 a2 gy h1 i4 J=>⟨_,rfl,wpAny_letOwnedTupleGo_zip a1 λtv Zf B=>?_⟩
  have Q:=alq hz;have O:=alq r;have M:g<s.heap.objs.size:=by obtain⟨_,_,e,_⟩:=m.obj;exact alq e
  have N:j<s.heap.objs.size:=by obtain⟨_,_,e,_⟩:=n.obj;exact alq e
  have kB:Vals [x,y] [u,v]:=.cons eo (.cons S .nil);have bx:Inv X R U (upd H s.heap.objs.size (.t [x,y])) { s with heap:=s.heap.push { cls:=.type "tuple",data:=.seq #[u,v] } }:=
   I.laid (λb u e=>ak9 _ e) (alf _) ⟨by show 2<=_;decide,[u,v],kB,⟨_,alk _ rfl,rfl,_,rfl⟩⟩
  have cc:Inv X R U (upd H s.heap.objs.size (.t [x,y])) { s with heap:=tv }:=by
   refine Inv.QP (s:={ s with heap:=s.heap.push { cls:=.type "tuple",data:=.seq #[u,v] } }) (ch:=[z,fD,g,j]) bx (λb o c e=>?_) λb c=>?_
   .have O3:b≠z:=λq=>c (by simp[q])
    refine B.extBut _ _ O3 ?_;rcases Heap.get?_push_cases e with⟨rfl,rfl⟩|e
    .exact i4
    .exact J b o O3 (λq=>c (by simp[q])) (λq=>c (by simp[q])) (λq=>c (by simp[q])) e
   .obtain⟨f0,f⟩:=L b (Ys b c)
    refine⟨?_,f⟩;rw[c3]
    .exact f0
    .rintro rfl
     simp at c;rcases c with h|h|h|h
     .rw[<-h]at Q;exact al5 _ Q
     .rw[<-h]at O;exact al5 _ O
     .rw[<-h]at M;exact al5 _ M
     .rw[<-h]at N;exact al5 _ N
  refine⟨.ref s.heap.objs.size,_,cc,rfl,⟨x,y,_,rfl,(I.cf.fresh (alf s.heap.objs.size)),rfl,λpS h'=>by rw[Inv.Qz I h' F];exact ag,λak4 h'=>by rw[Inv.Qz I h' G];exact aO⟩,
   ⟨Zf,B.extBut _ _ D.TIz (J _ _ D.TIz D.TITO D.TIi1 D.TIi2 l),⟨_,_,B.extBut _ _ D.TOz a2⟩,gy.extBut B.extBut D.i1z,h1.extBut B.extBut D.i2z⟩,λb c=>?_⟩
  rw[c3]
  .exact(L b c).1
  .rintro rfl
   have A:=alq l;simp at c;rcases c with h|h|h|h|h
   .rw[<-h]at Q;exact al5 _ Q
   .rw[<-h]at A;exact al5 _ A
   .rw[<-h]at O;exact al5 _ O
   .rw[<-h]at M;exact al5 _ M
   .rw[<-h]at N;exact al5 _ N
 done:=by
  rintro X Y hw C hc i R s U H E I L ⟨hz,l,⟨m3,jo,r⟩,m,n⟩ ⟨xs,ys,F,G,hl⟩;subst Y hw C;obtain⟨Z,V,p⟩:=Inv.cT I F;obtain⟨NK,qJ,q⟩:=Inv.cT I G;have aq:=V.length;have aE:=qJ.length;refine Ro D hz l r m n p q ?_;rw[anB,anB];split
  .rename_i cX eO
   have gy:=(ak8.mp cX).1;have h1:=(ak8.mp eO).1;omega
  .refine⟨I.ok.hd hc,λh' J=>⟨rfl,?_⟩⟩
   refine Inv.QP (ch:=[z,fD,g,j]) I (λb o c e=>J b o (λq=>c (by simp[q])) (λq=>c (by simp[q])) (λq=>c (by simp[q])) (λq=>c (by simp[q])) e) λb c=>L b ?_
   simp at c ⊢;rcases c with h|h|h|h<;>simp[h]
 self:=λ_ _ _ _ _ ⟨hz,_⟩ h=>wpAny_pyIter_zip hz h
def zl(b:Bool)(l:Addr):Obj:=match b with
 |true=>{ cls:=.type "tuple_iterator",data:=.fields #[.ref l,.int 0 0] }
 |false=>{ cls:=.type "list_iterator",data:=.fields #[.ref l,.int 0 0] }
abbrev Bi(b:Bool)(h:Heap)(a:Addr):Heap:=h.push (zl b a)
abbrev Bj(d b:Bool)(h:Heap)(a c:Addr):Heap:=(Bi d h a).push (zl b c)
abbrev Bk(b c:Bool)(h:Heap)(a d:Addr):Heap:=(Bj b c h a d).push { cls:=.type "tuple",data:=.seq #[.ref h.objs.size,.ref (Bi b h a).objs.size] }
abbrev Bl(d b:Bool)(h:Heap)(a c:Addr):Heap:=(Bk d b h a c).push { cls:=.type "tuple",data:=.seq #[.none,.none] }
abbrev u7(d b:Bool)(h:Heap)(a c:Addr):Heap:=(Bl d b h a c).push { cls:=.type "zip",data:=.fields #[.none,.bool false,.bool false,.ref (Bj d b h a c).objs.size,.ref (Bk d b h a c).objs.size] }
def aa5(m e:Bool)(a c:Addr)(xs l:Array Value) :
  Meets (Builtin.«zip.__new__» ⟨[.type "zip",.ref a,.ref c],[]⟩) (λ_ R s=>kl m s.heap a xs/\kl e s.heap c l/\
   R (.ok (.ret (.ref (Bl m e s.heap a c).objs.size))) { s with heap:=u7 m e s.heap a c }):=by
 cases m with
 |false=>
  cases e with
  |false=>exact meets_zip_new a c xs l|true=>
   refine .of_wp λprog w A R s h=>?_
   obtain⟨b,g,d,tk,os⟩:=s;obtain⟨i,f,h⟩:=h;have n:=sub_zip;have j:Heap.IsList (an7 ⟨b,g,d,tk,os⟩) a xs:=i;have k:ao9 (an7 ⟨b.push { cls:=.type "list_iterator",data:=.fields #[.ref a,.int 0 0] },g,d,tk,os⟩) c l:=apI f _
   wp_walk using am4 j,ano k
   exact⟨_,rfl,h⟩
 |true=>
  cases e with
  |false=>
   refine .of_wp λprog w A R s h=>?_
   obtain⟨b,g,d,tk,os⟩:=s;obtain⟨i,f,h⟩:=h;have n:=sub_zip;have j:ao9 (an7 ⟨b,g,d,tk,os⟩) a xs:=i;have k:Heap.IsList (an7 ⟨b.push { cls:=.type "tuple_iterator",data:=.fields #[.ref a,.int 0 0] },g,d,tk,os⟩) c l:=Heap.IsList.push f _
   wp_walk using ano j,am4 k
   exact⟨_,rfl,h⟩
  |true=>
   refine .of_wp λprog w A R s h=>?_
   obtain⟨b,g,d,tk,os⟩:=s;obtain⟨i,f,h⟩:=h;have n:=sub_zip;have j:ao9 (an7 ⟨b,g,d,tk,os⟩) a xs:=i;have k:ao9 (an7 ⟨b.push { cls:=.type "tuple_iterator",data:=.fields #[.ref a,.int 0 0] },g,d,tk,os⟩) c l:=apI f _
   wp_walk using ano j,ano k
   exact⟨_,rfl,h⟩
def hG.new{h:Heap}(e:h.get? a=some (zl b l)):hG b h a l 0:=by
 cases b with
 |true=>exact⟨_,e,rfl,rfl⟩|false=>exact⟨_,e,rfl,rfl⟩
section
variable{prog:aly}{w:World}{A:alI}{E:dp}{s:alc}
def Un{d f:Bool}{a e:Addr}{xs t:Array Value}{Q:dp}(z:kl d s.heap a xs)(y:kl f s.heap e t)
  (h:∀h',IsZip h' (s.heap.objs.size+4) (s.heap.objs.size+2) (s.heap.objs.size+3) .none->aoJ h' (s.heap.objs.size+2) (.ref s.heap.objs.size) (.ref (s.heap.objs.size+1))->
   aoJ h' (s.heap.objs.size+3) .none .none->hG d h' s.heap.objs.size a 0->hG f h' (s.heap.objs.size+1) e 0->
   (∀c o,s.heap.get? c=some o->h'.get? c=some o)->Q (.ref (s.heap.objs.size+4)) { s with heap:=h' }) :
  wpAny (model prog w) A (call (.type "zip") [.ref a,.ref e]) Q E s:=by
 refine callType_new F.called_zip (by decide) (F.typeCall_zip_2 _ _) (F.newCall_zip_2 _ _) (λobj=>F.args_object_init_3 obj _ _) F.entry_zip_new (aa5 d f a e xs t) ⟨z,y,?_⟩;have j:(Bi d s.heap a).objs.size=s.heap.objs.size+1:=anx ..;have i:(Bj d f s.heap a e).objs.size=s.heap.objs.size+2:=by rw[anx,j]
 have k:(Bk d f s.heap a e).objs.size=s.heap.objs.size+3:=by rw[anx,i]
 have m:(Bl d f s.heap a e).objs.size=s.heap.objs.size+4:=by rw[anx,k]
 have n:∀b l,(zl b l).isFreed=false:=λb l=>by cases b<;>rfl
 have g:(u7 d f s.heap a e).get? (Bl d f s.heap a e).objs.size=some _:=alk _ rfl;have r:(u7 d f s.heap a e).get? (Bk d f s.heap a e).objs.size=some _:=ak9 _ (alk _ rfl);have q:(u7 d f s.heap a e).get? (Bj d f s.heap a e).objs.size=some _:=ak9 _ (ak9 _ (alk _ rfl));have p:(u7 d f s.heap a e).get? (Bi d s.heap a).objs.size=some _:=ak9 _ (ak9 _ (ak9 _ (alk _ (n _ _))));have u:(u7 d f s.heap a e).get? s.heap.objs.size=some _:=ak9 _ (ak9 _ (ak9 _ (ak9 _ (alk _ (n _ _)))));show _/\_;rw[i,k,m]at g;rw[j,i]at q;rw[k]at r;rw[j]at p;rw[m];exact⟨⟨_,g,rfl⟩,h _ g q r (.new u) (.new p) λc o x=>
  ak9 _ (ak9 _ (ak9 _ (ak9 _ (ak9 _ x))))⟩
end
def Nw(K:aN)(f:fV):TI:=λU H R=>f U H λvs a=>∃e d b c,vs=[.ref b,.ref c]/\(∃xs,hZ e K a b xs)/\(∃g,hZ d K a c g)/\R (Hk K e d b c) a
def ael{X:aQ}{g:List Expr}{T:Nat}{S:Pos}{p pos:Pos}(E:ee X "zip")(hm:X.mg "zip"=none)(L:g9 X [a,b] o)(aw:alJ [a,b] X.env=[(false,eval a X.env),(false,eval b X.env)]:=by rfl)(x:alJ [b] X.env=[(false,eval b X.env)]:=by rfl) :
  jK X (.Tuple g T S) (.Call (.Name "zip" p) [a,b] [] pos) (Nw X.K o):=by
 intro G s U H R I h;refine PyProof.Rows.Call_ (nK I E hm PyProof.Rows.boot_zip (amn (bZ (L pos G s U H _ I h) λus d ⟨vs,B,f,O,bB⟩=>?_) (by rw[aw,x]) (by rw[x];rfl)));obtain⟨Q,P,m,u,e,⟨xs,J⟩,⟨C,F⟩,q⟩:=bB;subst e
 cases O with
 |cons r t=>
  cases t with
  |cons N t=>
   cases t;cases r;cases N;obtain⟨V,Y,p1⟩:=Inv.cT f J;obtain⟨W,Z,cG⟩:=Inv.cT f F;have z:m<d.heap.objs.size:=by obtain⟨_,_,e,_⟩:=p1.obj;exact alq e
   have A:u<d.heap.objs.size:=by obtain⟨_,_,e,_⟩:=cG.obj;exact alq e
   refine Un p1 cG λh' a1 a2 gy h1 i4 M=>?_
   refine wpAny_pyIter_zip (s:={ d with heap:=h' }) a1 ?_;have D:ZipApart (d.heap.objs.size+4) (d.heap.objs.size+2) (d.heap.objs.size+3) d.heap.objs.size (d.heap.objs.size+1) m u:=by
    have up:∀{l:Addr}(k:Nat),l<d.heap.objs.size->l≠d.heap.objs.size+k:=λk h=>alQ (alO h (anh _ _))
    have mj:m≠d.heap.objs.size:=alQ z;have w:u≠d.heap.objs.size:=alQ A;have i:=λk=>up k z
    have j:=λk=>up k A
    generalize d.heap.objs.size=n at mj w i j ⊢;constructor<;>first|exact i 4|exact i 3|exact mj|exact i 1|exact j 4|exact j 3|exact w|exact j 1|(show(_:Nat)≠_;omega)
   refine⟨d.heap.objs.size+4,[d.heap.objs.size+4,d.heap.objs.size+2,d.heap.objs.size+3,d.heap.objs.size,d.heap.objs.size+1],_,_,B,rfl,f.kept (t':=d.toks) M,agD Q P D,⟨a1,a2,⟨_,_,gy⟩,h1,i4⟩,λc y=>?_,q⟩;have le:d.heap.objs.size<=c:=by
    simp at y;rcases y with rfl|rfl|rfl|rfl|rfl
    .exact anh _ _
    .exact anh _ _
    .exact anh _ _
    .exact alf _
    .exact anh _ _
   exact f.rC le (f.cf.fresh le)
end aC
namespace aC
open PySem PySem.Spec aA
variable[aA.a0]
def R.walk:R->Option (List D)
 |.v (.t xs)=>some xs|.v (.l xs)=>some xs|.fr xs=>some xs|.b5 xs=>some xs|_=>none
def BD(b:Bool)(K:aN)(O:a5)(H:au)(a:Addr)(c:List V):Prop:=match b with
 |true=>dB K H a c|false=>hY K O H a c
def BD.cT{O:a5}(h:BD b K O H a ys):hZ b K H a ys:=by
 cases b with
 |true=>exact h|false=>exact hY.cT h
def QZ{O:a5}{r:R}{v:V}(h:ek K mg O H r v)(n:iH H₀ r v)(e:r.walk=some xs):∃b a c,v=.ref a/\BD b K (cN H₀ O) H a c/\bh K mg (cN H₀ O) H xs c:=by
 unfold R.walk at e;split at e
 .cases e;obtain⟨a,c,q,l,r⟩:=h;exact⟨true,a,c,q,l,r.dd (i7 _ _)⟩
 .cases e
  obtain⟨a,c,q,l,r⟩:=h;exact⟨false,a,c,q,.inl ⟨.inl l.1,.inl ((i7 H₀ O).fr a l.2)⟩,r.dd (i7 _ _)⟩
 .cases e
  obtain⟨a,c,rfl,l,t,r⟩:=h;exact⟨false,a,c,rfl,.inl ⟨.inl l,.inl (Dl (n a rfl) t)⟩,r.dd (i7 _ _)⟩
 .cases e
  obtain⟨a,c,q,l,r⟩:=h;refine⟨false,a,c,q,?_,r.dd (i7 _ _)⟩;rcases l with⟨l,f⟩|l
  .refine .inl ⟨l,?_⟩
   rcases f with f|f
   .exact .inl ((i7 H₀ O).fr a f)
   .exact .inr (by rw[rD (by rw[f];intro z;cases z)];exact f)
  .exact .inr l
 .cases e
end aC
namespace aC
open PySem PySem.Spec aA PyProof.Rows
variable[aA.a0]
def rU(t:aG->M Bool)(el:bt)(U:aG):List (D×D)->M (List D)
 |[]=>pure []|d::ds=>do
  let b <-t ((U.set 0 (.v d.1)).set 1 (.v d.2))
  if b=true then do
   let r <-el ((U.set 0 (.v d.1)).set 1 (.v d.2))
   let x <-r.dat
   let xs <-rU t el U ds
   pure (x::xs)
  else rU t el U ds
def xW:List R->Option (List (D×D))
 |[x,y]=>match x.walk,y.walk with
  |some xs,some ys=>some (xs.zip ys)|_,_=>none
 |_=>none
@[simp] def vw(cap:List Nat)(ms:cP)(t:aG->M Bool)(el:bt)(U:aG):M R:=do
 let rs <-ms U
 match xW rs with
 |some ds=>do
  hL (ds.length<ald)
  let xs <-rU t el (h2 2 cap U) ds
  pure (.fr xs)
 |none=>bad
def aiw(h:xW rs=some ds):∃x y xs a,rs=[x,y]/\x.walk=some xs/\y.walk=some a/\ds=xs.zip a:=by
 unfold xW at h;split at h
 .rename_i x y
  split at h
  .rename_i xs a aq aE
   cases h;exact⟨x,y,xs,a,rfl,aq,aE,rfl⟩
  .cases h
 .cases h
def hZ.same{b:Bool}{K:aN}{H c:au}(s:eD H c){a:Addr}{d:List V}(h:hZ b K H a d):hZ b K c a d:=by
 cases b with
 |true=>exact s.xp h|false=>exact s.seq h
omit [aA.a0]in
theorem NM{t:aG->M Bool}(U:aG):∀ds,rU t el U ds=nD (λd=>some ((U.set 0 (.v d.1)).set 1 (.v d.2))) t el ds
 |[]=>rfl| d::ds=>by unfold rU nD;rw[NM U ds]
def UA{K:aN}{mg:bp}{cap:List Nat}{ms:cP}{t:aG->M Bool}{el:bt}:∀f H Q,gr K mg (vw cap ms t el) f H Q->uW 2 cap (Nw K (n1 K mg ms)) (Dr K 2 (qj [0,1])) (pH K mg t) (gr K mg el) f H Q:=by
 rintro f H Q ⟨O,U,S,r,ah,st,h,q⟩;obtain⟨rs,E,J,h⟩:=M.inv h
 cases o:xW rs with
 |none=>rw[o]at h;cases h
 |some ds=>
  rw[o]at h;obtain⟨_,aW,L,h⟩:=M.inv h;obtain⟨b,rfl⟩:=rk L;obtain⟨xs,hF,w,h⟩:=M.inv h;cases h;obtain⟨x,y,N,Bc,rfl,ex,f6,rfl⟩:=aiw o;rw[NM]at w;refine⟨O,U,S,_,E,st,J,λaF vs H1 A G j nn=>?_⟩;obtain⟨v1,bD,rfl,F,v2,bV,rfl,V,re⟩:=j;cases re;obtain⟨Z,P,us,rfl,m,a1⟩:=QZ F nn.1 ex;obtain⟨X,Y,e,rfl,s2,a2⟩:=QZ V nn.2.1 f6;refine⟨Z,X,P,Y,rfl,⟨us,m.cT⟩,⟨e,s2.cT⟩,JW (G.cN H) b (λa s=>⟨us,e,hZ.same s m.cT,hZ.same s s2.cT,?_⟩) (λk d kT c a C cv g' i=>?_) w λc v a g i j nn=>q c v a (A.cN.trans g) i j (nn.back A.same)⟩
  .rw[List.length_zip,a1.len,a2.len];omega
  .cases cv
   obtain⟨aq,aE⟩:=List.getElem?_zip_eq_some.mp C;obtain⟨u,D,I⟩:=(bh.go g' (a1.dd (jO _))).get aq;obtain⟨v,z,W⟩:=(bh.go g' (a2.dd (jO _))).get aE;have bB:=hZ.same g'.same m.cT;have bY:=hZ.same g'.same s2.cT;refine⟨⟨⟨us,u,bB,D⟩,⟨e,v,bY,z⟩⟩,λx aJ R kS jW=>?_⟩;obtain⟨u',fQ,T,rfl,B,rfl,zi,tE⟩:=kS;have n:=zi us bB;rw[D]at n;cases n;have p:=tE e bY;rw[z]at p;cases p;have l:Go c c a (upd a T (.t [u,v])):=Go.gH B;exact⟨T,[u,v],rfl,dB.of dZ,rfl,u,[v],rfl,v,[],rfl,rfl,jW _ _ l (((i.gH B).val (I.go l)).val (W.go l)) (((mT.refl _).set rfl).set rfl)⟩
section
variable{X:aQ}{scope esc:Scope}{EN N:List Str}{cap:List Nat}{elt a eN:Expr}{ifs:List Expr}{pos d9 p dM p1 cG:Pos}{x y:Str}{t:aG->M Bool}{el:bt}{ms:cP}{k:Nat}
def Up(S:kV esc scope EN N 2 cap)(i:ee X "zip")(hm:X.mg "zip"=none)(m:G_ X [a,eN] ms)(l:N[0]? = some x)(j:N[1]? = some y)
  (e:oh X scope N x) (f:oh X scope N y)
  (n:∀C b s H,Bn (d6 X scope N C b s H) ifs t) (q:∀C b s H,hB (d6 X scope N C b s H) elt el)
  (he:X.env.scope=esc:=by rfl) (hN:X.N=EN:=by rfl) (d:X.calm=true:=by rfl) (aw:k4 X (.Call (.Name "zip" p) [a,eN] [] dM):=by intro _;rfl)
  (h:alJ [a,eN] X.env=[(false,eval a X.env),(false,eval eN X.env)]:=by rfl) (r:alJ [eN] X.env=[(false,eval eN X.env)]:=by rfl)
  (c:Hw X scope N x p1 y cG:=by intro _ _ _ _;exact⟨rfl,rfl,rfl,rfl⟩) :
  hB X (.ListComp elt [⟨.Tuple [.Name x p1,.Name y cG] k d9,.Call (.Name "zip" p) [a,eN] [] dM,ifs,0⟩] scope pos) (vw cap ms t el):=
 eb (FI (g:=Dr X.K 2 (qj [0,1])) S (ael i hm m h r)
  (λC b s H=>FL d (FO S.fI l (e C b s H).1 (FO S.fI j (f C b s H).1 Pz (c C b s H).2.2.2 (.inr (f C b s H).2)) (c C b s H).2.2.1 (.inr (e C b s H).2)) (c C b s H).1 (c C b s H).2.1) n q he hN d aw) UA
end
end aC
namespace aC
open PySem PySem.Spec aA PyProof.Rows
def T7:al2 "max"=some (.builtin "max"):=by decide +kernel
def kmk_max_key(a v:Value):argsOk "max" ⟨[a],[(alG "key",v)]⟩:=by kernel_rfl
def qs(mf:bq)(d:D):Option (List Int):=match(mf [d]).run []with
 |.ok (.v (.t o)) []=>nums o|_=>none
def mr(mf:bq)(b:D)(a:List Int):List D->Option D
 |[]=>some b|d::ds=>match qs mf d with
  |some es=>if oU es a=true then mr mf d es ds else mr mf b a ds|none=>none
def qy(mf:bq):List D->Option D
 |d::ds=>match qs mf d with
  |some k=>mr mf d k ds|none=>none
 |[]=>none
def Dd(mf:bq)(x:R):M R:=match x.fz with
 |some ds=>match qy mf ds with
  |some r=>if ds.length<64 then pure (.v r)else bad|none=>bad
 |none=>bad
@[simp] def yA(mf:bq)(ma:bt)(U:aG):M R:=do
 let x <-ma U
 Dd mf x
def Z7{mf:bq}{k:List Int}(h:qs mf d=some k):∃a,(mf [d]).run []=.ok (.v (.t a)) []/\nums a=some k:=by
 unfold qs at h;split at h
 .rename_i a e;exact⟨a,e,h⟩
 .cases h
variable[aA.a0]
section
variable{X:aQ}{ae:cZ}{U:aA.St}{H:au}{s:alc}{G:au->Prop}{mf:bq}{f S it l:Addr}{k:Nat}{O:a5}
def next_item{xs:List V}{v:V}{E:dp}{A:alI}(I:Inv X ae U H1 s)(J:dw X.K H1 l xs)(q:xs[j]? = some v)(t:hn X ae H1 it)(a:s.heap.IsListIter it l j)(dh:A.handled=none) :
  wpAny (model X.prog X.w) A (pyNext (.ref it)) (λr h=>∃u,r=some u/\RelV v u/\Inv X ae U H1 h/\h.heap.IsListIter it l (j+1)) E s:=by
 obtain⟨us,p,pl,_⟩:=I.list J;have hl:=pl.isList;have P:l≠it:=by
  rintro rfl;obtain⟨o,e,c,_⟩:=a;obtain⟨Q,d,c',_⟩:=hl;rw[e]at d;cases d;rw[c]at c';injection c' with z;exact absurd z (by decide)
 obtain⟨u,g,y⟩:=p.get q;refine(apv dh it l P us.toArray).item j s _ _ (by have:=(ak8.mp g).1;simpa using this) ⟨a,hl⟩ λu' h' n x i N=>?_
 have e:some u'=some u:=by rw[<-g];simpa using x.symm
 cases e;obtain⟨B,D,R,M,F,L⟩:=t;exact⟨u,rfl,y,I.turned (λb o m e=>N b o (by simpa using m) e) B D M F L,i.1⟩
def acL{xs:List V}{E:dp}{A:alI}(I:Inv X ae U H1 s)(u:dw X.K H1 l xs)(m:j=xs.length)(n:hn X ae H1 it)(a:s.heap.IsListIter it l j)(dh:A.handled=none) :
  wpAny (model X.prog X.w) A (pyNext (.ref it)) (λr J=>r=none/\Inv X ae U H1 J) E s:=by
 obtain⟨us,i,pl,_⟩:=I.list u;have hl:=pl.isList;have F:l≠it:=by
  rintro rfl;obtain⟨o,e,c,_⟩:=a;obtain⟨L,d,c',_⟩:=hl;rw[e]at d;cases d;rw[c]at c';injection c' with z;exact absurd z (by decide)
 have B:j=us.toArray.size:=by rw[ali,m,i.length]
 rw[B]at a;refine(apv dh it l F us.toArray).done s _ _ ⟨a,hl⟩ λh' h D=>?_
 obtain⟨p,q,M,y,t,x⟩:=n;exact⟨rfl,I.turned (λb o g e=>D b o (by simpa using g) e) p q y t x⟩
def aab{i:a5}{v:V}{A:alI}(F:oa X k f G mf)(Q:cB k A.in1)(dX:kW X.prog X.w X.K X.mg X.base A.in1 X.stack s H1)(I:Inv X ae U H1 s)(fs:df i H1)(L:G H1)(c_:Rep X.K X.mg i H1 d v)(eo:RelV v u)(hd:(mf [d]).run []=.ok (.v o) [])(D:hn X ae H1 it)(y:s.heap.IsListIter it l j) :
  wpAny (model X.prog X.w) A.in1 (call (.ref f) [u]) (λu' s2=>∃(n:a5)(a:au)(c:V),Inv X ae U a s2/\Go i n H1 a/\df n a/\G a/\Rep X.K X.mg n a o c/\RelV c u'/\hn X ae a it/\s2.heap.IsListIter it l j) (λ_ _=>False) s:=by
 obtain⟨B,M,ci,N⟩:=y;have P:=I.pinned (λb t=>by rw[alB.mp t];exact D) λb t=>by
  rw[alB.mp t];exact⟨B,M,λv z=>by rw[N]at z;cases z⟩
 refine wpAny_call (anz (F.2.2 A.in1 s H1 u v (λc p=>∃m,Go i m H1 p/\df m p/\Rep X.K X.mg m p o c) Q dX L eo ?_) λr s2 h=>?_)
 .refine⟨i,[d],.v o,[],fs,fN.nil,⟨v,[],rfl,?_,rfl⟩,hd,λm c p g C Y _=>⟨m,g,C,Y⟩⟩
  cases d<;>first|exact c_|exact alV c_|skip
  obtain⟨x,zs,q,l,r⟩:=c_;exact⟨x,zs,q,l.cT,r⟩
 .cases r with
  |error e=>exact alV h|ok R=>
   cases R with
   |ret u'=>
    obtain⟨c,a,E,T,n,J,Z,W⟩:=P.after h;have pin:=E.pin (it,B) (alN _ (alN _ (by unfold uG;simp[M])));exact⟨n,a,c,E.xI,J,Z,F.1 _ _ J.same L,W,T,⟨pin.2.1,D.2⟩,⟨B,pin.1,ci,N⟩⟩
   |next=>exact alV h
   |brk=>exact alV h|cont=>exact alV h
def wz(mf:bq):Option (D×List Int)->List D->Option D
 |none,ds=>qy mf ds|some b,ds=>mr mf b.1 b.2 ds
def Rt(K:aN)(mg:bp)(O:a5)(H:au):Option (D×List Int)->List V->Prop
 |none,zs=>zs=[]|some b,zs=>∃v a,zs=[v,a]/\Rep K mg O H b.1 v/\Rep K mg O H (.t (b.2.map D.int)) a
structure G7(X:aQ)(ae:cZ)(U:aA.St)(G:au->Prop)(O:a5)(H:au)(S it l:Addr)(j:Nat)(b:Option (D×List Int))(a7:alc):Prop where
 ex:∃ai H' zs,Inv X ae U H' a7/\Go O ai H H'/\df ai H'/\G H'/\H' S=some (.l zs)/\Rt X.K X.mg ai H' b zs/\ai S=.dI/\hn X ae H' it/\a7.heap.IsListIter it l j
def Hn(X:aQ)(ae:cZ)(U:aA.St)(O:a5)(H:au)(res:D)(u:Value)(c:alc):Prop:=
 ∃b a v,Inv X ae U a c/\Go O b H a/\df b a/\Rep X.K X.mg b a res v/\RelV v u
def aeV{K:aN}{mg:bp}{O:a5}{H:au}{c:List D}{b:List Int}{v:V}(r:Rep K mg O H (.t c) v)(e:nums c=some b):Rep K mg O H (.t (b.map D.int)) v:=by
 obtain⟨a,g,rfl,cT,d⟩:=r;have:=Ad d e;subst this;exact⟨a,_,rfl,cT,Qa b⟩
def Qc{K:aN}{mg:bp}{O:a5}{H:au}{b:List Int}{v:V}(r:Rep K mg O H (.t (b.map D.int)) v):∃a,v=.ref a/\dB K H a (b.map V.int):=by
 obtain⟨a,c,rfl,cT,i⟩:=r;have:∀(b:List Int)(c:List V),bh K mg O H (b.map D.int) c->c=b.map V.int:=by
  intro b
  induction b with
  |nil=>intro c h;exact h|cons a t d=>
   intro c h;obtain⟨y,r,rfl,e,g⟩:=h;rw[show y=V.int a from e,d _ g];rfl
 rw[this b c i]at cT;exact⟨a,rfl,cT⟩
def vals2{v a:V}(h:Vals [v,a] its):∃u b,its=[u,b]/\RelV v u/\RelV a b:=by
 cases h with
 |cons c d=>cases d with
  |cons e g=>cases g;exact⟨_,_,rfl,c,e⟩
def TB{a:au}{c:List Value}{v g:V}(I:Inv X ae U a s)(j:a S=some (.l zs))(m:s.heap.get? S=some (amq "list" c.toArray p7))(i:RelV v u)(n:RelV g C) :
  Inv X ae U (upd a S (.l [v,g])) { s with heap:=s.heap.update S (alL λ_=>#[u,C]) }:=by
 obtain⟨aj,d⟩:∃aj,(s.heap.update S (alL λ_=>#[u,C])).get? S=some (amq "list" #[u,C] aj):=⟨_,anp m λ_=>#[u,C]⟩;refine I.write (by rw[j];trivial) (.inl rfl) (λb o h e=>((amh s.heap S (alL λ_=>#[u,C])).2 b h).trans e) ⟨_,d⟩ ⟨by rw[alM];simp,[u,C],aj,.cons i (.cons n .nil),d⟩
def TA{a:au}{c:List Value}(I:Inv X ae U a s)(h:a S=some (.l zs))(i:s.heap.get? S=some (amq "list" c.toArray C)) :
  Inv X ae U (upd a S (.l [])) { s with heap:=s.heap.update S (alL λ_=>#[]) }:=by
 obtain⟨aj,d⟩:∃aj,(s.heap.update S (alL λ_=>(#[]:Array Value))).get? S=some (amq "list" #[] aj):=⟨_,anp i λ_=>#[]⟩;refine I.write (by rw[h];trivial) (.inl rfl) (λb o g e=>((amh s.heap S (alL λ_=>(#[]:Array Value))).2 b g).trans e) ⟨_,d⟩ ⟨alX _,[],aj,.nil,d⟩
def ZG{h:Heap}(c:S≠it)(a:h.IsListIter it l j):(h.update S g).IsListIter it l j:=by
 obtain⟨e,d,b,i⟩:=a;exact⟨e,((amh h S g).2 it c.symm).trans d,b,i⟩
def Vz(b:S≠it)(a:hn X ae H1 it):hn X ae (upd H1 S o) it:=⟨by rw[c3 b.symm];exact a.1,a.2⟩
def aa4{res:D}(fu:oa X k f G mf)(Z:cB (k+1) X.A)(Na:H S=none)(vW:S≠it)(ra:bh X.K X.mg O H ds xs)(hl:dw X.K H l xs) :
  ∀(r:List D)(j:Nat)(b:Option (D×List Int))(t:alc),ds.drop j=r->G7 X ae U G O H S it l j b t->j<=ds.length->wz mf b r=some res->
   anH (model X.prog X.w) X.A (.builtin "max.loop" ⟨[.ref it,.ref f,.ref S],[]⟩) (λr t=>∃u,r=.ok (.ret u)/\Hn X ae U O H res u t) t:=by
 have aks:(toString "max"++toString ".loop":String)="max.loop":=by decide
 have dh:=Z.in1.hd;intro r
 induction r with
 |nil=>
  rintro j (_|b) t T B bj a
  .cases a
  .cases a
   obtain⟨aF,H1,_,F,g,fs,pY,h,⟨v,kv,rfl,c_,xk⟩,eS,Q,p⟩:=B.ex;obtain⟨hg,its,n,d,jA⟩:=F.cf S _ h;obtain⟨u,mi,rfl,eo,Qg⟩:=vals2 d;refine codeAny_builtin apo<|ak7 (ane jA rfl ?_)
   refine ak7 (aoC (al9 (acL (E:=λ_ _=>False) F (g.same.seq hl) (by
    have:=congrArg amO T;rw[amb,amm]at this;rw[ra.len];omega) Q p dh) (λr s1 y=>?_) λ_ _ N=>N.elim))
   obtain⟨rfl,J⟩:=y;obtain⟨_,lj,e2,agO,M3⟩:=J.cf S _ h;refine ak7 (aor M3 rfl (hz:=by rw[ali,<-agO.length,alM];simp) (ak7 (anI (alm ?_))));exact⟨u,rfl,aF,_,v,TA J h M3,⟨xJ Na g.same h _,g.own,g.bK⟩,fs.eF h,c_.eF (by rw[eS];intro z;cases z) h,eo⟩
 |cons x r o=>
  intro j b t T B bj a;have a:∃es,qs mf x=some es/\wz mf (match b with|none=>some (x,es)|some b=>if oU es b.2=true then some (x,es)else some b) r=some res:=by
   cases e:qs mf x with
   |none=>cases b<;>simp[wz,qy,mr,e]at a
   |some es=>
    refine⟨es,rfl,?_⟩
    cases b with
    |none=>simpa[wz,qy,e]using a|some b=>
     simp only[wz,mr,e]at a
     by_cases c:oU es b.2=true
     .simp only[if_pos c]at a ⊢;exact a
     .simp only[if_neg c]at a ⊢;exact a
  obtain⟨es,jS,a⟩:=a;obtain⟨cb,hm,aB⟩:=Z7 jS;obtain⟨aF,H1,zs,F,g,fs,pY,h,bs,eS,Q,p⟩:=B.ex;obtain⟨hg,its,n,d,jA⟩:=F.cf S _ h;have M:ds[j]? = some x:=by have:=congrArg (·[0]?) T;simpa using this
  have V:ds.drop (j+1)=r:=by have:=congrArg (List.drop 1) T;simpa using this
  have Y:=(ak8.mp M).1;obtain⟨v2,Y',xj⟩:=ra.get M;refine codeAny_builtin apo<|ak7 (ane jA rfl ?_)
  refine ak7 (aoC (al9 (next_item (E:=λ_ _=>False) F (g.same.seq hl) Y' Q p dh) (λr s1 y=>?_) λ_ _ N=>N.elim));obtain⟨sv,rfl,Qk,J,YE⟩:=y;refine ak7 (aoC (amF (al9 (aab fu Z.in1 J.yS.in1 J fs pY (xj.go g) Qk hm Q YE) (λagI s3 y=>?_) λ_ _ N=>N.elim)));obtain⟨fT,da,C,L,i,tc,Hd,I,Qh,Mo,M7⟩:=y;have m:=i.same.at' _ _ h;have R:=(i.own S (by rw[h];intro z;cases z)).trans eS;obtain⟨Zh,ZI,j3,q,W⟩:=L.cf S _ m;have Qf:=aeV I aB;have put:G7 X ae U G O H S it l (j+1) (some (x,es)) { s3 with heap:=s3.heap.update S (alL λ_=>#[sv,agI]) }:=
   ⟨fT,_,_,TB L m W Qk Qh,⟨xJ Na (g.trans i).same m _,(g.trans i).own,(g.trans i).bK⟩,tc.eF m,fu.2.1 _ _ _ _ m Hd,dZ,⟨v2,C,rfl,(xj.go (g.trans i)).eF (by rw[R];intro z;cases z) m,Qf.eF (by rw[R];intro z;cases z) m⟩,R,Vz vW Mo,ZG vW M7⟩
  have hz:ZI.toArray.size<=ald:=by rw[ali,<-q.length];exact Zh
  cases b with
  |none=>
   obtain rfl:=bs;cases d;refine ak7 (aor W rfl ?_);exact alm ⟨aoT anv _,o (j+1) _ _ V put Y a⟩
  |some b=>
   obtain⟨v,kv,rfl,c_,xk⟩:=bs;obtain⟨u,mi,rfl,eo,Qg⟩:=vals2 d;obtain⟨gy,rfl,afC⟩:=Qc Qf;obtain⟨a1,rfl,afB⟩:=Qc (xk.go i);cases Qh;cases Qg;obtain⟨t3,D',FF,_⟩:=L.tuple afC;obtain⟨t1,gC,p1,_⟩:=L.tuple afB;refine ak7 (aoC (amF (ak7 ((V7 FF p1 (intsAre_of D') (intsAre_of gC) Z.in1.agM ?_)))));refine ak7 (amF (ami ?_));refine ak7 (anI (alm ?_));dsimp only at a
   by_cases P:oU es b.2=true
   .rw[if_pos P]at a
    simp only[P];refine ak7 (aor W rfl (ak7 (anI ?_)));exact alm ⟨aoT anv _,o (j+1) _ _ V put Y a⟩
   .rw[if_neg P]at a
    simp only[P];refine ak7 (anI ?_);exact alm ⟨aoT anv _,o (j+1) (some b) _ V ⟨fT,da,_,L,g.trans i,tc,Hd,m,⟨v,.ref a1,rfl,c_.go i,xk.go i⟩,R,Mo,M7⟩ Y a⟩
def aa3{E:dp}(I:Inv X ae U H s)(m:df O H)(p:bh X.K X.mg O H ds xs)(hl:dw X.K H l xs)(h:oa X k f G mf)(q:G H)(j:cB (k+1) X.A)(hm:qy mf ds=some res) :
  wpAny (model X.prog X.w) X.A (call (.builtin "max") [.ref l] [(alG "key",.ref f)]) (Hn X ae U O H res) E s:=by
 obtain⟨us,x,pl,_⟩:=I.list hl;refine kmk_tree PySem.F.kind_max PySem.F.plain_max PySem.F.entry_max (kmk_max_key _ _)<|ak7 (wpAny_of_eq (show Builtin.Builtins.bindParams "max" ["key","default"] 0 ⟨[],[(alG "key",.ref f)]⟩=pure [some (.ref f),none]from rfl) ?_)
 refine ak7 (alm ?_);refine ak7 (am4 pl.isList ?_);refine ak7 (wpAny_newList ?_ (alX _));have g:Inv X ae U H { s with heap:=s.heap.push { cls:=.type "list_iterator",data:=.fields #[.ref l,.int 0 0] } }:=I.kept λb o e=>ak9 _ e
 have n:(s.heap.push { cls:=.type "list_iterator",data:=.fields #[.ref l,.int 0 0] }).get? s.heap.objs.size=some _:=alk _ rfl;have y:(s.heap.push { cls:=.type "list_iterator",data:=.fields #[.ref l,.int 0 0] }).objs.size=s.heap.objs.size+1:=size_push' ..;generalize s.heap.push { cls:=.type "list_iterator",data:=.fields #[.ref l,.int 0 0] }=C at *;have c:=g.cf.fresh (alf _);have i:C.objs.size≠s.heap.objs.size:=by omega
 have a:Go O (gL O C.objs.size .dI) H (upd H C.objs.size (.l [])):=Go.new c;refine alm ⟨aoT anv _,anz (aa4 h j c i p hl ds 0 none _ rfl ⟨_,_,_,g.laid (o:=.l []) (λb o e=>ak9 _ e) (alf _) ⟨alX _,[],0,.nil,alk _ rfl⟩,a,m.new c,h.1 _ _ a.same q,dZ,rfl,lC,I.rC (alf _) (by rw[c3 i.symm];exact I.cf.fresh (alf _)),⟨_,ak9 _ n,rfl,rfl⟩⟩ (alX _) hm) λr t d=>?_⟩;obtain⟨u,rfl,d⟩:=d;exact d
end
section
variable{X:aQ}{k:Nat}{e:Expr}{ma:bt}{p pos kp:Pos}{i_:Expr}{mf:bq}{G:Addr->au->Prop}
def Uq(T:ee X "max")(hm:X.mg "max"=none)(P:cB (k+1) X.A)(Y:hB X e ma)
  (er:∀(d:cZ)(s:alc)(U:aA.St)(O:a5)(H:au),Inv X d U H s->df O H->
   wpAny (model X.prog X.w) X.A (eval i_ X.env) (λu N=>∃(f:Addr)(g:au)(G:au->Prop),u=.ref f/\Inv X d U g N/\Go O O H g/\df O g/\G g/\oa X k f G mf) X.dS s)
  (he:sY X pos e:=by rfl)
  (aw:e_ X e []:=by rfl)
  (h7:f5 X pos [e]:=by rfl) :
  hB X (.Call (.Name "max" p) [e] [⟨some (alG "key"),i_,kp⟩] pos) (yA mf ma):=by
 rintro d s U H Q I ⟨O,F,S,r,W,st,h,q⟩;obtain⟨x,m,V,h⟩:=M.inv h;obtain⟨ds,res,oL,L,la,rfl,rfl⟩:∃ds res,x.fz=some ds/\qy mf ds=some res/\ds.length<64/\r=.v res/\m=W:=by
  unfold Dd at h;split at h
  .rename_i ds aq
   split at h
   .rename_i res aE
    by_cases c:ds.length<64
    .rw[if_pos c]at h
     cases h;exact⟨ds,res,aq,aE,c,rfl,rfl⟩
    .rw[if_neg c]at h;cases h
   .cases h
  .cases h
 refine amo (nK I T hm T7 ?_);refine callWith_kw ?_ he h7 rfl rfl;refine bZ ((uE Y xg aw) pos d s U H (λvs b=>∃v a,vs=[v]/\Go O a H b/\cC X.K X.mg a F m U b/\ek X.K X.mg a b x v) I ⟨O,F,S,x,m,st,V,λa v b B i z nn=>⟨v,a,rfl,B,i,z⟩⟩) λus s1 n=>?_
 obtain⟨vs,b,C,o,v,a,ev,B,i,z⟩:=n;subst ev;obtain⟨l,ys,rfl,hl,ra⟩:=R.oV z oL;obtain⟨u,rfl,eo⟩:=vals1 o;cases eo;refine wpAny_evalAll_cons (ak7 (bZ (er d s1 U a b C i.cm) λu s2 Z=>ak7 (an8 (alm ?_))));obtain⟨f,aJ,G,rfl,cc,j,c9,J,fu⟩:=Z;refine wpAny_evalAll_nil ?_;show wpAny _ _ (call (.builtin "max") [.ref l] [(alG "key",.ref f)]) _ _ _;refine bZ (aa3 cc c9 (ra.go j) (j.same.seq hl) fu J P L) λu s3 n=>?_
 obtain⟨fT,D,v,dV,E,tc,t,y⟩:=n;exact⟨v,D,dV,y,q fT _ D (B.trans (j.trans E)) (i.go (j.trans E) tc) t trivial⟩
def Ur{c P:Addr}{q p1:Str}{params:anR}{body:Expr}{scope:Scope}{y:Pos}{N:List Str}{m:bt}(j:ee X "max")(hm:X.mg "max"=none)(i:cB (k+3) X.A)(L:p0 X.K c P q)(B:kb X.base X.mg)(J:X.env.code=.ref c)
  (h:X.env.qual++alG "<lambda>"=q) (g:g8 N [p1] scope)
  (D:∀(c:Addr)(b a u:Value),anf (W.kla_fn (alG "<lambda>") q params body scope [] b (.ref c) a) ⟨[u],[]⟩=pure [(p1,u)])
  (l:∀(f c:Addr)(A:alI)(s:alc)(H:au),cB k (A.deeper (anA q scope s.heap.objs.size f (.ref c)))->hB (ha eC X.prog X.w X.K X.mg X.base N q scope f (.ref c) A X.stack s H i1).gI body m)
  (n:hB X e ma) (M:ao0 params X.env=([],[]):=by rfl) (F:anY scope X.env=pure []:=by rfl)
  (he:sY X pos e:=by rfl)
  (aw:e_ X e []:=by rfl)
  (x:f5 X pos [e]:=by rfl) :
  hB X (.Call (.Name "max" p) [e] [⟨some (alG "key"),.Lambda params body scope y,kp⟩] pos) (yA (fnOf 1 N.length (aZ m)) ma):=
 Uq (k:=k+1) j hm (i.mono (by omega)) n (λR s U O H I r=>bZ (Od I r L B J h M F) λu Q ⟨f,c',b,a,d,E,t,g',d',z⟩=>
  ⟨f,d,_,E,t,g',d',z,Oe g (D c' b a) (l f c')⟩) he aw x
end
end aC
namespace aC
open PySem PySem.Spec aA PyProof.Rows
variable[aA.a0]
section
variable{X:aQ}{scope esc:Scope}{EN N:List Str}{cap:List Nat}{elt a eN:Expr}{ifs:List Expr}{pos d9 p dM p1 cG:Pos}{x y:Str}{t:aG->M Bool}{el:bt}{ms:cP}{k:Nat}
def ag7(S:kV esc scope EN N 2 cap)(d:ee X "zip")(hm:X.mg "zip"=none)(g:gw X [a,eN] ms)(f:N[0]? = some x)(e:N[1]? = some y)
  (m:oh X scope N x) (q:oh X scope N y)
  (h:∀C b s H,rb (d6 X scope N C b s H) ifs t) (i:∀C b s H,bb (d6 X scope N C b s H) elt el)
  (he:X.env.scope=esc:=by rfl) (hN:X.N=EN:=by rfl) (l:X.calm=true:=by rfl) (aw:k4 X (.Call (.Name "zip" p) [a,eN] [] dM):=by intro _;rfl)
  (c:alJ [a,eN] X.env=[(false,eval a X.env),(false,eval eN X.env)]:=by rfl) (j:alJ [eN] X.env=[(false,eval eN X.env)]:=by rfl)
  (n:Hw X scope N x p1 y cG:=by intro _ _ _ _;exact⟨rfl,rfl,rfl,rfl⟩) :
  bb X (.ListComp elt [⟨.Tuple [.Name x p1,.Name y cG] k d9,.Call (.Name "zip" p) [a,eN] [] dM,ifs,0⟩] scope pos) (vw cap ms t el):=
 ⟨Up S d hm g.un f e m q (λC b s H=>(h C b s H).un) (λC b s H=>(i C b s H).un) he hN l aw c j n⟩
end
section
variable{X:aQ}{k:Nat}{e:Expr}{ma:bt}{p pos kp:Pos}
def ahb{c P:Addr}{q p1:Str}{params:anR}{body:Expr}{scope:Scope}{n:Pos}{N:List Str}{m:bt}(g:ee X "max")(hm:X.mg "max"=none)(a:cB (k+3) X.A)(L:p0 X.K c P q)(B:kb X.base X.mg)(x:X.env.code=.ref c)
  (d:X.env.qual++alG "<lambda>"=q) (b:g8 N [p1] scope)
  (r:∀(c:Addr)(z j u:Value),anf (W.kla_fn (alG "<lambda>") q params body scope [] z (.ref c) j) ⟨[u],[]⟩=pure [(p1,u)])
  (h:∀(f c:Addr)(A:alI)(s:alc)(H:au),cB k (A.deeper (anA q scope s.heap.objs.size f (.ref c)))->bb (ha eC X.prog X.w X.K X.mg X.base N q scope f (.ref c) A X.stack s H i1).gI body m)
  (i:bb X e ma) (y:ao0 params X.env=([],[]):=by rfl) (t:anY scope X.env=pure []:=by rfl)
  (he:sY X pos e:=by rfl)
  (aw:e_ X e []:=by rfl)
  (l:f5 X pos [e]:=by rfl) :
  bb X (.Call (.Name "max" p) [e] [⟨some (alG "key"),.Lambda params body scope n,kp⟩] pos) (yA (fnOf 1 N.length (aZ m)) ma):=
 ⟨Ur g hm a L B x d b r (λf c A s H a=>(h f c A s H a).un) i.un y t he aw l⟩
end
omit [aA.a0]in
section
open c7
variable{prog:aly}{w:World}{A:alI}{E:dp}{s:alc}
omit [aA.a0]in
theorem VP{t bc:Addr}{a:Array Value}{c d:Value}{lo hi:Option Int}{Q:dp}(b:IsTup s.heap t a)(aw:s.heap.IsSliceOf bc c d .none)(pl:an2 c lo)(f:an2 d hi)
  (hw:cw a.size 0 lo=0/\cw a.size a.size hi=a.size)
  (h:Q (.ref t) s):wpAny (model prog w) A (aoj (.ref t) (.ref bc)) Q E s:=by
 obtain⟨os,g,i,j⟩:=id aw;have e:s.TypeIs (.ref bc) "slice":=⟨os,g,i⟩;unfold aoj
 try with_reducible refine amF ?_
 skip
 refine ak7 (wpAny_sequenceKey b.typeIs (by decide) ?_);refine ak7 (ank (name:=alG "__getitem__") b.typeIs amd
  (aod amd b.typeIs entry_tuple_getitem ?_ (args_tuple_getitem _ _)))
 show wpAny _ _ (aoP (.ref t) >>= _) _ _ s;refine ak7 (tupleItemsOf_ b ?_);refine ak7 (wpAny_typeOf e ?_);rw[if_pos (by decide)];refine ak7 (Qt aw pl f ?_);rw[hw.1,hw.2];show wpAny _ _ (if((((0:Nat):Int))==0&&(1:Int)==1&&(a.size-0)==a.size)=true then _ else _) _ _ s;rw[if_pos (by simp)];refine ak7 (m:=Builtin.Tuple.tupleIsExact _) (ak7 (wpAny_typeOf b.typeIs (alm ?_)));rw[if_pos (by decide)];refine ak7 (wpAny_rule ?_);exact alm ⟨_,rfl,alm h⟩
omit [aA.a0]in
omit [aA.a0]in
omit [aA.a0]in
end
def aeR(K:aN):V->Option Int->Option Int->au->cI->Prop:=λx lo hi H Q=>∃a xs,x=.ref a/\dB K H a xs/\(c7.cw xs.length 0 lo=0/\c7.cw xs.length xs.length hi=xs.length)/\Q (.ref a) H
omit [aA.a0]in
theorem afr:oe X (aeR X.K):=by
 intro i s U H x v j k lo hi bc Q I e aw pl g h;obtain⟨a,xs,rfl,f,hw,q⟩:=h;cases e;obtain⟨c,r,d,hz⟩:=I.tuple f;have b:c.toArray.size=xs.length:=by exact r.length.symm
 refine⟨"tuple",_,amd.lookup,d.typeIs,?_⟩;exact VP d aw pl g (by rw[b];exact hw) ⟨.ref a,H,I,rfl,q⟩
def Fm(x:R)(lo hi:Option Int):M R:=
 match x with
 |.v (.t xs)=>pure (.v (.t (cutD xs lo hi)))|_=>bad
@[simp] def Cy(a:bt)(lo hi:kZ)(U:aG):M R:=do
 let x <-a U
 let l <-lo U
 let h <-hi U
 Fm x l h
def UH{α:Type}{xs:List α}{lo hi:Option Int}(h:c7.cw xs.length 0 lo=0/\c7.cw xs.length xs.length hi=xs.length):cutD xs lo hi=xs:=by
 unfold cutD;rw[h.1,h.2,aoB,Nat.sub_zero,amr (alf _)]
section
variable{X:aQ}{e st:Expr}{m:bt}{lo hi:Option Expr}{lr mh:kZ}{pos cG p:Pos}
theorem ahk(he:bb X e m)(hl:p6 X lo lr)(L:p6 X hi mh):bb X (.Subscript e (.Slice lo hi none cG) pos) (Cy m lr mh):=⟨eb (FJ (afr.or Qs) he.un hl.un L.un) λW H Q B=>by
 obtain⟨O,U,S,r,V,st,h,q⟩:=B;obtain⟨x,j,E,G⟩:=M.inv h;obtain⟨l,k,F,D⟩:=M.inv G;obtain⟨u,P,J,h⟩:=M.inv D;refine⟨O,U,S,x,j,st,E,λz Z R N A y bA=>?_⟩;refine⟨z,U,j,l,k,A,F,λK T s bM=>?_⟩;refine⟨K,U,k,u,P,bM,J,λn Y t w=>?_⟩;have g:=(N.trans s).trans t;unfold Fm at h;split at h
 .rename_i xs
  cases h;obtain⟨a,i,rfl,f,b⟩:=(y.go (s.trans t))
  by_cases c:c7.cw xs.length 0 l=0/\c7.cw xs.length xs.length u=xs.length
  .refine .inl ⟨a,i,rfl,f,by rw[b.len];exact c,?_⟩
   rw[UH c]at q;exact q n _ _ g w ⟨a,i,rfl,f,b⟩ trivial
  .exact .inr ⟨a,i,rfl,f,by rw[b.len];exact c,λp d=>q n _ _ (g.trans (Go.gH d)) (w.gH d) ⟨p,_,rfl,dB.of dZ,(b.cut l u).go (Go.gH d)⟩ trivial⟩
 .cases h⟩
end
omit [aA.a0]in
@[simp] theorem aj0{l h:Option Int}:Fm (.v (.t xs)) l h=pure (.v (.t (cutD xs l h))):=rfl
end aC
namespace aC
open PySem PySem.Spec aA
def sJ(m:d3):aG->N Bool:=λU=>do
 let r <-m U
 r.qM.up
def sI(a:aG->N Bool):aG->N Bool:=λU=>do
 let t <-a U
 pure (!t)
def xU(a b:aG->N Bool):aG->N Bool:=λU=>do
 let t <-a U
 if t=true then b U else pure false
variable[aA.a0]
section
variable{X:aQ}{o e f value a b:Expr}{az rest:List Expr}{c:Str}{ns:List Str}{mo:bt}{ms:cP}{mv Rg:d3}{bR cL:aG->N Bool}{pos pos' apos dM:Pos}{g:List D->List R->M (R×List D)}{r:V->List V->au->cI->Prop}{name:Str}{id:String}
theorem Rk(T:mR X.K X.mg c ns){f:Str}(hf:f∈ns)(B:bb X o mo)(V:eV X value mv)(aw:amI value (some (.Attribute o f pos')) pos.line X.env=pure false:=by rfl):fW X (.Assign [.Attribute o f pos'] value pos) (dU c f mo mv):=⟨gZ (aev B.un V.un aw) λD Q H J=>by
 obtain⟨O,U,S,aS,ah,st,h,q⟩:=J;obtain⟨r,y,M,R⟩:=N.inv h;obtain⟨d,aW,P,L⟩:=N.inv R;obtain⟨x,hF,m,I⟩:=N.inv L;obtain⟨ba,q9,p,h⟩:=N.inv I;refine⟨O,U,S,r,y,st,M,λG v H1 Z l W nn=>?_⟩;obtain⟨c_,rfl⟩:=rp W nn P;obtain rfl:=(mo U).e3 _ _ _ m;refine⟨cN H G,U,_,x,_,(l.cN H).s3,m,λY fg aJ i bM E bA=>?_⟩;obtain⟨n,b,rfl,rfl,F,sn,hv⟩:=uy bM E p;obtain rfl:=(hj (.v (.ref n))).e3 _ _ _ p;split at h
 .rename_i c' aX
  split at h
  .rename_i y8
   obtain⟨rfl,A⟩:=y8;cases h;obtain⟨C,t,w,u,s,j⟩:=hv;obtain⟨jI,aq,aE,_,eO⟩:=T.ex;cases aq.symm.trans s.1;refine⟨b,C,t,w,rfl,u,aE,eO f hf,by rw[j.len];exact A,?_⟩;obtain⟨lD,mF⟩:=((l.cN H).go i bM.cm).write (o:=.ba c' (ia f d aX)) F u (by rintro(⟨_,z⟩|⟨_,_,z⟩)<;>cases z) (by intro _ z;cases z) (by intro _ z;cases z) λk=>
    ⟨C,t,_,dZ,s,(PL w).symm▸fC.ia f (k _ _ (Rep.go i c_)) ⟨j.1,j.2.imp k⟩⟩
   exact q Y Q _ ((Z.cN.trans i.dx).trans lD).d_ mF
  .cases h
 .cases h⟩
theorem Rl(slot:PySem.Slot "list" name id)(oN:typeOf (.builtin id)=pure (.type "method_descriptor"))(hm:vg X id r)(W:sL X.K X.mg r g)(E:bb X o mo)(i:gw X (e::az) ms)
  (Z:amG o name X.env (eval o X.env)=eval o X.env:=by rfl)
  (rL:((amY dM (alJ (e::az) X.env)).all (λx=>!x.1)&&(anP dM (am9 [] X.env)).all (λx=>x.1.isSome)
&&decide ((e::az).length+([]:List anW).length+(if([]:List anW).isEmpty then 0 else 1)<30))=true:=by rfl)
  (C:(apos.endLine==dM.line)=true:=by rfl) (aw:e_ X e az:=by rfl) (V:f5 X dM az:=by rfl)
  (I:amI (.Call (.Attribute o name apos) (e::az) [] dM) none pos.line X.env=pure false:=by rfl):fW X (.Expr (.Call (.Attribute o name apos) (e::az) [] dM) pos) (mI g mo ms):=
 ⟨gZ (FT (FH apf slot oN hm E.un i.un Z rL C aw V) I) λD Q H M=>by
  obtain⟨O,U,S,aS,ah,st,h,q⟩:=M;obtain⟨x,S1,s,i⟩:=N.inv h;clear h;obtain⟨rs,aW,t,P⟩:=N.inv i;obtain⟨ba,q9,w,h⟩:=N.inv P;obtain rfl:=(mo U).e3 _ _ _ s;obtain rfl:=(ms U).e3 _ _ _ t;refine⟨O,U,_,x,_,st.s3,s,λJ fg j A p F bA=>?_⟩;obtain⟨n,b,rfl,rfl,G,sn,Y⟩:=uy p F w;obtain rfl:=(hj (.v (.ref n))).e3 _ _ _ w;split at h
  .rename_i xs
   obtain⟨⟨bV,B⟩,sW,T,h⟩:=N.inv h;cases h;obtain⟨zs,y,ra⟩:=Y;refine⟨.inl ⟨rfl,_,dw.of y⟩,J,U,_,rs,_,p,t,λu vs L d bM R nn=>?_⟩;have ze:u.bK[n]? = some b:=by rw[d.bK];exact G
   have m:=d.same.at' _ _ y;refine W u L j b xs zs rs vs _ _ _ B _ m (ra.go d) R nn T λv ws az rw _=>?_
   subst az;obtain⟨lD,mF⟩:=((st.go (A.trans d) bM.cm).cN j).write (o:=.l B) ze m (by rintro(⟨_,z⟩|⟨_,_,z⟩)<;>cases z) (by intro _ z;cases z) (by intro _ z;cases z) λk=>⟨_,dZ,rw.imp k⟩
   exact q _ Q _ ((A.trans d.cN).dx.trans lD).d_ mF
  .cases h⟩
theorem aiq(m:eV X a Rg)(he:∀d,isTrue a X.env d=(do let v <-d;aoh a.pos;am1 [v] (truthy v)):=by intro _;rfl):jN X a (sJ Rg):=⟨sj (PK m.un he) λw H Q j=>by
 obtain⟨O,U,S,t,u,st,h,q⟩:=j;obtain⟨x,s,k,h⟩:=N.inv h;obtain⟨rfl,rfl⟩:=xG h;exact⟨O,U,S,_,_,st,k,λl v i g n p _=>⟨t,p,q l i g n⟩⟩⟩
theorem aio(m:jN X a bR):jN X (.UnaryOp .Not a pos) (sI bR):=⟨sj (PJ m.un) λu H Q k=>by
 obtain⟨O,U,S,r,s,st,h,q⟩:=k;obtain⟨t,p,l,h⟩:=N.inv h;cases h;exact⟨O,U,S,t,_,st,l,λi d n j=>q i d n j⟩⟩
def ais(d:jN X a bR):sX X (.BoolOp .And [a] pos) bR:=⟨PS d.un⟩
theorem air(x:jN X a bR)(p:sX X (.BoolOp .And (b::rest) pos) cL):sX X (.BoolOp .And (a::b::rest) pos) (xU bR cL):=⟨F1 (PR x.un p.un) λz H Q n=>by
 obtain⟨O,U,S,r,u,st,h,q⟩:=n;obtain⟨t,d,s,h⟩:=N.inv h;refine⟨O,U,S,t,d,st,s,λi m k j=>?_⟩
 cases t with
 |false=>
  rw[if_neg alg]at h;cases h;exact nA (q i m k j)
 |true=>
  rw[if_pos rfl]at h;exact nB ⟨i,U,d,r,u,j,h,λw l g y=>q w l (k.trans g) y⟩⟩
def sX.t(h:sX X a bR):jN X a bR:=⟨h.un.pt⟩
end
def aas{P:aly}{w:World}{K:aN}{mg:bp}{base:Heap}{f:Addr}{c:ame}{k:Nat}{mf:dC}(F:e6 P w K mg base eC k f c ["script"] (hx K mg mf))
  (h:∀ns:List Int,ns.length<=63->∃b,(mf [.l (ns.map D.int)]).run []=.ok (.v (.av true)) b):e6 P w K mg base eC k f c ["script"] (xv K):=by
 refine F.imp λvs H Q E i=>?_
 obtain⟨a,ns,e,p,g,cL,q⟩:=i;subst e;obtain⟨b,h'⟩:=h ns g;refine⟨⟨λ_=>.free,[]⟩,[.l (ns.map D.int)],_,[],b,⟨λa j=>absurd rfl j,cL,anZ,λa m=>by cases m⟩,fN.nil,rfl,⟨_,_,rfl,⟨a,_,rfl,p.imp (λz=>⟨z,by simp⟩) id,Qa ns⟩,rfl⟩,h',λr v d _ _ _ _ n _=>?_⟩;cases(show v=.av true from n);exact q d
end aC
namespace aC
open PySem PySem.Spec aA
variable[aA.a0]
section
variable{K:aN}{mg:bp}{O:a5}{H H':au}{S:bG}{U:aG}{ak:St}{p:Addr}{o:ey}
def dA.adopt(st:dA K mg O U S ak H)(F:p∉O.bK)(nl:∀i,O p≠.loc i)(same:∀b,b≠p->H' b=H b)(J:H' p≠none)(kp:H' p=H p\/∀u,H p=some u->¬Fix u/\∀j,u≠.l j)(t:O p=.free\/O p=.out->∀u,H p=some u->(∀j,u≠.l j)/\¬Fix u)(b4:TabsOk H->TabsOk H')
  (ba:(∀d v,Rep K mg O H d v->Rep K mg (hu O p) H' d v)->ob K mg (hu O p) H' p o):dA K mg (hu O p) U (S++[o]) ak H'/\(hu O p).bK[S.length]? = some p:=by
 have k:=st.s3.cm;have B:(hu O p).bK[S.length]? = some p:=by show(O.bK++[p])[S.length]? = _;rw[<-st.full,alw (alf _),ang];rfl
 have jv:fl O (hu O p) H H':=⟨λb u e h _=>by
  by_cases c:b=p
  .subst c
   rcases kp with kp|kp
   .rw[kp];exact e
   .obtain⟨e1,eA⟩:=kp u e
    exact h.elim (λz=>absurd z.2.2.choose_spec (eA _)) λz=>absurd z e1
  .rw[same b c];exact e,λb j e f=>by
   rw[pd (by rintro rfl;exact(t (.inl f) _ e).1 j rfl)];exact f,anT _ _⟩
 have f:∀d v,Rep K mg O H d v->Rep K mg (hu O p) H' d v:=λ_ _ z=>Rep.jv jv k.rh z
 have c_:∀{b:Addr}{a:List V},hE H b (.l a)->(O b=.free\/O b=.out)->b≠p:=λ{b a} h E=>by
  rintro rfl;rcases h with h|⟨x,h⟩
  .exact(t E _ h).1 a rfl
  .exact(t E _ h).2 (.inr ⟨_,_,rfl⟩)
 have G:∀{b:Addr}{a:List V},b≠p->hE H b (.l a)->hE H' b (.l a):=λ{b a} nb h=>by unfold hE;rw[same b nb];exact h
 refine⟨⟨⟨⟨λb D=>?_,b4 k.tabs,OX k F⟩,st.s3.len,λi s e=>?_,λn L e=>?_⟩,?_,λi y e=>?_⟩,B⟩
 .by_cases c:b=p
  .rw[c];exact J
  .rw[pd c]at D;rw[same b c];exact k.has b D
 .have lo:=st.s3.loc i s e
  cases s with
  |e=>exact trivial|v d=>obtain⟨v,q,r⟩:=lo;exact⟨v,q,f _ _ r⟩
  |dO M y=>
         obtain⟨b,a,q,ax,g,r⟩:=lo;have nb:b≠p:=by rintro rfl;exact nl i ax
         exact⟨b,a,q,(pd nb).trans ax,by rw[same b nb];exact g,r.imp f⟩
  |b5 y=>obtain⟨b,a,q,g,r⟩:=lo;exact⟨b,a,q,g.imp (λz=>⟨G (c_ z.1 z.2) z.1,by rw[pd (c_ z.1 z.2)];exact z.2⟩) id,r.imp f⟩
 .by_cases A:n<S.length
  .rw[alz A]at e
   obtain⟨b,aq,aE⟩:=st.s3.gK n L e;have nb:b≠p:=by rintro rfl;exact F (alF aq)
   exact⟨b,by show(O.bK++[p])[n]? = _;rw[alz (by rw[st.full];exact A)];exact aq,aE.all f λ_ l _=>by rw[same b nb];exact l⟩
  .rw[alw (by omega)]at e
   obtain rfl:n=S.length:=by
    have:=(ak8.mp e).1;simp at this;omega
   rw[ang]at e;cases e;exact⟨p,B,ba f⟩
 .show(O.bK++[p]).length=_
  rw[alb,alb,st.full];rfl
 .obtain⟨b,a,q,g,r⟩:=st.qS i y e
  exact⟨b,a,q,g.imp (λz=>⟨G (c_ z.1 z.2.1) z.1,by rw[pd (c_ z.1 z.2.1)];exact z.2.1,λm=>(al6.mp m).elim z.2.2 λw=>c_ z.1 z.2.1 (alB.mp w)⟩) id,r.imp f⟩
theorem ep.adopt{d:a5}{H₀:au}(g:ep d O H₀ H)(c:H₀ p=none)(same:∀b,b≠p->H' b=H b)(b4:TabsOk H->TabsOk H'):ep d (hu O p) H₀ H':=by
 have nb:∀{b:Addr},H₀ b≠none->b≠p:=λh=>by rintro rfl;exact h c
 exact⟨λb o e h n=>by rw[same b (nb (ib e))];exact g.cells b o e h n,λb a=>(pd (nb a)).trans (g.own b a),λb a=>by rw[same b (nb a)];exact g.has b a,
  λb ps e=>by rw[same b (nb (ib e))];exact g.cL b ps e,λt=>b4 (g.b4 t),g.bK.trans (anT _ _),λb m=>(al6.mp m).elim (g.new b) λz=>.inr (by rw[alB.mp z];exact c)⟩
end
section
variable{X:aQ}{e:Expr}{m:d3}
def ah8(he:eV X e m):eV X e (ie m):=⟨eb he.un λF H Q k=>by
 obtain⟨O,U,S,r,E,st,h,q⟩:=k;obtain⟨x,g,n,b⟩:=N.inv h;refine⟨O,U,S,x,g,st,n,λB v d u c s nn=>?_⟩;split at b
 .rename_i xs
  obtain⟨G,D,p,h⟩:=N.inv b;cases p;cases h;obtain⟨a,A,rfl,l,t,w⟩:=s;obtain⟨y,j⟩:=c.adopt (o:=.l xs) (c.s3.cm.rh.no t (by intro z;cases z)) (λi z=>by rw[t]at z;cases z) (λ_ _=>rfl) (ib l) (.inl rfl) (λz=>by rw[t]at z;rcases z with z|z<;>cases z) id λf=>⟨A,l,w.imp f⟩
  exact q _ _ d (u.adopt (nn a rfl) (λ_ _=>rfl) id) y ⟨a,rfl,j⟩ trivial
 .cases b⟩
end
structure Bq(K:aN)(x qual:Str)(st:Stmt)(f:Addr)(fd:ame):Prop where
 ex:∃(c1:Value)(di:Option Addr)(ro dy doc pm:Value)(an:Option Addr)(bP cz:Value)(f':Array (Option Value)),
  fd=amW x qual (iO st) (fO st) (dm st) ro dy doc pm an bP cz/\K.lookup f=some ⟨c1,di,.func fd,f'⟩/\aoz K bP qual=true
 kp:amX K (.ref f)=true
def Bq.ok{P:aly}{w:World}{K:aN}{mg:bp}{base:Heap}{x qual:Str}{st:Stmt}{f:Addr}{b:ame}{N ps:List Str}{k:Nat}{sp:en}(F:Bq K x qual st f b)(S:g8 N ps (dm st))(len:∀vs H Q E,sp vs H Q E->vs.length=ps.length)
  (l:∀(a:Value)(A:alI)(outer:List Env)(s:alc)(H:au)(vs:List V)(Q:cI)(E:gx),cB k (A.deeper (amc qual (dm st) s.heap.objs.size f a))->sp vs H Q E->
   ∃t,ip (ha eC P w K mg base N qual (dm st) f a A outer s H E).gI (fO st) t/\t { bA:=λ_ c=>Q .aH c,b9:=Q } (start N vs) H):e6 P w K mg base eC (k+1) f b ps sp:=by
 obtain⟨c1,n,u,dy,e,r,m,a,cz,p,rfl,j,g⟩:=F.ex;refine Di j g S len λA outer s H vs Q E d i=>?_
 obtain⟨t,h,q⟩:=l a A outer s H vs Q E d i;exact⟨t,h.gI,q⟩
structure Bo(K:aN)(mg:bp)(c m qual:Str)(st:Stmt)(ps:List Str):Prop where
 ex:∃C f fd,mg c=some (.ref C)/\i0 K C/\Meth K C m f/\Bq K m qual st f fd/\Binds K fd ps []/\Binds K fd ps [.none]
structure x6(P:aly)(w:World)(K:aN)(mg:bp)(base:Heap)(c m:Str)(ps:List Str)(k:Nat)(sp:en):Prop where
 all:kh P w K mg base c m ps k sp
 ex:∃C f fd,mg c=some (.ref C)/\i0 K C/\Meth K C m f/\e6 P w K mg base eC k f fd ps sp/\Binds K fd ps [.none]
def Wq{P:aly}{w:World}{K:aN}{mg:bp}{base:Heap}{c m qual:Str}{st:Stmt}{ps N:List Str}{k:Nat}{d:b0}{n nl:Nat}(g7:Bo K mg c m qual st ps)(i:g8 N ps (dm st))(j:ps.length=n)(hl:N.length=nl)
  (p:∀(f:Addr)(a:Value)(A:alI)(outer:List Env)(s:alc)(H:au)(E:gx),cB k (A.deeper (amc qual (dm st) s.heap.objs.size f a))->
   ir (ha eC P w K mg base N qual (dm st) f a A outer s H E).gI (fO st) d):x6 P w K mg base c m ps (k+1) (hx K mg (fnX n nl d)):=by
 obtain⟨C,f,g,e,cl,me,F,x,b⟩:=g7.ex;subst j hl;have ok:=F.ok (sp:=hx K mg (fnX ps.length N.length d)) i (λvs H Q E ⟨O,ds,r,S,z,B,dQ,y,t,h,q⟩=>t.r.len.trans (Df h)) λa A outer s H vs Q E l u=>⟨_,(p f a A outer s H E l).un,JA u⟩
 exact⟨⟨C,f,g,e,cl,me,ok,x⟩,⟨C,f,g,e,cl,me,ok,b⟩⟩
omit [aA.a0]in
theorem JR{K:aN}{h:Heap}{mg:bp}{c:Str}{C:Addr}{aX:List Str}(X:K.In h)(G:h.Ns alU mg)(a:an5 K alU c=some (some (.ref C)))
  (kH:aoY K C Str.empty=true) (hd:apl K C=true) (po:W.plainOver K C=true) (mC:am3 K (.ref C) "__setattr__"=some (some (.builtin "object.__setattr__"))) (mk:W.makesIn K C=true) (wk:amX K (.ref C)=true)
  (na:∀f∈aX,am3 K (.ref C) f=some none):mR K mg c aX:=⟨C,aoA X G a,⟨kH,hd,po,mC⟩,⟨mk,wk⟩,na⟩
omit [aA.a0]in
theorem LP{K:aN}{h:Heap}{mg:bp}{c m qual:Str}{C f:Addr}{aX ps:List Str}{st:Stmt}{t b:Option Addr}{bc:Array (Option Value)}{c1 dy u g cd cz:Value}(X:K.In h)(G:h.Ns alU mg)(T:mR K mg c aX)(a:an5 K alU c=some (some (.ref C)))
  (e:am3 K (.ref C) m=some (some (.ref f))) (i:W.isFn K (.ref f)=true) (l:K.lookup f=some ⟨c1,t,.func (amW m qual (iO st) (fO st) (dm st) .none dy u g b cd cz),bc⟩) (p:aoz K cd qual=true) (k:amX K (.ref f)=true)
  (q:∀(dy d g:Value)(b:Option Addr)(s cz:Value)(us:List Value),us.length=ps.length->anf (amW m qual (iO st) (fO st) (dm st) .none dy d g b s cz) ⟨us,[]⟩=pure (ps.zip us)):x4 K mg c m qual st ps:=by
 obtain⟨w,j,r,_⟩:=T.ex;have n:=aoA X G a;rw[j]at n;cases n;exact⟨_,f,_,j,r,⟨e,i,k⟩,yZ l p k,(yZ l p k).binds q⟩
omit [aA.a0]in
theorem LQ{K:aN}{h:Heap}{mg:bp}{c m qual:Str}{C f T:Addr}{aX ps:List Str}{st:Stmt}{B b u:Option Addr}{bc w:Array (Option Value)}{c1 dy p d cd cz r:Value}{j e5:Nat}(X:K.In h)(G:h.Ns alU mg)(D:mR K mg c aX)(a:an5 K alU c=some (some (.ref C)))
  (e:am3 K (.ref C) m=some (some (.ref f))) (i:W.isFn K (.ref f)=true) (l:K.lookup f=some ⟨c1,B,.func (amW m qual (iO st) (fO st) (dm st) (.ref T) dy p d b cd cz),bc⟩) (t:K.lookup T=some ⟨r,u,.seq #[.none] e5,w⟩) (J:aoz K cd qual=true) (k:amX K (.ref f)=true) (A:ps.length=j+1)
  (E:∀(dy g d:Value)(b:Option Addr)(x cz:Value)(us:List Value),us.length=j+1->∃n,anf (amW m qual (iO st) (fO st) (dm st) (.ref T) dy g d b x cz) ⟨us,[]⟩=seqItems? (.ref T) >>= n/\n (some #[.none])=pure (ps.zip us))
  (H:∀(dy g d:Value)(b:Option Addr)(x cz:Value)(us:List Value),us.length=j->∃n,anf (amW m qual (iO st) (fO st) (dm st) (.ref T) dy g d b x cz) ⟨us,[]⟩=seqItems? (.ref T) >>= n/\n (some #[.none])=pure (ps.zip (us++[.none]))):Bo K mg c m qual st ps:=by
 obtain⟨L,y,F,_⟩:=D.ex;have z:=aoA X G a;rw[y]at z;cases z;refine⟨_,f,_,y,F,⟨e,i,k⟩,⟨⟨c1,B,_,dy,p,d,b,cd,cz,bc,rfl,l,J⟩,k⟩,λs us q hl=>?_,λs us q hl=>?_⟩
 .rw[aml]at hl ⊢
  obtain⟨n,aq,aE⟩:=E dy p d b cd cz us (hl.trans A);exact apB rfl (q _ _ t) rfl aq aE
 .rw[alb,A]at hl
  obtain⟨n,aq,aE⟩:=H dy p d b cd cz us (by simpa using hl);exact apB rfl (q _ _ t) rfl aq aE
def ah6{X:aQ}{c m:Str}{ps:List Str}{k:Nat}{o:Expr}{d pos:Pos}{mf:dC}{mo:bt}{pl:Sem Bool}(h:x6 X.prog X.w X.K X.mg X.base c m ps k (hx X.K X.mg mf))(j:cB k X.A)(he:bb X o mo)
  (l:oi X pl o m d [] pos:=by rfl):eV X (.Call (.Attribute o m d) [] [] pos) (dF c m mf mo (dE (dj (a4 .aH) b'))):=by
 obtain⟨C,f,x,s,cl,me,F,b⟩:=h.ex;refine⟨eb (Pq (dvs:=[.aH]) (ds:=[.none]) he.un cl me F j b (.cons rfl .nil) qF l) λu H Q i=>qP _ _ _ _ (λv g z=>?_) (z2 _ _ _ i)⟩;obtain⟨a,y,n,aX,r,e,p,hl,O,U,S,rs,t,st,h,q⟩:=z;rw[s]at e;cases e;cases h;exact⟨a,n,aX,r,p,hl,q O [.aH] g (Go.refl _ _).dx st ⟨.aH,[],rfl,rfl,rfl⟩ ⟨trivial,trivial⟩⟩
end aC
namespace aC
open PySem PySem.Spec aA
def u6(c:aG->N Bool)(b:b0):Nat->b0
 |0=>λ_=>gG
 |n+1=>λU=>do
  let t <-c U
  if t=true then do
   let a <-b U
   match a with
   |.bA U'=>u6 c b n U'|.cz U'=>u6 c b n U'|.bk U'=>pure (.bA U')|.b9 r=>pure (.b9 r)
  else pure (.bA U)
def A8(c:aG->N Bool)(b:b0):b0:=u6 c b pM
def A6(mo mk:bt)(mv:d3):b0:=λU=>do
 let r <-mv U
 let d <-r.dat.up
 let x <-(mo U).up
 let k <-(mk U).up
 let o <-(hj x).up
 match o,k with
 |.l xs,.v (.int i)=>(if 0<=i/\i<xs.length then(do
  AA x (.l (xs.set i.toNat d))
  pure (.bA U))else gG)
 |_,_=>gG
def Ba(el:d3)(U:aG):List D->N (List D)
 |[]=>pure []|d::ds=>do
  let r <-el (U.set 0 (.v d))
  match r with
  |.v x=>do
   let xs <-Ba el U ds
   pure (x::xs)
  |_=>gG
def qV(n:Nat)(cap:List Nat)(it:fB)(el:d3):d3:=λU=>do
 let ds <-(it U).up
 if ds.length<ald then(do
  let xs <-Ba el (h2 n cap U) ds
  pure (.fr xs))else gG
variable[aA.a0]
section
variable{K:aN}{mg:bp}{O ai aF:a5}{H H' H1:au}{S ah:bG}{U:aG}{ak:St}{t:aG->N Bool}{b:b0}{l:Addr}{zs ws:List V}
theorem ahs:∀D ak H,n7 K mg (A8 t b) D ak H->Gz (G4 K mg t) (n7 K mg b) D ak H:=by
 rintro D ak H ⟨O,U,S,w,ah,st,h,q⟩;refine⟨λm p H'=>∃ai U' k,dA K mg ai U' k p H'/\gu O ai H H'/\(u6 t b m U').run k=.ok w ah,⟨pM,O,U,S,st,(ej.refl _ _).d_,h⟩,?_⟩;rintro m p H' ⟨ai,U',k,E,g',h⟩
 cases m with
 |zero=>cases h
 |succ n=>
  obtain⟨y,s,z,h⟩:=N.inv h;refine⟨ai,U',k,y,s,E,z,λaF H1 g u=>?_⟩;have g:=g'.trans g.d_
  cases y with
  |false=>
   rw[if_neg alg]at h;cases h;exact nA (q aF p H1 g u)
  |true=>
   rw[if_pos rfl]at h;obtain⟨x,f,A,h⟩:=N.inv h;refine nB ⟨λj d=>∃c e f,dA K mg c e f j d/\gu O c H d/\(u6 t b n e).run f=.ok w ah,?_,aF,U',s,x,f,u,A,?_⟩
   .rintro j d ⟨c,e,f,a⟩
    exact⟨n,aoc _,c,e,f,a⟩
   .cases x with
    |bA e=>exact λc j d i bM=>⟨c,e,f,bM,g.trans i,h⟩
    |cz e=>exact λc j d i bM=>⟨c,e,f,bM,g.trans i,h⟩
    |bk e=>cases h;exact λc j d i bM=>q c j d (g.trans i) bM
    |b9 r=>cases h;exact λc v d i F aE G B=>q c v d (g.trans i) F aE G B
def dA.u2(st:dA K mg O U S ak H)(c:O l=.dI)(hl:H l=some (.l zs)):dA K mg O U S ak (upd H l (.l ws)):=
 ⟨st.s3.u2 c hl,st.full,λi xs e=>by
  obtain⟨a,d,aq,w,r⟩:=st.qS i xs e;refine⟨a,d,aq,w.imp (λz=>⟨?_,z.2⟩) id,r.eF (by rw[c];intro z;cases z) hl⟩;have ne:a≠l:=by
   rintro rfl;rcases z.2.1 with f|f<;>rw[f]at c<;>cases c
  rcases z.1 with h|⟨o,h⟩
  .exact .inl (by rw[c3 ne];exact h)
  .exact .inr ⟨o,by rw[c3 ne];exact h⟩⟩
theorem dA.dK(st:dA K mg O U S ak H)(n:Nat)(cap:List Nat):dA K mg (dK O) (h2 n cap U) S (gj n cap ak) H:=⟨st.s3.dK n cap,st.full,λi xs e=>by
 unfold h2 at e;unfold gj
 by_cases hi:i<n
 .rw[alz (by simpa using hi),amA,if_pos hi]at e
  cases e
 .rw[alw (by simpa using hi),al8,alr]at e
  rw[alw (by simpa using hi),al8,alr]
  cases I:cap[i-n]? with
  |none=>rw[I]at e;cases e
  |some k=>
   rw[I]at e;have c:rn U[k]?=.b5 xs:=alE e;show ∃a f,(some (ak[k]?.join)).join=_/\_
   cases C:U[k]? with
   |none=>rw[C]at c;cases c
   |some g=>
    rw[C]at c
    cases g with
    |e=>cases c
    |v d=>cases c
    |b5 zs=>
     cases c;obtain⟨a,f,q,w,r⟩:=st.qS k _ C;exact⟨a,f,q,w.imp (λz=>⟨z.1,k6 O a,z.2.2⟩) id,r.dd (jO O)⟩
    |dO p zs=>
     cases c;obtain⟨a,f,q,o,l,r⟩:=st.s3.loc k _ C;exact⟨a,f,q,.inl ⟨.inl l,k6 O a,st.s3.cm.rh.no o (by intro z;cases z)⟩,r.dd (jO O)⟩⟩
def u0(H1:au)(aF ai:a5):a5:=⟨λb=>match H1 b with|none=>ai b|some _=>aF b,ai.bK⟩
omit [aA.a0]in
theorem GH{b:Addr}(a:H1 b≠none):u0 H1 aF ai b=aF b:=by
 show(match H1 b with|none=>ai b|some _=>aF b)=aF b
 cases e:H1 b with
 |none=>exact absurd e a|some _=>rfl
omit [aA.a0]in
theorem AW{b:Addr}(a:H1 b=none):u0 H1 aF ai b=ai b:=by
 show(match H1 b with|none=>ai b|some _=>aF b)=ai b;rw[a]
theorem AV(g:ep (dK aF) ai H1 H'):ep aF (u0 H1 aF ai) H1 H':=⟨λb o e h n=>g.cells b o e h n,λ_ a=>GH a,g.has,g.cL,g.b4,g.bK,g.new⟩
theorem QT(g:ep (dK aF) ai H1 H'):lK ai (u0 H1 aF ai):=⟨λb c=>by
 by_cases a:H1 b=none
 .rw[AW a];exact c
 .rw[GH a];exact oj.mp ((g.own b a).symm.trans c),rfl⟩
theorem agK(c:dA K mg aF U S ak H1)(g:ep (dK aF) ai H1 H')(d:df ai H')(dQ:fN K mg ai H' ah)(f:ai.bK.length=ah.length):dA K mg (u0 H1 aF ai) U ah ak H':=
 c.dx (AV g) ⟨λb e=>by
  by_cases a:H1 b=none
  .rw[AW a]at e;exact d.has b e
  .exact g.has b a,d.tabs,d.rh.1,λb m=>by
  by_cases a:H1 b=none
  .rw[AW a];exact d.rh.2 b m
  .rw[GH a]
   rcases g.new b m with z|z
   .exact c.s3.cm.rh.2 b z
   .exact absurd z a⟩ (dQ.all (λ_ _ z=>Rep.dd (QT g) z) rfl λ_ _ _ l _=>l) f
theorem ep.u2(g:ep aF ai H1 H')(c:H1 l=none)(hl:H' l=some (.l zs)):ep aF ai H1 (upd H' l (.l ws)):=by
 have ne:∀b,H1 b≠none->b≠l:=λb a z=>a (z▸c)
 refine⟨λb o e h n=>?_,g.own,λb a=>?_,λb ps e=>?_,λt=>(g.b4 t).put _ (λps z=>by rw[hl]at z;cases z) (λq z=>by rw[hl]at z;cases z),g.bK,g.new⟩
 .rw[c3 (ne b (ib e))];exact g.cells b o e h n
 .rw[c3 (ne b a)];exact g.has b a
 .rw[c3 (ne b (ib e))];exact g.cL b ps e
variable{n:Nat}{cap:List Nat}{it:fB}{el:d3}
inductive Rz(K:aN)(mg:bp)(n:Nat)(cap:List Nat)(el:d3)(aF:a5)(U:aG)(ah:bG)(ak:St)(H1:au)(A:Addr)(ds xs:List aC.D)(k:Nat)(zs:List V)(H':au):Prop
 |mk (ai:a5) (e9:bG) (acc pS:List aC.D) (b_:dA K mg ai (h2 n cap U) e9 (gj n cap ak) H') (g':ep (dK aF) ai H1 H') (pE:ai A=.dI) (dn:H' A=some (.l zs)) (hz:zs.length<=k)
   (j9:bh K mg ai H' acc zs) (h:(Ba el (h2 n cap U) (ds.drop k)).run e9=.ok pS ah) (ex:acc++pS=xs)
theorem Uz(aB:0<n):∀ak H Q,xT K mg (qV n cap it el) ak H Q->uW n cap (GG K mg it) (l0 0) Gy (xT K mg el) ak H Q:=by
 rintro ak H Q ⟨O,U,S,r,ah,st,h,q⟩;obtain⟨ds,B,ab,h⟩:=N.inv h
 by_cases c:ds.length<ald
 case neg=>rw[if_neg c]at h;cases h
 rw[if_pos c]at h;obtain⟨xs,hF,bI,h⟩:=N.inv h;cases h;refine⟨O,U,S,ds,B,st,ab,λaF H1 ct w Z i u V D g=>?_⟩;have aku:=V.len;have hk:dA K mg (gL (aC.dK aF) D .dI) (h2 n cap U) B (gj n cap ak) (upd H1 D (.l [])):=(i.dK n cap).go (Go.new g) ((i.s3.dK n cap).new g).cm;refine⟨λk m zs H'=>m=w.length-k/\k<=w.length/\Rz K mg n cap el aF U ah ak H1 D ds xs k zs H',
  ⟨_,rfl,alX _,_,B,[],xs,hk,(Go.new g).dx,lC,dZ,alf _,rfl,bI,rfl⟩,?_⟩
 rintro k m zs H' ⟨rfl,ar,ai,e9,G,pS,f,g',T,L,hz,C,h,ex⟩;have d_:=(AV g').d_
 cases e:ds.drop k with
 |nil=>
  have hl:w.length<=k:=by
   have:=congrArg amO e;rw[amb,amm]at this;omega
  rw[e]at h;cases h;rw[aml]at ex;subst ex;refine .inl ⟨(u _ H' d_ k).2 hl,?_⟩;refine q (u0 H1 aF ai) (.ref D) H' (Z.dx.trans (AV g')) (agK i g' f.s3.cm f.s3.gK f.full) ⟨D,zs,rfl,L,(AW g).trans T,C.dd (QT g')⟩ λa cu=>?_
  cases cu;exact Z.same.free g
 |cons d ks=>
  obtain⟨y,M,b3,bL⟩:=(V.dx (AV g') i.s3.cm.rh).get' e;have Y:k<w.length:=(ak8.mp M).1;obtain⟨go,mK⟩:=(u _ H' d_ k).1 Y;have J:Rep K mg ai H' d y:=(((V.dd (jO aF)).dx g' (i.s3.dK n cap).cm.rh).get' e).elim λahV z=>by
   obtain⟨o,eZ,_⟩:=z;rw[M]at o;cases o;exact eZ
  rw[e]at h;obtain⟨r,E,af,h⟩:=N.inv h;refine .inr ⟨go,λx aJ kS=>?_⟩;obtain⟨aE,X⟩:=mK x aJ kS;subst aE;rw[M]at X;cases X;refine⟨(mT.refl _).set (by cases n with|zero=>exact absurd aB (al5 _)|succ j=>rfl),?_⟩;dsimp only[Gy];rw[if_pos rfl];refine⟨ai,_,e9,r,E,f.set (s:=.v d) (λxs z=>by cases z) ⟨y,rfl,J⟩,af,λP v I p R br nn=>?_⟩
  cases r with
  |v x=>
   obtain⟨Bc,RQ,fZ,h⟩:=N.inv h;cases h;have F:D∉ai.bK:=f.s3.cm.rh.no T (by intro z;cases z);have A:I D=some (.l zs):=p.cells _ _ L (.inl F);have W:P D=.dI:=(p.own D (ib L)).trans T;have jV:=g'.trans p;have uS:dA K mg P (h2 n cap U) E (gj n cap ak) I:=f.dx p R.s3.cm R.s3.gK R.full;have rh:=f.s3.cm.rh;exact⟨A,by omega,w.length-(k+1),by omega,rfl,Y,P,E,G++[x],Bc,uS.u2 W A,jV.u2 g A,W,dZ,
    by rw[alb,amj];omega,((C.dx p rh).append (.one br)).eF (by rw[W];intro z;cases z) A,by rw[bL];exact fZ,by rw[am6];exact ex⟩
  |_=>cases h
end
section
variable{X:aQ}{o i value c:Expr}{body:List Stmt}{mo mk:bt}{mv:d3}{t:aG->N Bool}{b:b0}{pos pos' apos:Pos}
def ail(a:aoF (model X.prog X.w) X.A X.env X.dS)(e:jN X c t)(d:ir X body b):fW X (.While c body [] pos) (A8 t b):=⟨gZ (PG a e.un d.un) ahs⟩
theorem aif(L:bb X o mo)(W:bb X i mk)(Z:eV X value mv)(aw:aoL [.Subscript o i pos'] value pos.line X.env=pure false:=by rfl)(hw:aoM [.Subscript o i pos'] value X.env=pure none:=by rfl)
  (e:(al4 [.Subscript o i pos'] X.env).map (·.2)=[anm (.Subscript o i pos') X.env]:=by rfl)
  (a:∀v,anm (.Subscript o i pos') X.env v=(do
   let cp <-am1 [v] (eval o X.env)
   let f <-am1 [v,cp] (eval i X.env)
   aoh pos'
   am1 [v,cp,f] (setItem cp f v)
   release [v,cp,f] []):=by intro _;rfl):fW X (.Assign [.Subscript o i pos'] value pos) (A6 mo mk mv):=⟨gZ (FR Z.un (Py L.un W.un set_list a) aw hw e) λD V H R=>by
 obtain⟨O,U,S,aS,ah,st,h,q⟩:=R;obtain⟨r,K,e,a⟩:=N.inv h;clear h;obtain⟨d,aW,T,m⟩:=N.inv a;clear a;obtain⟨x,hF,p,E⟩:=N.inv m;clear m;obtain⟨y,sW,w,hd⟩:=N.inv E;clear E;obtain⟨ba,q9,s,h⟩:=N.inv hd;clear hd;refine⟨O,U,S,r,K,st,e,λQ v H1 g1 j C nn=>?_⟩;obtain⟨c_,rfl⟩:=rp (H₀:=H) C nn T;obtain rfl:=(mo U).e3 _ _ _ p;obtain rfl:=(mk U).e3 _ _ _ w;refine⟨cN H Q,U,_,x,_,(j.cN H).s3,p,λI fg aJ g2 bM M bA=>?_⟩;refine⟨I,U,_,y,_,bM,w,λfT qT da A B Y nS=>?_⟩;have g:=g2.trans A;have J:=(j.cN H).go g B.cm;obtain⟨n,b,rfl,rfl,P,sn,hv⟩:=uy B (M.go A) s;obtain rfl:=(hj (.v (.ref n))).e3 _ _ _ s;split at h
 .rename_i xs ea
  by_cases c:0<=ea/\ea<xs.length
  .rw[if_pos c]at h
   cases h;obtain⟨G,u,F⟩:=hv;cases(show qT=.int ea from Y);refine⟨b,G,ea,ea.toNat,rfl,rfl,u,?_,?_⟩
   .unfold nC
    rw[if_pos c.1,if_pos (by rw[F.len];exact c.2)]
   obtain⟨lD,mF⟩:=J.write (u':=.l (G.set ea.toNat v)) (o:=.l (xs.set ea.toNat d)) P u (by rintro(⟨_,z⟩|⟨_,_,z⟩)<;>cases z) (by intro _ z;cases z) (by intro _ z;cases z) λk=>
    ⟨_,dZ,bh.set (k _ _ (Rep.go g c_)) ea.toNat (F.imp k)⟩
   exact q fT V _ ((g1.cN.trans g.dx).trans lD).d_ mF
  .rw[if_neg c]at h;cases h
 .cases h⟩
theorem ah7{c m:Str}{ps:List Str}{k:Nat}{e:Expr}{mf:dC}{me:bt}{pl:Sem Bool}(h:x6 X.prog X.w X.K X.mg X.base c m ps k (hx X.K X.mg mf))(s:cB k X.A)(he:bb X o mo)(u:bb X e me)
  (l:e_ X e []:=by rfl) (L:(amY pos (alJ [] X.env)).any (·.1)=false:=by rfl)
  (B:eval (.Call (.Attribute o m apos) [e] [] pos) X.env=(do
   let cp <-eval o X.env
   aoh apos.atName
   let(f,first) <-am1 [cp] (apg cp m pl)
   callWith pos f first (amY pos (alJ [e] X.env)) (anP pos (am9 [] X.env))):=by rfl):eV X (.Call (.Attribute o m apos) [e] [] pos) (dF c m mf mo (dE (dj me (dj (a4 .aH) b')))):=by
 obtain⟨C,f,Y,P,cl,o',F,b⟩:=h.ex;refine⟨eb (Pp (dvs:=[.aH]) (ds:=[.none]) he.un cl o' F s b (.cons rfl .nil) qF (uE u.un xg l) l L B) λW H Q r=>qP _ _ _ _ (λv R z=>?_) (z2 _ _ _ r)⟩;obtain⟨a,Z,G,aX,N,n,J,hl,O,U,S,rs,V,st,h,q⟩:=z;rw[P]at n;cases n;obtain⟨x,T,d,h⟩:=M.inv h;cases h;refine⟨a,G,aX,N,J,hl,O,U,S,x,_,st.s3,d,λy j p g D E nn=>?_⟩;obtain rfl:=(me U).e3 _ _ _ d;exact q y [j,.aH] p g.dx (st.go g D.cm) ⟨j,_,rfl,E,.aH,[],rfl,rfl,rfl⟩ ⟨nn,trivial,trivial⟩
end
section
variable{X:aQ}{scope esc:Scope}{EN N:List Str}{n:Nat}{cap:List Nat}{elt iter:Expr}{pos d9:Pos}{x:Str}{it:fB}{el:d3}
def ah3(S:kV esc scope EN N n cap)(c:0<n)(hi:BM X (.Name x d9) iter it)(d:N[0]? = some x)(b:oh X scope N x)
  (e:∀C a s H,eV (d6 X scope N C a s H) elt el)
  (he:X.env.scope=esc:=by rfl) (hN:X.N=EN:=by rfl) (f:X.calm=true:=by rfl) (aw:k4 X iter:=by intro _;rfl):eV X (.ListComp elt [⟨.Name x d9,iter,[],0⟩] scope pos) (qV n cap it el):=
 ⟨eb (FI S hi.un (λC a s H=>sh S.fI d (b C a s H).1 (.inr (b C a s H).2)) (λ_ _ _ _=>Px) (λC a s H=>(e C a s H).un) he hN f aw) (Uz c)⟩
end
end aC
namespace aC
open PySem PySem.Spec aA PyProof.Rows
variable[aA.a0]
def qI(a:Int)(n:Nat):List V:=(alD n).map λ(i:Nat)=>V.int (a+(i:Int))
def Au(a:Int)(n:Nat):List D:=(alD n).map λ(i:Nat)=>D.int (a+(i:Int))
omit [aA.a0]in
theorem agP{xs:List V}{us:List Value}(hl:xs.length=us.length)(h:∀(i:Nat)(x:V)(u:Value),xs[i]? = some x->us[i]? = some u->RelV x u):Vals xs us:=by
 induction xs generalizing us with
 |nil=>
  cases us with
  |nil=>exact .nil|cons u us=>cases hl
 |cons x xs a=>
  cases us with
  |nil=>cases hl
  |cons u us=>exact .cons (h 0 x u rfl rfl) (a (Nat.succ.inj hl) λi y w b c=>h (i+1) y w (by simpa using b) (by simpa using c))
omit [aA.a0]in
theorem ae3{a:Int}:∀{n:Nat}{vs:List Value},vs.length=n->(∀(j:Nat)(v:Value),vs[j]? = some v->∃t,v=.int (a+j*1) t)->Vals (qI a n) vs:=by
 intro n vs hl h;refine agP (by unfold qI;rw[ala,amt,hl]) λi x u aq aE=>?_
 unfold qI at aq;rw[alr]at aq;have hi:i<n:=by rw[<-hl];exact(ak8.mp aE).1
 rw[amv hi]at aq;cases aq;obtain⟨t,rfl⟩:=h i u aE;exact⟨t,by rw[Int.mul_one]⟩
omit [aA.a0]in
theorem ae2{K:aN}{mg:bp}{O:a5}{H:au}{a:Int}(n:Nat):bh K mg O H (Au a n) (qI a n):=by
 unfold Au qI
 induction(alD n)with
 |nil=>rfl|cons i r b=>exact⟨_,_,rfl,rfl,b⟩
section
variable{X:aQ}{a b:Expr}{p gJ pos pos':Pos}
omit [aA.a0]in
theorem ad7{y:fV}(R:X.calm=true)(F:ee X "list")(hm:X.mg "list"=none)(D:ee X "range")(V:X.mg "range"=none)(G:g9 X [a,b] y)
  (aw:alJ [a,b] X.env=[(false,eval a X.env),(false,eval b X.env)]:=by rfl) (z:alJ [b] X.env=[(false,eval b X.env)]:=by rfl)
  (B:alJ [.Call (.Name "range" gJ) [a,b] [] pos'] X.env=(false,eval (.Call (.Name "range" gJ) [a,b] [] pos') X.env)::alJ [] X.env:=by rfl) :
  b6 X (.Call (.Name "list" p) [.Call (.Name "range" gJ) [a,b] [] pos'] [] pos) (λU H Q=>y U H λvs d=>∃i j:Int,vs=[.int i,.int j]/\(-(2 ^ 62)<=i/\i<2 ^ 62/\-(2 ^ 62)<=j/\j<2 ^ 62)/\(j-i).toNat<=2 ^ 24/\(j-i).toNat<=ald/\∀l,d l=none->Q (.ref l) (upd d l (.l (qI i (j-i).toNat)))):=by
 intro x s U H Q I h;refine amo (nK I F hm Cu ?_ (by decide) (by decide));refine amn ?_ B rfl;rw[B];show wpAny _ _ (spliced ((false,eval (.Call (.Name "range" gJ) [a,b] [] pos') X.env)::amY pos (alJ [] X.env))) _ _ s;refine aoG (Call_ (nK I D V boot_range (amn (bZ (G pos' x s U H _ I h) λus f ⟨vs,d,N,L,bB⟩=>?_) (by rw[aw,z]) (by rw[z];rfl))));obtain⟨i,j,e,⟨bB,bY,O,S⟩,E,T,q⟩:=bB;subst e
 cases L with
 |cons r m=>
  cases m with
  |cons K m=>
   cases m;obtain⟨t,rfl⟩:=r;obtain⟨t',rfl⟩:=K;refine call_range_2 ?_;refine aoU ?_;have u:Inv X x U d { f with heap:=f.heap.push { cls:=.type "range",data:=.fields #[.int i t,.int j t',.int 1 f.toks] },toks:=f.toks+1 }:=N.kept λb o e=>ak9 _ e
   refine PySem.call_list_range (n:=(j-i).toNat) (u.ok.hd R) (IsRange.new ..) (small_one bB bY O S) (by rw[rangeSize_one];split<;>omega) E λh' tk g c J P A=>?_
   refine⟨.ref _,_,u.laid (t':=tk) J (alf _) (show iI X.prog X.w _ h' _ (.l (qI i (j-i).toNat))from⟨by unfold qI;rw[ala,amt];exact T,g.toList,c,ae3 (by rw[al0];exact A.1) (λk v M=>A.2 k v (by rw[<-M,aok])),?_⟩),rfl,q _ (u.cf.fresh (alf _))⟩;rw[aoq];exact P
end
def tV:List R->M R
 |[.v (.int i),.v (.int j)]=>if(-(2 ^ 62)<=i/\i<2 ^ 62/\-(2 ^ 62)<=j/\j<2 ^ 62)/\(j-i).toNat<=2 ^ 24/\(j-i).toNat<=ald then pure (.fr (Au i (j-i).toNat))else bad|_=>bad
@[simp] def vx(ms:cP)(U:aG):M R:=do
 let rs <-ms U
 tV rs
section
variable{X:aQ}{a b:Expr}{p gJ pos pos':Pos}{ms:cP}
def ag8(z:X.calm=true)(k:ee X "list")(hm:X.mg "list"=none)(f:ee X "range")(E:X.mg "range"=none)(t:gw X [a,b] ms)
  (aw:alJ [a,b] X.env=[(false,eval a X.env),(false,eval b X.env)]:=by rfl) (y:alJ [b] X.env=[(false,eval b X.env)]:=by rfl)
  (A:alJ [.Call (.Name "range" gJ) [a,b] [] pos'] X.env=(false,eval (.Call (.Name "range" gJ) [a,b] [] pos') X.env)::alJ [] X.env:=by rfl) :
  bb X (.Call (.Name "list" p) [.Call (.Name "range" gJ) [a,b] [] pos'] [] pos) (vx ms):=
 ⟨eb (ad7 z k hm f E t.un aw y A) λK H Q n=>by
  obtain⟨O,U,S,r,J,st,h,q⟩:=n;obtain⟨rs,G,s,d⟩:=M.inv h;clear h;unfold tV at d;split at d
  .rename_i i j
   by_cases c:(-(2 ^ 62)<=i/\i<2 ^ 62/\-(2 ^ 62)<=j/\j<2 ^ 62)/\(j-i).toNat<=2 ^ 24/\(j-i).toNat<=ald
   .rw[if_pos c]at d
    cases d;refine⟨O,U,S,_,_,st,s,λg vs F e m w nn=>?_⟩;obtain⟨B,L,rfl,aq,D,u,rfl,aE,cX⟩:=w;cases(show u=[]from cX);cases(show B=.int i from aq);cases(show D=.int j from aE);refine⟨i,j,rfl,c.1,c.2.1,c.2.2,λl hl=>q (gL g l .dI) _ _ (e.trans (Go.new hl)) (m.new hl) ⟨l,_,rfl,dZ,lC,ae2 _⟩ λb x=>?_⟩;cases x;exact e.same.free hl
   .rw[if_neg c]at d;cases d
  .cases d⟩
end
omit [aA.a0]in
@[simp] theorem L0{i j:Int}:tV [.v (.int i),.v (.int j)]=if(-(2 ^ 62)<=i/\i<2 ^ 62/\-(2 ^ 62)<=j/\j<2 ^ 62)/\(j-i).toNat<=2 ^ 24/\(j-i).toNat<=ald then pure (.fr (Au i (j-i).toNat))else bad:=rfl
end aC
namespace aC
open PySem PySem.Spec aA PyProof.Rows
def Vc{l b:Addr}{xs a:Array Value}{n m:Nat}{bc:Array (Option Value)}(u:¬(!xs.isEmpty&&amR (xs.size+a.size))=true)(f:xs.size<=ald)(i:xs.size+a.size<=ald+1) :
  Meets (Builtin.«list.extend» ⟨[.ref l,.ref b],[]⟩) λ_ R s=>s.heap.get? l=some ⟨.type "list",none,.seq xs n,#[]⟩/\s.heap.get? b=some ⟨.type "list",none,.seq a m,bc⟩/\
   R (.ok (.ret .none)) { s with heap:=s.heap.update l (alL λx=>x++a),toks:=s.toks }:=
 .of_wp λprog w A R s h=>by
  obtain⟨j,g,d,tk,os⟩:=s;obtain⟨hl,e,h⟩:=h;have k:=AutoSeq1.idx_int;have p:=ao8;have t:=AutoSeq1.sub_list_list;have q:=AutoSeq1.sub_tuple_list;have r:=AutoSeq1.sub_list_tuple;have c:(xs++a).size<=ald+1:=by rw[Array.size_append];exact i
  wp_walk using(aor hl rfl (hz:=f) (_hz':=c)),apa hl,apa e
  exact⟨_,rfl,h⟩
def PZ(K:aN):V->List V->au->cI->Prop:=λx vs H Q=>∃l b xs a,x=.ref l/\vs=[.ref b]/\H l=some (.l xs)/\dw K H b a/\xs.length+a.length<=ald/\Q .aH (upd H l (.l (xs++a)))
def aba:vg X "list.extend" (PZ X.K):=by
 intro w s U H x vs v us Q I g j h;obtain⟨l,b,xs,E,rfl,rfl,f,p,hz,q⟩:=h;cases g;obtain⟨u,rfl,k⟩:=j.one;cases k;obtain⟨z,a,n,r,hl,e⟩:=I.rX f;obtain⟨c,d,⟨⟨c1,A,i,D⟩,B,aE,bg,aj,e'⟩,_⟩:=I.list p;cases bg;cases aj;cases e';have y:=d.length;have m:a.toArray.size+c.toArray.size<=ald:=by rw[ali,ali];omega
 have t:¬(!a.toArray.isEmpty&&amR (a.toArray.size+c.toArray.size))=true:=by
  rw[Fg m,Bool.and_false];exact alg
 refine aoZ F.slot_list_extend ⟨_,e,rfl⟩ F.entry_list_extend (F.args_list_extend_2 _ _) (Vc t (by rw[ali];omega) (by omega)) ⟨e,aE,?_⟩;refine⟨.aH,_,I.EK (its':=a++c) f e (by simp) (r.append d) ?_,rfl,q⟩;rw[alb];omega
variable[aA.a0]
def uZ(xs:List D):List R->M (R×List D)
 |[r]=>match r.fz with
  |some a=>do
   hL (xs.length+a.length<=ald)
   pure (.v .aH,xs++a)
  |none=>bad
 |_=>bad
def aaT{K:aN}{mg:bp}:sL K mg (PZ K) uZ:=λO H H₀ l xs m rs vs S s t u Q hl a f n h q=>by
 unfold uZ at h;split at h
 .rename_i r
  obtain⟨v,rfl,i⟩:=kI f;split at h
  .rename_i us e
   obtain⟨_,p,g,h⟩:=M.inv h;obtain⟨c,rfl⟩:=rk g;cases h;obtain⟨b,k,rfl,j,d⟩:=R.oV i e;exact⟨l,b,m,k,rfl,rfl,hl,j,by rw[a.len,d.len];exact c,q .aH _ rfl ((a.append d).dd (i7 _ _)) ⟨.aH,rfl,rfl⟩⟩
  .cases h
 .cases h
end aC
namespace aC
open PySem PySem.Spec aA PyProof.Rows
section
variable{X:aQ}
def ch(c:Nat):Str:=⟨#[c]⟩
def sO(z:Str):il:=⟨λi _=>i<z.cps.size,λi H x a=>a=H/\∃c,z.cps[i]? = some c/\x=.str (ch c),λi _=>z.cps.size<=i⟩
theorem QO{P:aly}{w:World}{K:aN}{cg:Expr}(z:Str)(t:Tok)(it:Addr):Turn P w K cg (sO z) [it] it (λi h=>(h.IsStrIter it "str_ascii_iterator" z t i)\/h.IsStrIter it "str_iterator" z t i) where
 mem:=by simp
 obj:=λi h st b a=>by
  have e:b=it:=by simpa using a
  subst e;rcases st with⟨o,e,c,d⟩|⟨o,e,c,d⟩<;>exact⟨o,e,λv z=>by rw[d]at z;cases z⟩
 keep:=λi h h' st k=>by
  rcases st with⟨o,e,c,d⟩|⟨o,e,c,d⟩
  .exact .inl ⟨o,k it (by simp) o e,c,d⟩
  .exact .inr ⟨o,k it (by simp) o e,c,d⟩
 item:=by
  intro X D hw G x i A s U H E I r st g;have g:i<z.cps.size:=g;obtain⟨l,m,F,q,n,p⟩:=r it (by simp);have f:z.cps[i]? = some z.cps[i]:=by simp
  rcases st with st|st
  .refine wpAny_pyNext_ascii_item st f λh' j y=>?_
   have B:=I.turned (t':=s.toks+1) (λb o a e=>(y.2 b a).trans e) l m q n p;obtain⟨o,e,c,d⟩:=id j;exact⟨_,rfl,vS e c d (by decide) ⟨.str (ch z.cps[i]),H,B,⟨_,rfl⟩,⟨rfl,_,f,rfl⟩,.inl j,λb a=>(r b a).1⟩⟩
  .refine wpAny_pyNext_wide_item st f λh' j y=>?_
   obtain⟨o,e,c,d⟩:=id j;exact⟨_,rfl,vS e c d (by decide) ⟨.str (ch z.cps[i]),H,(I.turned (t':=s.toks+1) (λb o a e=>(y.2 b a).trans e) l m q n p),⟨_,rfl⟩,⟨rfl,_,f,rfl⟩,.inr j,λb a=>(r b a).1⟩⟩
 done:=by
  intro X D hw G x i A s U H E I r st g;have g:z.cps.size<=i:=g;obtain⟨l,m,F,q,n,p⟩:=r it (by simp);have f:z.cps[i]? = none:=by simp[g]
  rcases st with st|st
  .exact wpAny_pyNext_ascii_end (I.ok.hd x) st f λh' u=>⟨rfl,I.turned (λb o a e=>u b o a e) l m q n p⟩
  .exact wpAny_pyNext_wide_end (I.ok.hd x) st f λh' u=>⟨rfl,I.turned (λb o a e=>u b o a e) l m q n p⟩
 self:=λ_ _ _ _ _ st h=>by
  rcases st with st|st
  .exact wpAny_pyIter_striter_ascii st h
  .exact wpAny_pyIter_striter_wide st h
def aek{cg l:Expr}(hl:b6 X l jh):jK X cg l (λU H R=>jh U H λx c=>∃z,x=.str z/\R (sO z) c):=by
 intro f s U H R I h;refine bZ (hl f s U H _ I h) λv a g=>?_
 obtain⟨x,c,d,j,bB⟩:=g;obtain⟨z,e,q⟩:=bB;subst e;obtain⟨t,rfl⟩:=j;have fin:∀b∈[a.heap.objs.size],hn X f c b:=λb i=>by
  have e:b=a.heap.objs.size:=by simpa using i
  subst e;exact d.rC (alf _) (d.cf.fresh (alf _))
 cases C:z.cps.all (· < 128)with
 |true=>
  exact wpAny_pyIter_ascii C<|⟨a.heap.objs.size,[a.heap.objs.size],_,_,c,rfl,d.kept λb o e=>ak9 _ e,QO z t _,.inl ⟨_,alk _ rfl,rfl,rfl⟩,fin,q⟩
 |false=>
  exact wpAny_pyIter_wide C<|⟨a.heap.objs.size,[a.heap.objs.size],_,_,c,rfl,d.kept λb o e=>ak9 _ e,QO z t _,.inr ⟨_,alk _ rfl,rfl,rfl⟩,fin,q⟩
end
def yG(z:Str):List D:=z.cps.toList.map λc=>D.str (ch c)
def ot(z:Str):List V:=z.cps.toList.map λc=>V.str (ch c)
def ZJ(z:Str)(H:au)(i:Nat):(i<(ot z).length->(sO z).go i H/\∀x a,(sO z).pT i H x a->a=H/\(ot z)[i]? = some x)/\((ot z).length<=i->(sO z).stop i H):=by
 have hl:(ot z).length=z.cps.size:=by unfold ot;rw[ala,al0]
 rw[hl];refine⟨λhi=>⟨hi,λx a ⟨e,c,b,d⟩=>⟨e,?_⟩⟩,λhi=>hi⟩;subst d;unfold ot;rw[alr,aok,b];rfl
variable[aA.a0]
def Uu{K:aN}{mg:bp}{O:a5}{H:au}(z:Str):bh K mg O H (yG z) (ot z):=by
 unfold yG ot
 induction z.cps.toList with
 |nil=>rfl|cons c r a=>exact⟨_,_,rfl,rfl,a⟩
@[simp] def Nv(m:bt)(U:aG):M (List D):=do
 let r <-m U
 match r with
 |.v (.str z)=>pure (yG z)|_=>bad
section
variable{X:aQ}{cg l:Expr}{m:bt}
def agW(hl:bb X l m):rd X cg l (Nv m):=⟨pk (aek hl.un) λp H R e=>by
 obtain⟨O,U,S,xs,n,st,h,q⟩:=e;obtain⟨r,k,f,h⟩:=M.inv h;split at h
 .rename_i z
  cases h;refine⟨O,U,S,_,_,st,f,λb v a j d g nn=>⟨z,g,?_⟩⟩;exact q b a (sO z) (ot z) j d (λc _ i=>ZJ z c i) (Uu z)
 .cases h⟩
end
section
variable{K:aN}{mg:bp}
def uY(i j:Str):Bool:=!(anj j i 0 j.length 1).isEmpty
def sb(neg:Bool):R->R->M R
 |.v (.str i),.v (.str j)=>pure (.v (.av (neg ^^ uY i j)))|_,_=>bad
def HM:ei K mg (λx y H Q=>∃i j,x=.str i/\y=.str j/\Q (.av (!(anj j i 0 j.length 1).isEmpty)) H) (sb false):=λO U S e H x y c f g d Q st b a h q=>by
 unfold sb at h;split at h
 .rename_i i j
  cases h;refine⟨i,j,b,a,?_⟩;have:(!(anj j i 0 j.length 1).isEmpty)=(false ^^ uY i j):=by unfold uY;simp
  rw[this];exact q O _ H (Go.refl _ _) st rfl trivial
 .cases h
end
end aC
namespace aC
open PySem PySem.Spec aA PyProof.Rows
def x_(K:aN)(mg:bp)[aA.a0](d:D)(u:Value):Prop:=∃v,RelV v u/\∀O H,Rep K mg O H d v
structure KTab(P:aly)(w:World)(K:aN)(mg:bp)[aA.a0](x:Str)(ps:List (Str×D)):Prop where
 ex:∃(a:Addr)(az:Array aol)(n:Nat),(mg x=some (.ref a)/\(a==sysModules)=false)/\amE a K=some { cls:=.type "dict",data:=.dict az n }/\KeysOf (aob P w) az/\
  ∀k,match ps.lookup k with
   |some d=>∃u,findBy amf az k=some u/\x_ K mg d u|none=>findBy amf az k=none
variable[aA.a0]
def Bu(K:aN)(mg:bp):List (Str×D)->List aol->Prop
 |[],o=>o=[]|p::ps,o=>∃e r,o=e::r/\(∃t,e.key=.str p.1 t)/\x_ K mg p.2 e.val/\Bu K mg ps r
theorem NV{K:aN}{mg:bp}{k:Str}:∀{ps:List (Str×D)}{o:List aol},Bu K mg ps o->match ps.lookup k with
   |some d=>∃u,(o.find? λe=>amf k e.key).map (·.val)=some u/\x_ K mg d u|none=>(o.find? λe=>amf k e.key).map (·.val)=none
 |[],o,h=>by cases h;rfl
 |p::ps,o,h=>by
  obtain⟨e,r,rfl,⟨t,g⟩,b,f⟩:=h;obtain⟨a,i⟩:=p;rw[als,List.find?_cons,g]
  by_cases c:k=a
  .subst c
   have aq:(k==k)=true:=by simp
   have aE:amf k (.str k t)=true:=by show(k==k)=true;simp
   rw[aq,aE];exact⟨_,rfl,b⟩
  .have aq:(k==a)=false:=by simpa using c
   have aE:amf k (.str a t)=false:=by
    show(a==k)=false;simp only[beq_eq_false_iff_ne];exact λz=>c z.symm
   rw[aq,aE];exact(NV f)
def aaj{P:aly}{w:World}{K:aN}{h:Heap}{mg:bp}{x:Str}{d:Addr}{b:Array aol}{n:Nat}{ps:List (Str×D)}(X:K.In h)(G:h.Ns alU mg)
  (a:an5 K alU x=some (some (.ref d))) (aw:(d==sysModules)=false) (l:amE d K=some { cls:=.type "dict",data:=.dict b n }) (k:∀e∈b.toList,∃s,amf s e.key=true/\e.hash=hashStr w s)
  (f:Bu K mg ps b.toList):KTab P w K mg x ps:=by
 refine⟨d,b,n,⟨aoA X G a,aw⟩,l,λe he=>?_,λk=>?_⟩
 .obtain⟨s,c,g⟩:=k e (by simpa using he)
  exact⟨s,c,g⟩
 .have z:=NV (k:=k) f
  have:∀k:Str,findBy amf b k=(b.toList.find? λe=>amf k e.key).map (·.val):=λk=>by
   unfold findBy;rw[List.find?_toArray]
  rw[this];exact z
def Bw:List Str->List Value->Prop
 |[],us=>us=[]|x::xs,us=>∃t r,us=.str x t::r/\Bw xs r
theorem N6:∀{xs:List Str}{us:List Value},Bw xs us->Vals (xs.map V.str) us
 |[],us,h=>by cases h;exact .nil
 |x::xs,us,h=>by obtain⟨t,r,rfl,q⟩:=h;exact .cons ⟨t,rfl⟩ (N6 q)
def oT{K:aN}{mg:bp}{xs:List Str}{a:Addr}{b:Array Value}{n:Nat}{d:Option Addr}{e:Array (Option Value)}(l:amE a K=some ⟨.type "tuple",d,.seq b n,e⟩)(hz:b.size<=ald)(h:Bw xs b.toList) :
  x_ K mg (.t (xs.map D.str)) (.ref a):=by
 refine⟨.ref a,rfl,λO H=>⟨a,xs.map V.str,rfl,.inr ⟨_,b,n,l,rfl,rfl,hz,N6 h⟩,?_⟩⟩
 induction xs with
 |nil=>rfl| cons x r c=>exact⟨_,_,rfl,rfl,by
   clear c h
   induction r with
   |nil=>rfl| cons y q c=>exact⟨_,_,rfl,rfl,c⟩⟩
@[simp] def aiD(neg:Bool)(ps:List (Str×D))(mk:bt)(U:aG):M R:=do
 let k <-mk U
 match k with
 |.v (.str z)=>pure (.v (.av (neg ^^ (ps.lookup z).isSome)))|_=>bad
section
omit [aA.a0]
@[simp] theorem ajQ:sb b (.v (.str i)) (.v (.str j))=pure (.v (.av (b ^^ uY i j))):=rfl
end
end aC
namespace aC
open PySem PySem.Spec aA PyProof.Rows
section
variable{X:aQ}
def abc:vh X "str.find" (λx xs H Q=>∃y z,x=.str y/\xs=[.str z]/\Q (.int (apb y z)) H):=by
 rintro c s U H x xs v us Q I a rs ⟨y,z,ex,b,q⟩;subst ex b;obtain⟨t,rfl⟩:=a;obtain⟨u,rfl,t',rfl⟩:=vals1 rs;exact SC.find ⟨.int _,H,I.tok _,⟨_,rfl⟩,q⟩
end
variable[aA.a0]
@[simp] def Cx(f:R->List R->M R)(a:bt)(ms:cP)(U:aG):M R:=do
 let x <-a U
 let rs <-ms U
 f x rs
def G8(K:aN)(mg:bp)(r:V->List V->au->cI->Prop)(f:R->List R->M R):Prop:=
 ∀O U S I H x xs o rs bC C (Q:cI),cC K mg O U S I H->ek K mg O H o x->i3 K mg O H rs xs->(f o rs).run S=.ok bC C->vj K mg O U C I H bC Q->r x xs H Q
def Hp(f:R->List R->M R):Prop:=∀a rs S c b,(f a rs).run S=.ok c b->∃z,a=.v (.str z)
section
variable{X:aQ}{o e:Expr}{az:List Expr}{a:bt}{ms:cP}{name:Str}{apos dM:Pos}{id:String}{r:V->List V->au->cI->Prop}{f:R->List R->M R}
def ahl(slot:PySem.Slot "str" name id)(Y:typeOf (.builtin id)=pure (.type "method_descriptor"))(hm:vh X id r)(T:G8 X.K X.mg r f)(os:Hp f)(p:bb X o a)(G:gw X (e::az) ms)
  (V:amG o name X.env (eval o X.env)=eval o X.env:=by rfl)
  (Z:((amY dM (alJ (e::az) X.env)).all (λx=>!x.1)&&(anP dM (am9 [] X.env)).all (λx=>x.1.isSome)
&&decide ((e::az).length+([]:List anW).length+(if([]:List anW).isEmpty then 0 else 1)<30))=true:=by rfl)
  (W:(apos.endLine==dM.line)=true:=by rfl) (aw:e_ X e az:=by rfl) (R:f5 X dM az:=by rfl) :
  bb X (.Call (.Attribute o name apos) (e::az) [] dM) (Cx f a ms):=⟨eb (FH PySem.F.plainAttrs_str slot Y hm p.un G.un V Z W aw R) λE H Q w=>by
 obtain⟨O,U,S,J,B,st,h,q⟩:=w;obtain⟨x,b,y,h⟩:=M.inv h;obtain⟨rs,d,A,h⟩:=M.inv h;refine⟨O,U,S,x,b,st,y,λt P C j u s bA=>?_⟩;obtain⟨z,rfl⟩:=os _ _ _ _ _ h;cases(show P=.str z from s);refine⟨rfl,t,U,b,rs,d,u,A,λi vs c k bM N nn=>?_⟩;exact T i U d E c _ vs _ rs J B Q bM (show ek X.K X.mg i c (.v (.str z)) (.str z)from rfl) N h λD v n g L m l=>q D v n ((j.trans k).trans g) L m (l.back (j.trans k).same)⟩
end
def rB(x:R)(rs:List R):M R:=match x,rs with
 |.v (.str y),[.v (.str z)]=>pure (.v (.int (apb y z)))|_,_=>bad
def adn:Hp rB:=λa rs S c b h=>by
 unfold rB at h;split at h
 .exact⟨_,rfl⟩
 .cases h
section
variable{K:aN}{mg:bp}
def TL:G8 K mg (λx xs H Q=>∃y z,x=.str y/\xs=[.str z]/\Q (.int (apb y z)) H) rB:=λO U S f H x xs d rs g e Q st b a h q=>by
 unfold rB at h;split at h
 .rename_i y z
  cases h;obtain⟨v,rfl,c⟩:=kI a;exact⟨y,z,b,by rw[show v=V.str z from c],q O _ H (Go.refl _ _) st rfl trivial⟩
 .cases h
end
omit [aA.a0]in
@[simp] theorem aje{y z:Str}:rB (.v (.str y)) [.v (.str z)]=pure (.v (.int (apb y z))):=rfl
end aC
namespace aC
open PySem PySem.Spec aA PyProof.Rows
variable[aA.a0]
@[simp] def CA(ps:List (Str×D))(mk:bt)(U:aG):M R:=do
 let k <-mk U
 match k with
 |.v (.str z)=>pure (.v ((ps.lookup z).getD .aH))|_=>bad
section
variable{X:aQ}{x:Str}{ps:List (Str×D)}{e:Expr}{p apos dM:Pos}{mk:bt}
def ahm(T:KTab X.prog X.w X.K X.mg x ps)(G:ee X x)(he:bb X e mk)(m:gh X (.Name x p) "get" apos e dM:=by exact⟨rfl,rfl,rfl,rfl⟩)(Y:fX x:=by decide) :
  bb X (.Call (.Attribute (.Name x p) "get" apos) [e] [] dM) (CA ps mk):=⟨by
 rintro L s U H Q I ⟨O,U',S,r,N,st,h,q⟩;obtain⟨y,C,J,h⟩:=M.inv h;split at h
 .rename_i z
  cases h;obtain⟨a,D,n,⟨hm,E⟩,hl,P,o⟩:=T.ex;refine wpAny_Call_method m.base m.Vg m.line PySem.F.plainAttrs_dict apr PySem.F.type_dict_get (tT I G hm ?_ Y);have i:=I.f7 a _ hl;refine⟨⟨_,i,rfl⟩,λb e=>by cases e;exact⟨_,i,rfl⟩,?_⟩;rw[m.trees];refine an3 rfl (Calls.evalArgs_plain (aoG (bZ (he.un L s U H (λv l=>v=.str z/\∃c,Go O c H l/\cC X.K X.mg c U' N U l) I ⟨O,U',S,_,_,st,J,λc v l j g W nn=>⟨W,c,j,g⟩⟩) λgW s2 ⟨y,f,B,R,Z,c,j,g⟩=>aoU ?_)));subst Z;obtain⟨t,rfl⟩:=R;have i:=B.f7 a _ hl;have mo:s2.heap.MapOf (aob X.prog X.w) a (findBy amf D):=⟨_,D,n,i,⟨rfl,rfl,rfl⟩,rfl,P,λ_=>rfl⟩;refine call_meetsIn apr mo.typeIs PySem.F.entry_dict_get (PySem.F.args_dict_get_2 _ _) (meets_dict_get (aob X.prog X.w) a (k:=z) ?_ E) ⟨_,mo,?_⟩
  .show(z==z)=true
   simp
  .have:=o z
   cases aq:ps.lookup z with
   |none=>
    rw[aq]at this q;rw[this];exact⟨.aH,f,B.tok _,rfl,q c _ f j g rfl trivial⟩
   |some d=>
    rw[aq]at this q;obtain⟨u,aE,v,V,A⟩:=this;rw[aE];exact⟨v,f,B.tok _,V,q c _ f j g (A c f) trivial⟩
 .cases h⟩
end
end aC
namespace aC
open PySem PySem.Spec aA
section
variable{P:List Value->Prop}
def QV(h:P []):∀us:List Value,us.length=0->P us:=λus e=>by rw[aow e];exact h
def sx(h:∀a,∀us:List Value,us.length=n->P (a::us)):∀us:List Value,us.length=n+1->P us:=λus e=>by
 cases us with
 |nil=>cases e
 |cons a r=>exact h a r (Nat.succ.inj e)
def pL(h:∀a,P [a]):∀us:List Value,us.length=1->P us:=sx λa=>QV (h a)
def qQ(h:∀a b,P [a,b]):∀us:List Value,us.length=2->P us:=sx λa=>pL (h a)
def qR(h:∀a b c,P [a,b,c]):∀us:List Value,us.length=3->P us:=sx λa=>qQ (h a)
def AX(h:∀a b c d,P [a,b,c,d]):∀us:List Value,us.length=4->P us:=sx λa=>qR (h a)
def AY(h:∀a b c d e,P [a,b,c,d,e]):∀us:List Value,us.length=5->P us:=sx λa=>AX (h a)
def AZ(h:∀a b c d e f,P [a,b,c,d,e,f]):∀us:List Value,us.length=6->P us:=sx λa=>AY (h a)
def GI(h:∀a b c d e f g,P [a,b,c,d,e,f,g]):∀us:List Value,us.length=7->P us:=sx λa=>AZ (h a)
end
def Ml(N P:List Str)(a:Scope):Bool:=decide (a.kind=.function)&&!a.isCoroutine&&!a.isGenerator&&decide N.Nodup&&decide (N.take P.length=P)
&&P.all (λx=>decide (a.names.lookup x=some .local)||decide (a.names.lookup x=some .cell))&&a.names.all λy=>decide (y.2≠.free)
def tm{N P:List Str}(h:Ml N P sc=true):g8 N P sc:=by
 simp only[Ml,alC,Bool.not_eq_true',decide_eq_true_eq,alW,apk]at h;exact⟨h.1.1.1.1.1.1,h.1.1.1.1.1.2,h.1.1.1.1.2,h.1.1.1.2,h.1.1.2,h.1.2,h.2⟩
def JY(EN xs:List Str)(cap:List Nat):List Str:=xs++cap.filterMap λk=>EN[k]?
def JZ(esc scope:Scope)(EN N:List Str)(n:Nat)(cap:List Nat):Bool:=decide (scope.kind=.function)&&scope.names.all (λy=>decide (y.2≠.cell))&&scope.names.all (λy=>decide (y.2=.local->scope.names.lookup y.1=some .local))
&&scope.names.all (λy=>decide (y.2=.free->esc.names.lookup y.1=some .cell\/esc.names.lookup y.1=some .free))&&decide N.Nodup&&decide (N.length=n+cap.length)
&&(alD cap.length).all λj=>decide (N[n+j]? = EN[cap.getD j 0]?)&&(match N[n+j]? with|some x=>decide (scope.names.lookup x=some .free)|none=>true)
def vC{EN xs:List Str}(h:JZ esc scope EN (JY EN xs cap) xs.length cap=true):kV esc scope EN (JY EN xs cap) xs.length cap:=by
 simp only[JZ,alC,decide_eq_true_eq,alW]at h;obtain⟨⟨⟨⟨⟨⟨d,e⟩,g⟩,k⟩,l⟩,m⟩,c⟩:=h;refine⟨d,e,g,k,l,m,λj i=>?_⟩;obtain⟨a,b⟩:=c j (alZ.mpr i);refine⟨a,λx f=>?_⟩;rw[f]at b;exact of_decide_eq_true b
def nQ{N:List Str}(h:decide N.Nodup=true):N.Nodup:=of_decide_eq_true h
def z7{p:Nat->Prop}(b:p 0)(a:∀n,p (n+1)):∀n,p n:=λn=>by cases n with|zero=>exact b|succ n=>exact a n
variable[aA.a0]
end aC
namespace aC
open PySem PySem.Spec aA
variable[aA.a0]
structure cy(K:aN)(mg:bp)(x:Str)(st:Stmt)(ps N:List Str):Prop where
 d:g7 K mg x st ps
 s:g8 N ps (dm st)
structure ew(K:aN)(mg:bp)(c m qual:Str)(st:Stmt)(ps N:List Str):Prop where
 d:x4 K mg c m qual st ps
 s:g8 N ps (dm st)
structure x5(K:aN)(mg:bp)(c m qual:Str)(st:Stmt)(ps N:List Str):Prop where
 d:Bo K mg c m qual st ps
 s:g8 N ps (dm st)
section
variable(P:aly)(w:World)(base:Heap){K:aN}{mg:bp}{x c m qual:Str}{st:Stmt}{ps N:List Str}
abbrev cY(_:cy K mg x st ps N)(j k:Nat)(f:bq):Prop:=k<=j->eH P w K mg base x ps k (e4 K mg f)
abbrev sM(_:cy K mg x st ps N)(j k:Nat)(f:dC):Prop:=k<=j->eH P w K mg base x ps k (hx K mg f)
abbrev iD(_:ew K mg c m qual st ps N)(j k:Nat)(f:bq):Prop:=k<=j->kh P w K mg base c m ps k (e4 K mg f)
abbrev ik(_:ew K mg c m qual st ps N)(j k:Nat)(f:dC):Prop:=k<=j->kh P w K mg base c m ps k (hx K mg f)
abbrev Bt(_:x5 K mg c m qual st ps N)(j k:Nat)(f:dC):Prop:=k<=j->x6 P w K mg base c m ps k (hx K mg f)
end
section
variable{P:aly}{w:World}{base:Heap}{K:aN}{mg:bp}{x c m qual:Str}{st:Stmt}{ps N:List Str}{j k:Nat}{f:bq}{g:dC}{b:aM}{e:b0}
abbrev va(P:aly)(w:World)(K:aN)(mg:bp)(base:Heap)(N:List Str)(q:Str)(st:Stmt)(j k:Nat)(T:aQ->List Stmt->Prop):Prop:=
 k+1<=j->∀(f:Addr)(a:Value)(A:alI)(outer:List Env)(s:alc)(H:au)(E:gx),cB k (A.deeper (amc q (dm st) s.heap.objs.size f a))->T (ha eC P w K mg base N q (dm st) f a A outer s H E).gI (fO st)
def c2(d:cy K mg x st ps N)(hm:f=fnOf ps.length N.length b)(i:va P w K mg base N x st j k (hH · · b)):cY P w base d j (k+1) f:=λh=>by
 subst hm;exact vZ d.d d.s rfl rfl λf l A outer s H E a=>(i h f l A outer s H E a).un
def vP(d:cy K mg x st ps N)(hm:g=fnX ps.length N.length e)(a:va P w K mg base N x st j k (ir · · e)):sM P w base d j (k+1) g:=λh=>by
 subst hm;exact Wt d.d d.s rfl rfl (a h)
def i8(d:ew K mg c m qual st ps N)(hm:f=fnOf ps.length N.length b)(i:va P w K mg base N qual st j k (hH · · b)):iD P w base d j (k+1) f:=λh=>by
 subst hm;exact Ws d.d d.s rfl rfl λf l A outer s H E a=>(i h f l A outer s H E a).un
def iR(d:ew K mg c m qual st ps N)(hm:g=fnX ps.length N.length e)(a:va P w K mg base N qual st j k (ir · · e)):ik P w base d j (k+1) g:=λh=>by
 subst hm;exact Wr d.d d.s rfl rfl (a h)
def Mt(d:x5 K mg c m qual st ps N)(hm:g=fnX ps.length N.length e)(a:va P w K mg base N qual st j k (ir · · e)):Bt P w base d j (k+1) g:=λh=>by
 subst hm;exact Wq d.d d.s rfl rfl (a h)
end
end aC
namespace aC
open PySem PySem.Spec aA
def xQ(ms:gS):d3:=λU=>do
 let rs <-ms U
 let ds <-(kr rs).up
 if ds.length<=1000 then pure (.v (.t ds))else gG
def A7(j:Nat)(mo mk:bt)(mv:d3):b0:=λU=>do
 let r <-mv U
 match r with
 | .v (.t [d,e])=>(do
  let x <-(mo U).up
  let k <-(mk U).up
  let o <-(hj x).up
  match o,k with
  |.l xs,.v (.int i)=>(if 0<=i/\i<xs.length then(do
   AA x (.l (xs.set i.toNat d))
   pure (.bA (U.set j (.v e))))else gG)
  |_,_=>gG)
 |_=>gG
variable[aA.a0]
section
variable{X:aQ}{az:List Expr}{ms:gS}{pos:Pos}
def aia(b:jM X az ms):eV X (.Tuple az k pos) (xQ ms):=⟨eb (Pu b.un) λu H Q g=>by
 obtain⟨O,U,S,r,t,st,h,q⟩:=g;obtain⟨rs,d,i,b⟩:=N.inv h;clear h;obtain⟨ds,s,j,h⟩:=N.inv b;clear b;refine⟨O,U,S,rs,d,st,i,λe vs n m f l nn=>?_⟩;split at h
 .rename_i hl
  cases h;obtain⟨c,rfl⟩:=yI (H₀:=H) l nn j;refine⟨amP (gb (by rw[c.len];exact hl)),λp a=>?_⟩;have s2:=f.cN H;exact q (cN H e) _ _ (m.cN.trans (Go.gH a).dx) (s2.go (Go.gH a) (s2.s3.gH a).cm) ⟨p,vs,rfl,dB.of dZ,c.go (Go.gH a)⟩ trivial
 .cases h⟩
end
section
variable{X:aQ}{o i value:Expr}{x:Str}{p pos pos' d9:Pos}{mo mk:bt}{mv:d3}{j k:Nat}
def aik(hc:X.calm=true)(hN:X.N.Nodup)(bj:X.N[j]? = some x)(ag:Loc X.env.scope x)(Z:bb X o mo)(ar:bb X i mk)(bW:eV X value mv)
  (aw:aoL [.Tuple [.Subscript o i pos',.Name x p] k d9] value pos.line X.env=pure false:=by rfl) (hw:aoM [.Tuple [.Subscript o i pos',.Name x p] k d9] value X.env=pure none:=by rfl)
  (A:(al4 [.Tuple [.Subscript o i pos',.Name x p] k d9] X.env).map (·.2)=[anm (.Tuple [.Subscript o i pos',.Name x p] k d9) X.env]:=by rfl)
  (af:(al4 [.Subscript o i pos',.Name x p] X.env).map (·.2)=anm (.Subscript o i pos') X.env::(al4 [.Name x p] X.env).map (·.2):=by rfl)
  (g:(al4 [.Name x p] X.env).map (·.2)=anm (.Name x p) X.env::(al4 [] X.env).map (·.2):=by rfl)
  (u:(al4 [.Subscript o i pos',.Name x p] X.env).length=2:=by rfl) (gm:(al4 [.Subscript o i pos',.Name x p] X.env).findIdx? (·.1)=none:=by rfl)
  (hf:X.fn x=true\/X.env.scope.names.lookup x=some .local:=by first|exact .inl rfl|exact .inr rfl|assumption)
  (f:∀v,anm (.Subscript o i pos') X.env v=(do
   let cp <-am1 [v] (eval o X.env)
   let B <-am1 [v,cp] (eval i X.env)
   aoh pos'
   am1 [v,cp,B] (setItem cp B v)
   release [v,cp,B] []):=by intro _;rfl):fW X (.Assign [.Tuple [.Subscript o i pos',.Name x p] k d9] value pos) (A7 j mo mk mv):=
 ⟨gZ (FR bW.un (FL hc (FN (Py Z.un ar.un set_list f) (FN (sh hN bj ag hf) PA g) af) u gm) aw hw A) λD ak H aT=>by
 obtain⟨O,U,S,aS,ah,st,h,q⟩:=aT;obtain⟨r,Y,A,f⟩:=N.inv h;clear h;refine⟨O,U,S,r,Y,st,A,λI v H1 g1 J br nn=>?_⟩;split at f
 .rename_i d e
  obtain⟨w,hF,g,K⟩:=N.inv f;clear f;obtain⟨y,sW,P,hd⟩:=N.inv K;clear K;obtain⟨ba,q9,L,h⟩:=N.inv hd;clear hd;obtain rfl:=(mo U).e3 _ _ _ g;obtain rfl:=(mk U).e3 _ _ _ P;obtain⟨a,ys,rfl,t,F,bD,rfl,c_,G,bV,rfl,re,rfl⟩:=br;refine⟨a,_,rfl,t,rfl,F,_,rfl,I,U,_,_,_,J.s3,g,λbu fg aJ g2 bM C bA=>?_⟩;refine⟨bu,U,_,y,_,bM,P,λfT qT da Q R b3 nS=>?_⟩;have m:=g2.trans Q;have E:=J.go m R.cm;obtain⟨n,b,rfl,rfl,u,sn,hv⟩:=uy R (C.go Q) L;obtain rfl:=(hj (.v (.ref n))).e3 _ _ _ L;split at h
  .rename_i xs ea
   by_cases c:0<=ea/\ea<xs.length
   .rw[if_pos c]at h
    cases h;obtain⟨W,M,V⟩:=hv;cases(show qT=.int ea from b3);refine⟨b,W,ea,ea.toNat,rfl,rfl,M,?_,?_⟩
    .unfold nC
     rw[if_pos c.1,if_pos (by rw[V.len];exact c.2)]
    obtain⟨T,mF⟩:=E.write (u':=.l (W.set ea.toNat F)) (o:=.l (xs.set ea.toNat d)) u M (by rintro(⟨_,z⟩|⟨_,_,z⟩)<;>cases z) (by intro _ z;cases z) (by intro _ z;cases z) λk=>
     ⟨_,dZ,bh.set (k _ _ (Rep.go m c_)) ea.toNat (V.imp k)⟩
    refine⟨G,[],rfl,rfl,q fT _ _ ((g1.trans m.dx).trans T).d_ (mF.set (s:=.v e) (λxs z=>by cases z) ⟨G,rfl,Rep.dx T E.s3.cm.rh (Rep.go m re)⟩)⟩
   .rw[if_neg c]at h;cases h
  .cases h
 .cases f⟩
end
end aC
set_option maxHeartbeats 0
namespace aC
abbrev aL(n:Int):bt:=a4 (.int n)
abbrev a_(v:Nat)(n:Int):bt:=aj c0 (J v) (a4 (.int n))
abbrev gf(e:bt)(n:Int):bt:=aj c0 e (a4 (.int n))
abbrev aR(e:bt):cP:=dj e b'
abbrev bz(e f:bt):cP:=dj e (dj f b')
abbrev c4(e f g:bt):cP:=dj e (dj f (dj g b'))
end aC
namespace dW
open PySem PySem.Spec aA aC
def top(i:Nat):Stmt:=PySem.Challenge.pw_oneslate_k46_whole_house_of_parts.main.body.getD i (.Pass ⟨0,0,0,0⟩)
abbrev Qp:Stmt:=top 8
abbrev Ge:Stmt:=top 56
abbrev Gf:Stmt:=top 58
abbrev Gg:Stmt:=top 86
abbrev xo:Stmt:=top 108
def afg:g8 ["script","askers","hall","names","both","k","house","parts","books","record","one","found","due"] ["script"] (dm xo):=tm (by kernel_rfl)
abbrev Ab:List Str:=["me","epoch","hall","opening","over_known","greatest_round","last_stamp","wishes","deed","standing","last_outcome","grants","kept_mask","told_slate"]
abbrev Ac:List Str:=["askers","books","letters","rows"]
abbrev zu:List (Str×D):=[("put",.t [(.str "name"),(.str "number")]),("add",.t [(.str "name"),(.str "number")]),("swap",.t [(.str "name"),(.str "number"),(.str "number")]),("take",.t [(.str "fence")]),("renew",.t [(.str "fence")]),("free",.t [(.str "fence")]),("sure",.t [(.str "fence"),(.str "name"),(.str "number")]),("move",.t [(.str "hall")]),("end",.t [])]
abbrev hy:List (Str×Str):=[("put","do_put"),("add","do_add"),("swap","do_swap"),("take","do_take"),("renew","do_renew"),("free","do_free"),("sure","do_sure"),("move","do_move"),("end","do_end")]
def yb[aA.a0](K:aN)(mg:bp)(x:Str)(st:Stmt):Prop:=∃c e7,p0 K c e7 (tR x)/\∀(f:Addr)(c1:Value)(e:Option Addr)(dy a g:Value)(d:Option Addr)(b cz:Value)(o:Array (Option Value)),mg x=some (.ref f)->K.lookup f=some ⟨c1,e,.func (amW x x (iO st) (fO st) (dm st) .none dy a g d b cz),o⟩->b=.ref c
structure Txt[aA.a0](P:aly)(w:World)(K:aN)(mg:bp)(base:Heap):Prop where
 Lf:cy K mg "is_whole" (top 2) o0 o0
 K1:cy K mg "has_keeper" (top 3) ["mask","keeper"] ["mask","keeper"]
 Lx:cy K mg "mask_of" (top 4) ["keepers"] ["keepers","mask","keeper"]
 Lg:cy K mg "keepers_of" (top 5) ["mask"] ["mask"]
 Ly:cy K mg "masks_within" (top 6) ["mask"] ["mask","masks","keeper"]
 CM:cy K mg "highest" (top 8) ["grants","opening"] ["grants","opening","grant"]
 KC:cy K mg "all_alike" (top 9) ["grants"] ["grants"]
 K0:cy K mg "granters" (top 10) ["grants"] ["grants"]
 K9:cy K mg "is_keeper" (top 24) o0 o0
 Lb:cy K mg "is_pair" (top 25) o0 o0
 K5:cy K mg "is_choice" (top 26) o0 ["thing","many"]
 CN:cy K mg "is_built" (top 27) ["thing","deep"] ["thing","deep"]
 CQ:cy K mg "namings" (top 28) ["rule"] ["rule","keepers","part"]
 Ld:cy K mg "is_rule" (top 29) o0 o0
 LB:cy K mg "named" (top 30) ["rule"] ["rule"]
 CL:cy K mg "fills" (top 31) ["rule","mask"] ["rule","mask"]
 K_:cy K mg "is_least" (top 32) ["mask","filling"] ["mask","filling"]
 Lv:cy K mg "least_masks" (top 33) ["rule"] ["rule","filling"]
 KX:cy K mg "first_apart" (top 35) ["mask","others"] ["mask","others","other"]
 LH:cy K mg "parting" (top 36) ["asking","keeping"] ["asking","keeping","others","mask","other"]
 K8:cy K mg "is_hall" (top 37) o0 o0
 Lz:cy K mg "members_mask" (top 38) ["hall"] ["hall"]
 LA:cy K mg "members_of" (top 39) ["hall"] ["hall"]
 K':cy K mg "is_name" (top 44) o0 o0
 La:cy K mg "is_number" (top 45) o0 o0
 K7:cy K mg "is_fence" (top 46) o0 o0
 KY:cy K mg "form_of" (top 47) ["word"] ["word"]
 Lc:cy K mg "is_part" (top 48) ["kind","thing"] ["kind","thing"]
 K6:cy K mg "is_deed" (top 49) o0 ["thing","form"]
 KH:cy K mg "blank" (top 51) [] []
 Lu:cy K mg "lease_of" (top 52) M2 M2
 LI:cy K mg "shut_of" (top 53) M2 M2
 Le:cy K mg "is_shut" (top 54) M2 M2
 KI:cy K mg "cell_of" (top 55) ["slate","name"] ["slate","name","cell"]
 CR:cy K mg "with_cell" (top 56) ["slate","name","n"] ["slate","name","n","cells"]
 KV:cy K mg "doing_of" (top 57) ["slate","asker"] ["slate","asker","doing"]
 CS:cy K mg "with_doing" (top 58) ["slate","asker","number","answer"] ["slate","asker","number","answer","doings"]
 LK:cy K mg "with_lease" (top 59) v4 v4
 LL:cy K mg "with_shut" (top 60) ["slate","shut"] ["slate","shut"]
 LD:cy K mg "opened" (top 61) M2 M2
 KP:cy K mg "do_put" (top 63) T0 T0
 KJ:cy K mg "do_add" (top 64) T0 ["slate","asker","deed","total"]
 KS:cy K mg "do_swap" (top 65) T0 T0
 Lw:cy K mg "lent" (top 66) v4 v4
 LC:cy K mg "not_lent" (top 67) M2 ["slate","lease"]
 KU:cy K mg "do_take" (top 68) T0 T0
 KQ:cy K mg "do_renew" (top 69) T0 T0
 KN:cy K mg "do_free" (top 70) T0 T0
 KR:cy K mg "do_sure" (top 71) T0 T0
 KO:cy K mg "do_move" (top 72) T0 T0
 KL:cy K mg "do_end" (top 73) T0 T0
 LF:cy K mg "outcome_of" (top 75) T0 ["slate","asker","deed","doer"]
 KW:cy K mg "done_on" (top 76) ["slate","asker","number","deed"] ["slate","asker","number","deed","made"]
 KG:cy K mg "ask_letter" (top 78) ["asker","keeper","epoch","stamp"] ["asker","keeper","epoch","stamp"]
 LJ:cy K mg "tell_letter" (top 79) u8 u8
 KD:cy K mg "answer_to" (top 80) ["letter","word","load"] ["letter","word","load"]
 KZ:cy K mg "goes_to_keeper" (top 81) ["letter"] ["letter"]
 J4:ew K mg "Asker" "__init__" "Asker.__init__" (inClass (top 83) 0) ["self","me","hall"] ["self","me","hall"]
 J6:x5 K mg "Asker" "begin" "Asker.begin" (inClass (top 83) 1) ["self","deed"] ["self","deed"]
 J7:ew K mg "Asker" "bell" "Asker.bell" (inClass (top 83) 2) v0 v0
 Ka:ew K mg "Asker" "hear" "Asker.hear" (inClass (top 83) 3) P3 P3
 Kh:ew K mg "Asker" "outcome" "Asker.outcome" (inClass (top 83) 4) v0 v0
 Kg:ew K mg "Asker" "number" "Asker.number" (inClass (top 83) 5) v0 v0
 Kk:ew K mg "Asker" "stand" "Asker.stand" (inClass (top 83) 6) v0 v0
 Ki:ew K mg "Asker" "place" "Asker.place" (inClass (top 83) 8) v0 v0
 Ke:ew K mg "Asker" "knows_over" "Asker.knows_over" (inClass (top 83) 9) v0 v0
 Kd:ew K mg "Asker" "is_for_now" "Asker.is_for_now" (inClass (top 83) 10) P3 P3
 J5:ew K mg "Asker" "ask_members" "Asker.ask_members" (inClass (top 83) 11) v0 v0
 Kb:ew K mg "Asker" "hear_grant" "Asker.hear_grant" (inClass (top 83) 12) P3 P3
 J_:ew K mg "Asker" "go_on" "Asker.go_on" (inClass (top 83) 13) ["self","pair"] ["self","pair","load"]
 Kj:ew K mg "Asker" "sees_at_once" "Asker.sees_at_once" (inClass (top 83) 14) ["self","slate"] ["self","slate"]
 Kc:ew K mg "Asker" "hear_kept" "Asker.hear_kept" (inClass (top 83) 15) P3 ["self","letter","shut"]
 J8:ew K mg "Asker" "end_where_told" "Asker.end_where_told" (inClass (top 83) 16) v0 ["self","slate","doing"]
 Kf:ew K mg "Asker" "learn_over" "Asker.learn_over" (inClass (top 83) 17) v0 v0
 J':ew K mg "Asker" "go_over" "Asker.go_over" (inClass (top 83) 18) ["self","hall"] ["self","hall"]
 J9:ew K mg "Asker" "end_wish" "Asker.end_wish" (inClass (top 83) 19) ["self","outcome"] ["self","outcome"]
 LG:cy K mg "page_of" (top 85) ["book","epoch"] ["book","epoch","page"]
 CT:cy K mg "with_page" (top 86) ["book","epoch","promised","kept","slate"] ["book","epoch","promised","kept","slate","pages"]
 Lh:cy K mg "late" (top 87) ["book","letter","promised"] ["book","letter","promised"]
 K3:cy K mg "heard_ask" (top 88) v6 ["book","letter","stamp","page"]
 K4:cy K mg "heard_tell" (top 89) v6 ["book","letter","stamp","promised"]
 K2:cy K mg "heard" (top 90) v6 v6
 Kl:ew K mg "House" "__init__" "House.__init__" (inClass (top 94) 0) ["self","hall","askers"] ["self","hall","askers"]
 Kn:x5 K mg "House" "begin" "House.begin" (inClass (top 94) 1) ["self","asker","deed"] ["self","asker","deed","one","letters"]
 Ko:ew K mg "House" "bell" "House.bell" (inClass (top 94) 2) W1 W1
 Kq:ew K mg "House" "bring" "House.bring" (inClass (top 94) 3) ["self","k"] ["self","k","letter"]
 Ky:ew K mg "House" "record" "House.record" (inClass (top 94) 4) v0 v0
 Kv:ew K mg "House" "many" "House.many" (inClass (top 94) 6) v0 v0
 Ku:ew K mg "House" "letter" "House.letter" (inClass (top 94) 7) ["self","k"] ["self","k"]
 Kp:ew K mg "House" "book" "House.book" (inClass (top 94) 8) ["self","keeper"] ["self","keeper"]
 Kw:ew K mg "House" "outcome" "House.outcome" (inClass (top 94) 9) W1 W1
 Kz:ew K mg "House" "stand" "House.stand" (inClass (top 94) 10) W1 W1
 Kx:ew K mg "House" "place" "House.place" (inClass (top 94) 11) W1 W1
 Kt:ew K mg "House" "knows_over" "House.knows_over" (inClass (top 94) 12) W1 W1
 Km:ew K mg "House" "asker_of" "House.asker_of" (inClass (top 94) 13) W1 W1
 KA:ew K mg "House" "write" "House.write" (inClass (top 94) 14) ["self","letters"] ["self","letters","first"]
 Ks:ew K mg "House" "bring_to_keeper" "House.bring_to_keeper" (inClass (top 94) 15) P3 ["self","letter","told"]
 Kr:ew K mg "House" "bring_to_asker" "House.bring_to_asker" (inClass (top 94) 16) P3 ["self","letter","one","before","letters"]
 Lk:cy K mg "_law_cell_at" (top 96) ["script","k"] ["script","k"]
 CP:cy K mg "_law_alike" (top 97) ["found","due"] ["found","due","k"]
 Ln:cy K mg "_law_flat" (top 98) ["cell"] ["cell","many","some","asks"]
 Lo:cy K mg "_law_hall" (top 99) ["cell"] ["cell","some","rule","rows","tops"]
 Lp:cy K mg "_law_name" (top 100) ["cell"] ["cell","size","name"]
 Lq:cy K mg "_law_names" (top 101) ["cell"] ["cell","letters","base","at","other","third"]
 Ll:cy K mg "_law_deed" (top 102) ["names","mixed","cell"] ["names","mixed","cell","name","n","fence","way"]
 Ls:cy K mg "_law_written" (top 103) ["both","letters","told"] ["both","letters","told","house","parts","books","record","start","k"]
 Li:cy K mg "_law_bring" (top 104) ["both","k"] ["both","k","house","parts","books","record","letter","to","answer"]
 Lj:cy K mg "_law_burst" (top 105) ["both","start","living","most"] ["both","start","living","most","record","k","keeper"]
 Lr:cy K mg "_law_rung" (top 106) ["both","asker","deed"] ["both","asker","deed","house","parts","books","record","part"]
 Lm:cy K mg "_law_event" (top 107) ["both","names","cell","k"] ["both","names","cell","k","mixed","other","start","j","living"]
 CO:g7 K mg "law" xo ["script"]
 oo:mR K mg "Asker" Ab
 oq:mR K mg "House" Ac
 VH:∃u,mg "LAST_KEEPER"=some u/\RelV (.int 5) u
 VM:∃u,mg "MOST_PARTS"=some u/\RelV (.int 6) u
 VL:∃u,mg "MOST_NAMED"=some u/\RelV (.int 12) u
 VJ:∃u,mg "MOST_DEEP"=some u/\RelV (.int 4) u
 VN:∃u,mg "SMALL_LETTERS"=some u/\RelV (.str "abcdefghijklmnopqrstuvwxyz") u
 VK:∃u,mg "MOST_LETTERS"=some u/\RelV (.int 8) u
 VI:∃u,mg "MOST_ASKERS"=some u/\RelV (.int 6) u
 VG:∃u,mg "KEEPERS"=some u/\RelV (.int 6) u
 AL:ve P w K mg "DOERS" hy
 Ej:KTab P w K mg "FORMS" zu
 Ex:yb K mg "highest" Qp
 EB:yb K mg "with_cell" Ge
 EC:yb K mg "with_doing" Gf
 ED:yb K mg "with_page" Gg
 bm:kb base mg
 B:G9 mg
 kt:ya K
section
variable[aA.a0]{P:aly}{w:World}{K:aN}{mg:bp}{base:Heap}
def Ta:aM:=
  (aZ (jP (cF hb (bz (J 0) (a4 (.ty "int")))) (vy (cF hb (bz (J 0) (a4 (.ty "bool")))))))
def mm:bq:=fnOf 1 1 Ta
def Il:aM:=
  (aZ (aj oEq (aj w9 (aj Af (J 0) (J 1)) (aL 1)) (aL 1)))
def qx:bq:=fnOf 2 2 Il
def Ez:aM:=
  (ck 1 (aj uu (J 1) (aj Fj (aL 1) (J 2))))
def I4:aM:=
  (aZ (J 1))
def I3:aM:=
  bN (i5 2 (wb (J 0)) Ez) I4
def I2:aM:=
  bN (ck 1 (aL 0)) I3
def lq:bq:=fnOf 1 3 I2
def IK:aM:=
  (aZ (fb 1 [0] (gV (aR (bg oBits (J 0)))) (aU (bl qx (bz (J 1) (J 0)))) (J 0)))
def ua:bq:=fnOf 1 1 IK
def EA:aM:=
  (ck 1 (aj w_ (J 1) (fb 1 [2] (nz (J 1)) fL (aj eR (J 0) (bl lq (aR (d5 (aR (J 1)))))))))
def I7:aM:=
  (aZ (J 1))
def I6:aM:=
  bN (i5 2 (wb (bl ua (aR (J 0)))) EA) I7
def I5:aM:=
  bN (ck 1 (d5 (aR (aL 0)))) I6
def zS:bq:=fnOf 1 3 I5
def Iq:aM:=
  (aZ (bO (bz (a_ 2 1) (a_ 2 2))))
def Ip:aM:=
  bN (b8 (aU (aj oEq (a_ 2 1) (bO (bz (aL 0) (aL 0))))) (aZ (bO (bz (a_ 2 1) (J 1)))) bQ) Iq
def Cf:aM:=
  bN (ck 2 (yA (fnOf 1 1 (aZ (a_ 0 1))) (J 0))) Ip
def zN:bq:=fnOf 2 3 Cf
def Xi(T:Txt P w K mg base):eH P w K mg base "highest" ["grants","opening"] 4 (e4 K mg zN):=by
 show eH P w K mg base _ _ _ (e4 K mg (fnOf 2 3 Cf));obtain⟨c,e7,L,e⟩:=T.Ex;refine y6 (k:=3) T.CM.d e T.CM.s rfl rfl λf A outer s H E a=>?_
 have b:=a.units;refine hH.un ?_;refine n5 ?_ (n5 ?_ (qU ?_))
 .exact(GS (i:=2) T.CM.s.fI rfl (.inl rfl) (ahb (k:=0) (N:=["one"]) (p1:="one") rfl T.B.max (a.mono (by omega)) L T.bm rfl rfl ⟨rfl,rfl,rfl,by decide +kernel,rfl,by decide +kernel,by decide +kernel⟩ (λ_ _ _ _=>rfl) (λ_ _ _ _ _ _=>(hA hs hp (dR 0) gM)) (dR 0)))
 .exact(GR (iY (Fz b) B0 (hA hs hp (dR 2) gM) (pO (eT gM (eT gM iX)))) (qU (sF (pO (eT (hA hs hp (dR 2) gM) (eT (dR 1) iX))))) GU)
 .exact(sF (pO (eT (hA hs hp (dR 2) gM) (eT (hA hs hp (dR 2) gM) iX))))
def H4:aM:=
  (aZ (cF oB (aR (fb 1 [0] (nz (J 0)) fL (aj oEq (a_ 0 1) (gf (a_ 1 0) 1))))))
def wF:bq:=fnOf 1 1 H4
def Ik:aM:=
  (aZ (bl lq (aR (fb 1 [] (nz (J 0)) fL (a_ 0 0)))))
def o5:bq:=fnOf 1 1 Ik
def IC:aM:=
  (aZ (jP (bl mm (aR (J 0))) (e' oLe oLe (aL 0) (J 0) (aL 5))))
def wM:bq:=fnOf 1 1 IC
def S':aM:=
  (aZ (jP (cF hb (bz (J 0) (a4 (.ty "tuple")))) (aj oEq (cF fF (aR (J 0))) (aL 2))))
def zP:bq:=fnOf 1 1 S'
def It:aM:=
  (aZ (jP (aj oLe (J 1) (aL 6)) (e' oLe oLe (aL 1) (a_ 0 0) (J 1))))
def S_:aM:=
  bN (b8 (fK (eg (aU (bl zP (aR (J 0))))) (fK (eg (aU (bl mm (aR (a_ 0 0))))) (eg (aU (cF hb (bz (a_ 0 1) (a4 (.ty "tuple")))))))) (aZ (a4 (.av false))) bQ) (bN (ck 1 (cF fF (aR (a_ 0 1)))) It)
def EX:bq:=fnOf 1 2 S_
def S9(self:bq):aM:=
  (aZ (cF oB (aR (fb 1 [1] (lh (a_ 0 1)) fL (bl self (bz (J 0) (aj ph (J 1) (aL 1))))))))
def S8(self:bq):aM:=
  bN (b8 (fK (aU (aj oEq (J 1) (aL 0))) (eg (aU (bl EX (aR (J 0)))))) (aZ (a4 (.av false))) bQ) (S9 self)
def Ir(self:bq):aM:=
  bN (b8 (aU (bl wM (aR (J 0)))) (aZ (a4 (.av true))) bQ) (S8 self)
def r5:Nat->bq
 |0=>λ_=>bad
 |n+1=>fnOf 2 2 (Ir (r5 n))
def wm(self:bq):aM:=
  (ri 1 xH (aR (bl self (aR (J 2)))))
def Jb(self:bq):aM:=
  (yB 1)
def Ja(self:bq):aM:=
  bN (i5 2 (lh (a_ 0 1)) (wm self)) (Jb self)
def I'(self:bq):aM:=
  bN (nc 1 (d5 b')) (Ja self)
def yt(self:bq):aM:=
  bN (b8 (aU (bl mm (aR (J 0)))) (aZ (d5 (aR (J 0)))) bQ) (I' self)
def mq:Nat->bq
 |0=>λ_=>bad
 |n+1=>fnOf 1 3 (yt (mq n))
def II:aM:=
  (aZ (jP (bl (r5 12) (bz (J 0) (aL 4))) (aj oLe (cF fF (aR (bl (mq 12) (aR (J 0))))) (aL 12))))
def wR:bq:=fnOf 1 1 II
def I_:aM:=
  (aZ (bl lq (aR (bl (mq 12) (aR (J 0))))))
def ud:bq:=fnOf 1 1 I_
def Ie(self:bq):aM:=
  (aZ (aj uw (cF fF (aR (fb 1 [1] (lh (a_ 0 1)) (aU (bl self (bz (J 0) (J 1)))) (J 0)))) (a_ 0 0)))
def yq(self:bq):aM:=
  bN (b8 (aU (bl mm (aR (J 0)))) (aZ (bl qx (bz (J 1) (J 0)))) bQ) (Ie self)
def i':Nat->bq
 |0=>λ_=>bad
 |n+1=>fnOf 2 2 (yq (i' n))
def ID:aM:=
  (aZ (vy (cF vM (aR (fb 1 [0,1] (nz (bl ua (aR (J 0)))) fL (aj (kG false) (aj ph (J 1) (bl lq (aR (d5 (aR (J 0)))))) (J 2)))))))
def wN:bq:=fnOf 2 2 ID
def I0:aM:=
  (aZ (fb 1 [1] (nz (J 1)) (aU (bl wN (bz (J 0) (J 1)))) (J 0)))
def IZ:aM:=
  bN (ck 1 (fb 1 [0] (nz (bl zS (aR (bl ud (aR (J 0)))))) (aU (bl (i' 12) (bz (J 1) (J 0)))) (J 0))) I0
def wW:bq:=fnOf 1 2 IZ
def zx:aM:=
  (b8 (aU (aj oEq (aj w9 (J 0) (J 2)) (aL 0))) (aZ (J 2)) bQ)
def Ih:aM:=
  (aZ (a4 .aH))
def Ig:aM:=
  bN (i5 2 (wb (J 1)) zx) Ih
def wL:bq:=fnOf 2 3 Ig
def zz:aM:=
  (bN (ck 4 (bl wL (bz (J 3) (J 2))))
  (b8 (aU (aj j4 (J 4) (a4 .aH))) (aZ (bO (bz (J 3) (J 4)))) bQ))
def Jj:aM:=
  (aZ (a4 .aH))
def Ji:aM:=
  bN (i5 3 (wb (bl wW (aR (J 0)))) zz) Jj
def Jh:aM:=
  bN (ck 2 (bl wW (aR (J 1)))) Ji
def zU:bq:=fnOf 2 5 Jh
def IB:aM:=
  (aZ (aj ja (bl zU (bz (a_ 0 0) (a_ 0 1))) (a4 .aH)))
def IA:aM:=
  bN (b8 (fK (eg (aU (bl zP (aR (J 0))))) (fK (eg (aU (bl wR (aR (a_ 0 0))))) (eg (aU (bl wR (aR (a_ 0 1))))))) (aZ (a4 (.av false))) bQ) IB
def o6:bq:=fnOf 1 1 IA
def I8:aM:=
  (aZ (aj uu (bl ud (aR (a_ 0 0))) (bl ud (aR (a_ 0 1)))))
def zT:bq:=fnOf 1 1 I8
def I9:aM:=
  (aZ (bl ua (aR (bl zT (aR (J 0))))))
def mn:bq:=fnOf 1 1 I9
def IF:aM:=
  (aZ (cF oB (aR (fb 1 [] (Nv (J 0)) fL (aj (sb false) (J 0) (a4 (.str "abcdefghijklmnopqrstuvwxyz")))))))
def IE:aM:=
  bN (b8 (fK (eg (aU (cF hb (bz (J 0) (a4 (.ty "str")))))) (eg (aU (e' oLe oLe (aL 1) (cF nh (aR (J 0))) (aL 8))))) (aZ (a4 (.av false))) bQ) IF
def wO:bq:=fnOf 1 1 IE
def IG:aM:=
  (aZ (jP (bl mm (aR (J 0))) (aj oLt (cF vL (aR (J 0))) (aj pg (aL 10) (aL 60)))))
def wQ:bq:=fnOf 1 1 IG
def Iz:aM:=
  (aZ (jP (bl wQ (aR (J 0))) (aj uw (J 0) (aL 0))))
def zO:bq:=fnOf 1 1 Iz
def Ii:aM:=
  (aZ (CA zu (J 0)))
def EW:bq:=fnOf 1 1 Ii
def IH:aM:=
  (aZ (bl o6 (aR (J 1))))
def Cg:aM:=
  bN (b8 (aU (aj oEq (J 0) (a4 (.str "fence")))) (aZ (bl zO (aR (J 1)))) bQ) IH
def yr:aM:=
  bN (b8 (aU (aj oEq (J 0) (a4 (.str "number")))) (aZ (bl wQ (aR (J 1)))) bQ) Cg
def vr:aM:=
  bN (b8 (aU (aj oEq (J 0) (a4 (.str "name")))) (aZ (bl wO (aR (J 1)))) bQ) yr
def o7:bq:=fnOf 2 2 vr
def Iy:aM:=
  (aZ (cF oB (aR (vw [] (bz (J 1) (Cy (J 0) (kq (aL 1)) jQ)) fL (bl o7 (bz (J 0) (J 1)))))))
def Iw:aM:=
  bN (b8 (fK (aU (aj ja (J 1) (a4 .aH))) (aU (aj d7 (cF fF (aR (J 0))) (aj eR (cF fF (aR (J 1))) (aL 1))))) (aZ (a4 (.av false))) bQ) Iy
def Iv:aM:=
  bN (ck 1 (bl EW (aR (a_ 0 0)))) Iw
def Iu:aM:=
  bN (b8 (fK (eg (aU (cF hb (bz (J 0) (a4 (.ty "tuple")))))) (fK (aU (aj oEq (cF fF (aR (J 0))) (aL 0))) (eg (aU (cF hb (bz (a_ 0 0) (a4 (.ty "str")))))))) (aZ (a4 (.av false))) bQ) Iv
def nO:bq:=fnOf 1 2 Iu
def S4:aM:=
  (aZ (bO (dj (bO b') (c4 (bO b') (bO (bz (aL 0) (a4 .aH))) (a4 .aH)))))
def Oy:bq:=fnOf 0 0 S4
def m6:aM:=
  (aZ (a_ 0 2))
def jE:bq:=fnOf 1 1 m6
def Cn:aM:=
  (aZ (a_ 0 3))
def o_:bq:=fnOf 1 1 Cn
def IJ:aM:=
  (aZ (aj j4 (bl o_ (aR (J 0))) (a4 .aH)))
def ml:bq:=fnOf 1 1 IJ
def zv:aM:=
  (b8 (aU (aj oEq (a_ 2 0) (J 1))) (aZ (a_ 2 1)) bQ)
def H6:aM:=
  (aZ (aL 0))
def H5:aM:=
  bN (i5 2 (lh (a_ 0 0)) zv) H6
def t5:bq:=fnOf 2 3 H5
def Jl:aM:=
  (aZ (bO (dj (cF qg (aR (p9 md (fnOf 1 1 (aZ (a_ 0 0))) (J 3)))) (c4 (a_ 0 1) (a_ 0 2) (a_ 0 3)))))
def Jk:aM:=
  bN (b8 (aU (aj d7 (J 2) (aL 0))) (ri 3 kM (aR (bO (bz (J 1) (J 2))))) bQ) Jl
def Co:aM:=
  bN (nc 3 (fb 1 [1] (lh (a_ 0 0)) (aU (aj d7 (a_ 0 0) (J 1))) (J 0))) Jk
def r6:bq:=fnOf 3 4 Co
def X3(T:Txt P w K mg base):eH P w K mg base "with_cell" ["slate","name","n"] 4 (e4 K mg r6):=by
 show eH P w K mg base _ _ _ (e4 K mg (fnOf 3 4 Co));obtain⟨c,e7,L,e⟩:=T.EB;refine y6 (k:=3) T.CR.d e T.CR.s rfl rfl λf A outer s H E a=>?_
 have b:=a.units;refine hH.un ?_;refine n5 ?_ (n5 ?_ (qU ?_))
 .exact(A5 (i:=3) (esc:=(dm Ge)) (EN:=["slate","name","n","cells"]) (N:=["cell","name"]) (n:=1) (cap:=[1]) ⟨rfl,by decide +kernel,by decide +kernel,by decide +kernel,by decide +kernel,rfl,by decide +kernel⟩ T.CR.s.fI rfl rfl (by decide) (A0 (hA hs hp (dR 0) gM)) rfl (λ_ _ _ _=>⟨amK rfl,rfl⟩) (λ_ _ _ _=>(A1 (iY (uB b) s7 (hA hs hp (dR 0) gM) (dR 1)))) (λ_ _ _ _=>(dR 0)))
 .exact(GR (iY (uB b) s7 (dR 2) gM) (qU (xO (i:=3) amS amT uk wy (eT (pO (eT (dR 1) (eT (dR 2) iX))) iX) rfl (.inl rfl))) GU)
 .exact(sF (pO (eT (xN yC zp rfl T.B.tuple' vu (eT (GL (k:=0) (N:=["cell"]) (p1:="cell") aaf rfl T.B.sorted (a.mono (by omega)) L T.bm rfl rfl ⟨rfl,rfl,rfl,by decide +kernel,rfl,by decide +kernel,by decide +kernel⟩ (λ_ _ _ _=>rfl) (λ_ _ _ _ _ _=>(hA hs hp (dR 0) gM)) (dR 3)) iX)) (eT (hA hs hp (dR 0) gM) (eT (hA hs hp (dR 0) gM) (eT (hA hs hp (dR 0) gM) iX))))))
def zw:aM:=
  (b8 (aU (aj oEq (a_ 2 0) (J 1))) (aZ (J 2)) bQ)
def Ic:aM:=
  (aZ (bO (c4 (J 1) (aL 0) (a4 .aH))))
def Ib:aM:=
  bN (i5 2 (lh (a_ 0 1)) zw) Ic
def qw:bq:=fnOf 2 3 Ib
def Jn:aM:=
  (aZ (bO (dj (a_ 0 0) (c4 (cF qg (aR (p9 fy (fnOf 1 1 (aZ (a_ 0 0))) (J 4)))) (a_ 0 2) (a_ 0 3)))))
def Jm:aM:=
  bN (ri 4 kM (aR (bO (c4 (J 1) (J 2) (J 3))))) Jn
def Cp:aM:=
  bN (nc 4 (fb 1 [1] (lh (a_ 0 1)) (aU (aj d7 (a_ 0 0) (J 1))) (J 0))) Jm
def zV:bq:=fnOf 4 5 Cp
def X4(T:Txt P w K mg base):eH P w K mg base "with_doing" ["slate","asker","number","answer"] 4 (e4 K mg zV):=by
 show eH P w K mg base _ _ _ (e4 K mg (fnOf 4 5 Cp));obtain⟨c,e7,L,e⟩:=T.EC;refine y6 (k:=3) T.CS.d e T.CS.s rfl rfl λf A outer s H E a=>?_
 have b:=a.units;refine hH.un ?_;refine n5 ?_ (n5 ?_ (qU ?_))
 .exact(A5 (i:=4) (esc:=(dm Gf)) (EN:=["slate","asker","number","answer","doings"]) (N:=["doing","asker"]) (n:=1) (cap:=[1]) ⟨rfl,by decide +kernel,by decide +kernel,by decide +kernel,by decide +kernel,rfl,by decide +kernel⟩ T.CS.s.fI rfl rfl (by decide) (A0 (hA hs hp (dR 0) gM)) rfl (λ_ _ _ _=>⟨amK rfl,rfl⟩) (λ_ _ _ _=>(A1 (iY (uB b) s7 (hA hs hp (dR 0) gM) (dR 1)))) (λ_ _ _ _=>(dR 0)))
 .exact(xO (i:=4) amS amT uk wy (eT (pO (eT (dR 1) (eT (dR 2) (eT (dR 3) iX)))) iX) rfl (.inl rfl))
 .exact(sF (pO (eT (hA hs hp (dR 0) gM) (eT (xN yC zp rfl T.B.tuple' vu (eT (GL (k:=0) (N:=["doing"]) (p1:="doing") N5 rfl T.B.sorted (a.mono (by omega)) L T.bm rfl rfl ⟨rfl,rfl,rfl,by decide +kernel,rfl,by decide +kernel,by decide +kernel⟩ (λ_ _ _ _=>rfl) (λ_ _ _ _ _ _=>(hA hs hp (dR 0) gM)) (dR 4)) iX)) (eT (hA hs hp (dR 0) gM) (eT (hA hs hp (dR 0) gM) iX))))))
def Jo:aM:=
  (aZ (bO (dj (a_ 0 0) (c4 (a_ 0 1) (bO (bz (J 1) (J 2))) (a_ 0 3)))))
def zW:bq:=fnOf 3 3 Jo
def Jr:aM:=
  (aZ (bO (dj (a_ 0 0) (c4 (a_ 0 1) (a_ 0 2) (J 1)))))
def ug:bq:=fnOf 2 2 Jr
def Je:aM:=
  (aZ (bl ug (bz (J 0) (a4 .aH))))
def uf:bq:=fnOf 1 1 Je
def Ia:aM:=
  (aZ (bO (bz (bl r6 (c4 (J 0) (a_ 2 1) (a_ 2 2))) (bl t5 (bz (J 0) (a_ 2 1))))))
def wK:bq:=fnOf 3 3 Ia
def H8:aM:=
  (aZ (bO (bz (bl r6 (c4 (J 0) (a_ 2 1) (J 3))) (J 3))))
def H7:aM:=
  bN (ck 3 (aj eR (bl t5 (bz (J 0) (a_ 2 1))) (a_ 2 2))) H8
def wH:bq:=fnOf 3 4 H7
def B':aM:=
  (aZ (bO (bz (bl r6 (c4 (J 0) (a_ 2 1) (a_ 2 3))) (aL 1))))
def B_:aM:=
  bN (b8 (aU (aj d7 (bl t5 (bz (J 0) (a_ 2 1))) (a_ 2 2))) (aZ (bO (bz (J 0) (aL 0)))) bQ) B'
def t9:bq:=fnOf 3 3 B_
def I1:aM:=
  (aZ (bO (bz (bl zW (c4 (J 0) (aj eR (J 1) (aL 1)) (J 2))) (bO (c4 (aL 1) (aj eR (J 1) (aL 1)) (J 2))))))
def uc:bq:=fnOf 3 3 I1
def Jd:aM:=
  (aZ (bO (bz (J 0) (bO (c4 (aL 0) (a_ 1 0) (a_ 1 1))))))
def Jc:aM:=
  bN (ck 1 (bl jE (aR (J 0)))) Jd
def ue:bq:=fnOf 1 2 Jc
def Cb:aM:=
  (aZ (bl uc (c4 (J 0) (a_ 2 1) (J 1))))
def Ca:aM:=
  bN (b8 (aU (aj d7 (gf (bl jE (aR (J 0))) 0) (a_ 2 1))) (aZ (bl ue (aR (J 0)))) bQ) Cb
def t_:bq:=fnOf 3 3 Ca
def B7:aM:=
  (aZ (bl uc (c4 (J 0) (a_ 2 1) (J 1))))
def B6:aM:=
  bN (b8 (aU (aj d7 (bl jE (aR (J 0))) (bO (bz (a_ 2 1) (J 1))))) (aZ (bl ue (aR (J 0)))) bQ) B7
def t7:bq:=fnOf 3 3 B6
def B5:aM:=
  (aZ (bl uc (c4 (J 0) (a_ 2 1) (a4 .aH))))
def B4:aM:=
  bN (b8 (aU (aj d7 (bl jE (aR (J 0))) (bO (bz (a_ 2 1) (J 1))))) (aZ (bl ue (aR (J 0)))) bQ) B5
def t6:bq:=fnOf 3 3 B4
def B9:aM:=
  (aZ (bO (bz (bl r6 (c4 (J 0) (a_ 2 2) (a_ 2 3))) (aL 1))))
def B8:aM:=
  bN (b8 (aU (aj d7 (bl jE (aR (J 0))) (bO (bz (a_ 2 1) (J 1))))) (aZ (bO (bz (J 0) (aL 0)))) bQ) B9
def t8:bq:=fnOf 3 3 B8
def H_:aM:=
  (aZ (bO (bz (bl ug (bz (J 0) (a_ 2 1))) (aL 1))))
def wJ:bq:=fnOf 3 3 H_
def H9:aM:=
  (aZ (bO (bz (bl ug (bz (J 0) (a4 (.str "over")))) (aL 1))))
def wI:bq:=fnOf 3 3 H9
abbrev h4:List (Str×bq):=[("do_put",wK),("do_add",wH),("do_swap",t9),("do_take",t_),("do_renew",t7),("do_free",t6),("do_sure",t8),("do_move",wJ),("do_end",wI)]
def m8:aM:=
  (aZ (Cw 3 h4 (c4 (J 0) (J 1) (J 2))))
def m7:aM:=
  bN (ck 3 (Cz hy (a_ 2 0))) m8
def fe:bq:=fnOf 3 4 m7
def Ce:aM:=
  (aZ (bl zV (dj (a_ 4 0) (c4 (J 1) (J 2) (a_ 4 1)))))
def Cd:aM:=
  bN (ck 4 (bl fe (c4 (J 0) (J 1) (J 3)))) Ce
def Cc:aM:=
  bN (b8 (fK (aU (aj ja (J 3) (a4 .aH))) (fK (aU (bl ml (aR (J 0)))) (aU (aj uw (gf (bl qw (bz (J 0) (J 1))) 1) (J 2))))) (aZ (J 0)) bQ) Cd
def nN:bq:=fnOf 4 5 Cc
def S3:aM:=
  (aZ (bO (dj (a4 (.str "ask")) (dj (J 0) (dj (J 1) (c4 (J 2) (J 3) (bO b')))))))
def Ox:bq:=fnOf 4 4 S3
def Tt:aM:=
  (aZ (bO (dj (a4 (.str "tell")) (dj (J 0) (dj (J 1) (c4 (J 2) (J 3) (J 4)))))))
def OB:bq:=fnOf 5 5 Tt
def S2:aM:=
  (aZ (bO (dj (J 1) (dj (a_ 0 2) (dj (a_ 0 1) (c4 (a_ 0 3) (a_ 0 4) (J 2)))))))
def wG:bq:=fnOf 3 3 S2
def Ij:aM:=
  (aZ (aj (kG false) (a_ 0 0) (bO (bz (a4 (.str "ask")) (a4 (.str "tell"))))))
def o4:bq:=fnOf 1 1 Ij
def HP:b0:=
  bF (dU "Asker" "me" (J 0) (c6 (J 1))) (bF (dU "Asker" "epoch" (J 0) (c6 (aL 0))) (bF (dU "Asker" "hall" (J 0) (c6 (J 2))) (bF (dU "Asker" "opening" (J 0) (c6 (bl Oy b'))) (bF (dU "Asker" "over_known" (J 0) (c6 (a4 (.av false)))) (bF (dU "Asker" "greatest_round" (J 0) (c6 (aL 0))) (bF (dU "Asker" "last_stamp" (J 0) (c6 (bO (bz (aL 0) (aL 0))))) (bF (dU "Asker" "wishes" (J 0) (c6 (aL 0))) (bF (dU "Asker" "deed" (J 0) (c6 (a4 .aH))) (bF (dU "Asker" "standing" (J 0) (c6 (a4 (.str "calm")))) (bF (dU "Asker" "last_outcome" (J 0) (c6 (a4 .aH))) (bF (dU "Asker" "grants" (J 0) (ie (c6 (d5 b')))) (bF (dU "Asker" "kept_mask" (J 0) (c6 (aL 0))) (dU "Asker" "told_slate" (J 0) (c6 (a4 .aH)))))))))))))))
def oX:dC:=fnX 3 3 HP
def Sw:b0:=
  bF (dU "Asker" "greatest_round" (J 0) (c6 (aj eR (bg (bX "Asker" "greatest_round") (J 0)) (aL 1)))) (bF (dU "Asker" "last_stamp" (J 0) (c6 (bO (bz (bg (bX "Asker" "greatest_round") (J 0)) (bg (bX "Asker" "me") (J 0)))))) (bF (dU "Asker" "standing" (J 0) (c6 (a4 (.str "asking")))) (bF (dU "Asker" "grants" (J 0) (ie (c6 (d5 b')))) (bU (aZ (fb 1 [0] (nz (bl mn (aR (bg (bX "Asker" "hall") (J 0))))) fL (bl Ox (dj (bg (bX "Asker" "me") (J 1)) (c4 (J 0) (bg (bX "Asker" "epoch") (J 1)) (bg (bX "Asker" "last_stamp") (J 1)))))))))))
def wA:dC:=fnX 1 1 Sw
def HQ:b0:=
  bF (bU (b8 (hX (aU (aj j4 (J 1) (a4 .aH))) (eg (aU (bl nO (aR (J 1)))))) om bQ)) (bF (bU (b8 (aU (bg (bX "Asker" "over_known") (J 0))) om bQ)) (bF (bU (b8 (aU (aj d7 (bg (bX "Asker" "standing") (J 0)) (a4 (.str "calm")))) om bQ)) (bF (dU "Asker" "wishes" (J 0) (c6 (aj eR (bg (bX "Asker" "wishes") (J 0)) (aL 1)))) (bF (dU "Asker" "deed" (J 0) (c6 (J 1))) (bF (dU "Asker" "last_outcome" (J 0) (c6 (a4 .aH))) (gN (dF "Asker" "ask_members" wA (J 0) ka)))))))
def oY:dC:=fnX 2 2 HQ
def Sx:b0:=
  bF (bU (b8 (aU (aj oEq (bg (bX "Asker" "standing") (J 0)) (a4 (.str "calm")))) (aZ (d5 b')) bQ)) (gN (dF "Asker" "ask_members" wA (J 0) ka))
def qu:dC:=fnX 1 1 Sx
def SD:aM:=
  bN (b8 (fK (aU (aj d7 (a_ 1 3) (bg (bX "Asker" "epoch") (J 0)))) (aU (aj d7 (a_ 1 4) (bg (bX "Asker" "last_stamp") (J 0))))) (aZ (a4 (.av false))) bQ) (aZ (aj (kG false) (a_ 1 1) (bl mn (aR (bg (bX "Asker" "hall") (J 0))))))
def zH:bq:=fnOf 2 2 SD
def HY:aM:=
  bN (b8 (fK (aU (bl ml (aR (J 1)))) (eg (aU (bl wF (aR (dq (bg (bX "Asker" "grants") (J 0)))))))) (aZ (a4 (.av false))) bQ) (aZ (bl (i' 12) (bz (gf (bg (bX "Asker" "hall") (J 0)) 1) (bl o5 (aR (dq (bg (bX "Asker" "grants") (J 0))))))))
def wC:bq:=fnOf 2 2 HY
def HT:b0:=
  bF (dU "Asker" "standing" (J 0) (c6 (a4 (.str "calm")))) (dU "Asker" "last_outcome" (J 0) (c6 (J 1)))
def qv:dC:=fnX 2 2 HT
def Sy:b0:=
  bF (fA (gd (hX (aU (aj ja (bg (bX "Asker" "deed") (J 0)) (a4 .aH))) (aU (dk "Asker" "sees_at_once" wC (J 0) (aR (a_ 1 1)))))) (bF (lE (dF "Asker" "end_wish" qv (J 0) (dE (aR (bO (bz (a4 (.str "saw")) (bO (c4 (bg (bX "Asker" "epoch") (J 0)) (a_ 1 0) (a_ 1 1)))))))))
  (bU (aZ (d5 b')))) (bU bQ)) (bF (dU "Asker" "standing" (J 0) (c6 (a4 (.str "telling")))) (bF (dU "Asker" "kept_mask" (J 0) (c6 (aL 0))) (bF (dU "Asker" "told_slate" (J 0) (c6 (bl nN (dj (a_ 1 1) (c4 (bg (bX "Asker" "me") (J 0)) (bg (bX "Asker" "wishes") (J 0)) (bg (bX "Asker" "deed") (J 0))))))) (bF (bU (ck 2 (bO (dj (a_ 1 0) (c4 (bg (bX "Asker" "wishes") (J 0)) (bg (bX "Asker" "deed") (J 0)) (bg (bX "Asker" "told_slate") (J 0))))))) (bU (aZ (fb 1 [0,2] (nz (bl mn (aR (bg (bX "Asker" "hall") (J 0))))) fL (bl OB (dj (bg (bX "Asker" "me") (J 1)) (dj (J 0) (c4 (bg (bX "Asker" "epoch") (J 1)) (bg (bX "Asker" "last_stamp") (J 1)) (J 2))))))))))))
def tY:dC:=fnX 2 3 Sy
def SA:b0:=
  bF (bU (b8 (aU (bl qx (bz (bl o5 (aR (dq (bg (bX "Asker" "grants") (J 0))))) (a_ 1 1)))) (aZ (d5 b')) bQ)) (bF (mI kM (bg (bX "Asker" "grants") (J 0)) (aR (bO (c4 (a_ 1 1) (gf (a_ 1 5) 0) (gf (a_ 1 5) 1))))) (bF (bU (b8 (eg (aU (bl (i' 12) (bz (gf (bg (bX "Asker" "hall") (J 0)) 0) (bl o5 (aR (dq (bg (bX "Asker" "grants") (J 0))))))))) (aZ (d5 b')) bQ)) (gN (dF "Asker" "go_on" tY (J 0) (dE (aR (bl zN (bz (dq (bg (bX "Asker" "grants") (J 0))) (bg (bX "Asker" "opening") (J 0))))))))))
def tZ:dC:=fnX 2 2 SA
def HS:b0:=
  (fA (gd (aU (aj j4 (bg (bX "Asker" "deed") (J 0)) (a4 .aH)))) (bF (bU (ck 2 (bl qw (bz (J 1) (bg (bX "Asker" "me") (J 0))))))
  (fA (gd (aU (aj oEq (a_ 2 1) (bg (bX "Asker" "wishes") (J 0))))) (lE (dF "Asker" "end_wish" qv (J 0) (dE (aR (bO (bz (a4 (.str "did")) (a_ 2 2))))))) (bU bQ))) (fA (gd (eg (aU (bl ml (aR (J 1)))))) (lE (dF "Asker" "end_wish" qv (J 0) (dE (aR (bO (bz (a4 (.str "saw")) (bO (c4 (bg (bX "Asker" "epoch") (J 0)) (bg (bX "Asker" "last_stamp") (J 0)) (J 1))))))))) (fA (gd (aU (aj oEq (bl o_ (aR (J 1))) (a4 (.str "over"))))) (lE (dF "Asker" "end_wish" qv (J 0) (dE (aR (bO (bz (a4 (.str "saw")) (bO (c4 (bg (bX "Asker" "epoch") (J 0)) (a4 .aH) (J 1))))))))) (bU bQ))))
def HR:b0:=
  bF (bU (ck 1 (bg (bX "Asker" "told_slate") (J 0)))) HS
def EO:dC:=fnX 1 3 HR
def SF:b0:=
  bF (dU "Asker" "over_known" (J 0) (c6 (a4 (.av true)))) (fA (gd (aU (aj d7 (bg (bX "Asker" "standing") (J 0)) (a4 (.str "calm"))))) (lE (dF "Asker" "end_wish" qv (J 0) (dE (aR (bO (bz (a4 (.str "over")) (a4 .aH))))))) (bU bQ))
def EP:dC:=fnX 1 1 SF
def HV:b0:=
  bF (bU (b8 (aU (aj oEq (bg (bX "Asker" "standing") (J 0)) (a4 (.str "calm")))) (aZ (d5 b')) bQ)) (gN (dF "Asker" "ask_members" wA (J 0) ka))
def HU:b0:=
  bF (dU "Asker" "epoch" (J 0) (c6 (aj eR (bg (bX "Asker" "epoch") (J 0)) (aL 1)))) (bF (dU "Asker" "hall" (J 0) (c6 (J 1))) (bF (dU "Asker" "opening" (J 0) (c6 (bl uf (aR (bg (bX "Asker" "told_slate") (J 0)))))) HV))
def r0:dC:=fnX 2 2 HU
def HX:b0:=
  bF (fA (gd (aU (aj oEq (J 2) (a4 (.str "over"))))) (bF (lE (dF "Asker" "learn_over" EP (J 0) ka))
  (bU (aZ (d5 b')))) (bU bQ)) (gN (dF "Asker" "go_over" r0 (J 0) (dE (aR (J 2)))))
def B3:b0:=
  bF (bU (b8 (aU (aj ja (J 2) (a4 .aH))) (aZ (d5 b')) bQ)) HX
def HW:b0:=
  bF (bU (b8 (eg (aU (bl (i' 12) (bz (gf (bg (bX "Asker" "hall") (J 0)) 1) (bg (bX "Asker" "kept_mask") (J 0)))))) (aZ (d5 b')) bQ)) (bF (lE (dF "Asker" "end_where_told" EO (J 0) ka)) (bF (bU (ck 2 (bl o_ (aR (bg (bX "Asker" "told_slate") (J 0)))))) B3))
def B2:b0:=
  bF (dU "Asker" "kept_mask" (J 0) (c6 (aj uu (bg (bX "Asker" "kept_mask") (J 0)) (bl lq (aR (d5 (aR (a_ 1 1)))))))) HW
def r1:dC:=fnX 2 3 B2
def Sz:b0:=
  bF (bU (b8 (aU (aj d7 (a_ 1 2) (bg (bX "Asker" "me") (J 0)))) (aZ (d5 b')) bQ)) (bF (fA (gd (aU (aj oEq (a_ 1 0) (a4 (.str "late"))))) (bF (dU "Asker" "greatest_round" (J 0) (c6 (cF Ve (bz (bg (bX "Asker" "greatest_round") (J 0)) (gf (gf (a_ 1 5) 0) 0)))))
  (bU (aZ (d5 b')))) (bU bQ)) (bF (bU (b8 (eg (aU (dk "Asker" "is_for_now" zH (J 0) (aR (J 1))))) (aZ (d5 b')) bQ)) (bF (fA (gd (hX (aU (aj oEq (a_ 1 0) (a4 (.str "grant")))) (aU (aj oEq (bg (bX "Asker" "standing") (J 0)) (a4 (.str "asking")))))) (gN (dF "Asker" "hear_grant" tZ (J 0) (dE (aR (J 1))))) (bU bQ)) (bF (fA (gd (hX (aU (aj oEq (a_ 1 0) (a4 (.str "kept")))) (aU (aj oEq (bg (bX "Asker" "standing") (J 0)) (a4 (.str "telling")))))) (gN (dF "Asker" "hear_kept" r1 (J 0) (dE (aR (J 1))))) (bU bQ)) (bU (aZ (d5 b')))))))
def iV:dC:=fnX 2 2 Sz
def SH:aM:=
  (aZ (bg (bX "Asker" "last_outcome") (J 0)))
def wB:bq:=fnOf 1 1 SH
def SG:aM:=
  (aZ (bg (bX "Asker" "wishes") (J 0)))
def zI:bq:=fnOf 1 1 SG
def SJ:aM:=
  (aZ (bg (bX "Asker" "standing") (J 0)))
def oZ:bq:=fnOf 1 1 SJ
def SI:aM:=
  (aZ (bO (c4 (bg (bX "Asker" "epoch") (J 0)) (bg (bX "Asker" "hall") (J 0)) (bg (bX "Asker" "opening") (J 0)))))
def r2:bq:=fnOf 1 1 SI
def SE:aM:=
  (aZ (bg (bX "Asker" "over_known") (J 0)))
def t2:bq:=fnOf 1 1 SE
def zy:aM:=
  (b8 (aU (aj oEq (a_ 2 0) (J 1))) (aZ (p8 (J 2) (kq (aL 1)) jQ)) bQ)
def Jg:aM:=
  (aZ (bO (c4 (bO (bz (aL 0) (aL 0))) (bO (bz (aL 0) (aL 0))) (a4 .aH))))
def Jf:aM:=
  bN (i5 2 (lh (J 0)) zy) Jg
def wX:bq:=fnOf 2 3 Jf
def Jq:aM:=
  (aZ (cF qg (aR (p9 fy (fnOf 1 1 (aZ (a_ 0 0))) (J 5)))))
def Jp:aM:=
  bN (ri 5 kM (aR (bO (dj (J 1) (c4 (J 2) (J 3) (J 4)))))) Jq
def Cq:aM:=
  bN (nc 5 (fb 1 [1] (lh (J 0)) (aU (aj d7 (a_ 0 0) (J 1))) (J 0))) Jp
def wY:bq:=fnOf 5 6 Cq
def X6(T:Txt P w K mg base):eH P w K mg base "with_page" ["book","epoch","promised","kept","slate"] 4 (e4 K mg wY):=by
 show eH P w K mg base _ _ _ (e4 K mg (fnOf 5 6 Cq));obtain⟨c,e7,L,e⟩:=T.ED;refine y6 (k:=3) T.CT.d e T.CT.s rfl rfl λf A outer s H E a=>?_
 have b:=a.units;refine hH.un ?_;refine n5 ?_ (n5 ?_ (qU ?_))
 .exact(A5 (i:=5) (esc:=(dm Gg)) (EN:=["book","epoch","promised","kept","slate","pages"]) (N:=["page","epoch"]) (n:=1) (cap:=[1]) ⟨rfl,by decide +kernel,by decide +kernel,by decide +kernel,by decide +kernel,rfl,by decide +kernel⟩ T.CT.s.fI rfl rfl (by decide) (A0 (dR 0)) rfl (λ_ _ _ _=>⟨amK rfl,rfl⟩) (λ_ _ _ _=>(A1 (iY (uB b) s7 (hA hs hp (dR 0) gM) (dR 1)))) (λ_ _ _ _=>(dR 0)))
 .exact(xO (i:=5) amS amT uk wy (eT (pO (eT (dR 1) (eT (dR 2) (eT (dR 3) (eT (dR 4) iX))))) iX) rfl (.inl rfl))
 .exact(sF (xN yC zp rfl T.B.tuple' vu (eT (GL (k:=0) (N:=["page"]) (p1:="page") N5 rfl T.B.sorted (a.mono (by omega)) L T.bm rfl rfl ⟨rfl,rfl,rfl,by decide +kernel,rfl,by decide +kernel,by decide +kernel⟩ (λ_ _ _ _=>rfl) (λ_ _ _ _ _ _=>(hA hs hp (dR 0) gM)) (dR 5)) iX)))
def Tb:aM:=
  (aZ (bO (bz (J 0) (bl wG (c4 (J 1) (a4 (.str "late")) (bO (aR (J 2))))))))
def EY:bq:=fnOf 3 3 Tb
def Im:aM:=
  bN (b8 (aU (aj (uv lexLe) (J 2) (a_ 3 0))) (aZ (bl EY (c4 (J 0) (J 1) (a_ 3 0)))) bQ) (aZ (bO (bz (bl wY (dj (J 0) (dj (a_ 1 3) (c4 (J 2) (a_ 3 1) (a_ 3 2))))) (bl wG (c4 (J 1) (a4 (.str "grant")) (p8 (J 3) (kq (aL 1)) jQ))))))
def S6:aM:=
  bN (ck 2 (a_ 1 4)) (bN (ck 3 (bl wX (bz (J 0) (a_ 1 3)))) Im)
def Oz:bq:=fnOf 2 4 S6
def Io:aM:=
  bN (b8 (aU (aj (uv lexLt) (J 2) (J 3))) (aZ (bl EY (c4 (J 0) (J 1) (J 3)))) bQ) (aZ (bO (bz (bl wY (dj (J 0) (dj (a_ 1 3) (c4 (J 2) (J 2) (gf (a_ 1 5) 3))))) (bl wG (c4 (J 1) (a4 (.str "kept")) (bO b'))))))
def S7:aM:=
  bN (ck 2 (a_ 1 4)) (bN (ck 3 (gf (bl wX (bz (J 0) (a_ 1 3))) 0)) Io)
def OA:bq:=fnOf 2 4 S7
def S5:aM:=
  bN (b8 (aU (aj oEq (a_ 1 0) (a4 (.str "ask")))) (aZ (bl Oz (bz (J 0) (J 1)))) bQ) (aZ (bl OA (bz (J 0) (J 1))))
def lp:bq:=fnOf 2 2 S5
def HZ:b0:=
  bF (bU (b8 (eg (aU (bl o6 (aR (J 1))))) om bQ)) (bF (bU (b8 (fK (eg (aU (bl mm (aR (J 2))))) (eg (aU (e' oLe oLe (aL 1) (J 2) (aL 6))))) om bQ)) (bF (dU "House" "askers" (J 0) (ie (qV 1 [1] (gV (aR (J 2))) (kR "Asker" oX (dE (bz (J 0) (J 1))))))) (bF (dU "House" "books" (J 0) (ie (c6 (fb 1 [] (gV (aR (aL 6))) fL (bO b'))))) (bF (dU "House" "letters" (J 0) (ie (c6 (d5 b')))) (dU "House" "rows" (J 0) (ie (c6 (d5 b'))))))))
def zJ:dC:=fnX 3 3 HZ
def SK:aM:=
  bN (b8 (fK (eg (aU (bl mm (aR (J 1))))) (eg (aU (e' oLe oLt (aL 0) (J 1) (cF fF (aR (dq (bg (bX "House" "askers") (J 0))))))))) om bQ) (aZ (aj c0 (dq (bg (bX "House" "askers") (J 0))) (J 1)))
def o1:bq:=fnOf 2 2 SK
def SU:aM:=
  (aZ (cF fF (aR (dq (bg (bX "House" "letters") (J 0))))))
def o3:bq:=fnOf 1 1 SU
def S0:b0:=
  bF (bU (ck 2 (dk "House" "many" o3 (J 0) b'))) (bF (mI uZ (bg (bX "House" "letters") (J 0)) (aR (J 1))) (bU (aZ (vx (bz (J 2) (dk "House" "many" o3 (J 0) b'))))))
def t4:dC:=fnX 2 3 S0
def H0:b0:=
  bF (bU (ck 3 (dk "House" "asker_of" o1 (J 0) (aR (J 1))))) (bF (sG 4 (dF "Asker" "begin" oY (J 3) (dE (aR (J 2))))) (bF (mI kM (bg (bX "House" "rows") (J 0)) (aR (bO (dj (a4 (.str "begin")) (dj (J 1) (c4 (dk "Asker" "number" zI (J 3) b') (J 2) (dk "House" "many" o3 (J 0) b'))))))) (gN (dF "House" "write" t4 (J 0) (dE (aR (J 4)))))))
def r3:dC:=fnX 3 5 H0
def SM:b0:=
  (gN (dF "House" "write" t4 (J 0) (kQ (dF "Asker" "bell" qu (dk "House" "asker_of" o1 (J 0) (aR (J 1))) ka) b')))
def zK:dC:=fnX 2 2 SM
def SS:aM:=
  bN (b8 (fK (eg (aU (bl mm (aR (J 1))))) (eg (aU (e' oLe oLt (aL 0) (J 1) (dk "House" "many" o3 (J 0) b'))))) om bQ) (aZ (aj c0 (dq (bg (bX "House" "letters") (J 0))) (J 1)))
def zL:bq:=fnOf 2 2 SS
def SQ:b0:=
  bF (bU (ck 2 (bl lp (bz (aj c0 (dq (bg (bX "House" "books") (J 0))) (a_ 1 2)) (J 1))))) (bF (A6 (bg (bX "House" "books") (J 0)) (a_ 1 2) (c6 (a_ 2 0))) (bU (aZ (d5 (aR (a_ 2 1))))))
def wD:dC:=fnX 2 3 SQ
def H3:b0:=
  bF (fA (gd (hX (aU (aj d7 (J 3) (a4 (.str "calm")))) (aU (aj oEq (dk "Asker" "stand" oZ (J 2) b') (a4 (.str "calm")))))) (mI kM (bg (bX "House" "rows") (J 0)) (aR (bO (dj (a4 (.str "end")) (dj (a_ 1 2) (c4 (dk "Asker" "number" zI (J 2) b') (dk "Asker" "outcome" wB (J 2) b') (dk "House" "many" o3 (J 0) b'))))))) (bU bQ)) (bU (aZ (J 4)))
def SP:b0:=
  bF (bU (ck 2 (aj c0 (dq (bg (bX "House" "askers") (J 0))) (a_ 1 2)))) (bF (bU (ck 3 (dk "Asker" "stand" oZ (J 2) b'))) (bF (sG 4 (dF "Asker" "hear" iV (J 2) (dE (aR (J 1))))) H3))
def r4:dC:=fnX 2 5 SP
def H2:b0:=
  bF (fA (gd (aU (bl o4 (aR (J 2))))) (gN (dF "House" "write" t4 (J 0) (kQ (dF "House" "bring_to_keeper" wD (J 0) (dE (aR (J 2)))) b'))) (bU bQ)) (gN (dF "House" "write" t4 (J 0) (kQ (dF "House" "bring_to_asker" r4 (J 0) (dE (aR (J 2)))) b')))
def SO:b0:=
  bF (bU (ck 2 (dk "House" "letter" zL (J 0) (aR (J 1))))) H2
def o2:dC:=fnX 2 3 SO
def SX:aM:=
  (aZ (cF vN (aR (dq (bg (bX "House" "letters") (J 0))))))
def zM:bq:=fnOf 1 1 SX
def SN:aM:=
  (aZ (aj c0 (dq (bg (bX "House" "books") (J 0))) (J 1)))
def ER:bq:=fnOf 2 2 SN
def SV:aM:=
  (aZ (dk "Asker" "outcome" wB (dk "House" "asker_of" o1 (J 0) (aR (J 1))) b'))
def ET:bq:=fnOf 2 2 SV
def SY:aM:=
  (aZ (dk "Asker" "stand" oZ (dk "House" "asker_of" o1 (J 0) (aR (J 1))) b'))
def EV:bq:=fnOf 2 2 SY
def SW:aM:=
  (aZ (dk "Asker" "place" r2 (dk "House" "asker_of" o1 (J 0) (aR (J 1))) b'))
def EU:bq:=fnOf 2 2 SW
def SR:aM:=
  (aZ (dk "Asker" "knows_over" t2 (dk "House" "asker_of" o1 (J 0) (aR (J 1))) b'))
def ES:bq:=fnOf 2 2 SR
def IS:aM:=
  (aZ (aL 0))
def IQ:aM:=
  bN (b8 (aU (aj oLt (J 1) (cF fF (aR (J 0))))) (aZ (aj c0 (J 0) (J 1))) bQ) IS
def o8:bq:=fnOf 2 2 IQ
def Ey(self:bq):aM:=
  (b8 (eg (aU (bl self (bz (aj c0 (J 0) (J 2)) (aj c0 (J 1) (J 2)))))) (aZ (a4 (.av false))) bQ)
def Th(self:bq):aM:=
  (aZ (a4 (.av true)))
def Tg(self:bq):aM:=
  bN (i5 2 (gV (aR (cF fF (aR (J 1))))) (Ey self)) (Th self)
def IM(self:bq):aM:=
  bN (b8 (aU (aj d7 (cF fF (aR (J 0))) (cF fF (aR (J 1))))) (aZ (a4 (.av false))) bQ) (Tg self)
def Tf(self:bq):aM:=
  bN (b8 (hX (aU (cF hb (bz (J 1) (a4 (.ty "list"))))) (eg (aU (cF hb (bz (J 0) (a4 (.ty "list"))))))) (aZ (a4 (.av false))) bQ) (IM self)
def Cj(self:bq):aM:=
  bN (b8 (hX (aU (cF hb (bz (J 1) (a4 (.ty "tuple"))))) (eg (aU (cF hb (bz (J 0) (a4 (.ty "tuple"))))))) (aZ (a4 (.av false))) bQ) (Tf self)
def Te(self:bq):aM:=
  bN (b8 (aU (cF hb (bz (J 1) (a4 (.ty "str"))))) (aZ (jP (cF hb (bz (J 0) (a4 (.ty "str")))) (aj oEq (J 0) (J 1)))) bQ) (Cj self)
def Td(self:bq):aM:=
  bN (b8 (aU (cF hb (bz (J 1) (a4 (.ty "int"))))) (aZ (jP (cF hb (bz (J 0) (a4 (.ty "int")))) (jP (vy (cF hb (bz (J 0) (a4 (.ty "bool"))))) (aj oEq (J 0) (J 1))))) bQ) (Te self)
def Tc(self:bq):aM:=
  bN (b8 (aU (cF hb (bz (J 1) (a4 (.ty "bool"))))) (aZ (jP (cF hb (bz (J 0) (a4 (.ty "bool")))) (aj oEq (J 0) (J 1)))) bQ) (Td self)
def Ci(self:bq):aM:=
  bN (b8 (aU (aj ja (J 1) (a4 .aH))) (aZ (aj ja (J 0) (a4 .aH))) bQ) (Tc self)
def hU:Nat->bq
 |0=>λ_=>bad
 |n+1=>fnOf 2 3 (Ci (hU n))
def To:aM:=
  bN (ck 1 (aj eR (aj eR (aL 1) (aj oMod (J 0) (aL 4))) (aj nT (aj oMod (aj eY (J 0) (aL 4)) (aL 2)) (aj oMod (aj eY (J 0) (aL 8)) (aL 3))))) (bN (ck 2 (cF qg (aR (fb 1 [0] (gV (aR (J 1))) fL (aj oMod (aj eR (aj eY (J 1) (aL 24)) (J 0)) (aL 6)))))) (bN (ck 3 (aj eR (aL 1) (aj oMod (aj eY (J 0) (aL 144)) (J 1)))) (aZ (bO (bz (bO (bz (J 3) (J 2))) (bO (bz (aj eR (aj ph (aj eR (J 1) (aL 1)) (J 3)) (aj oMod (aj eY (J 0) (aL 864)) (J 3))) (J 2))))))))
def E2:bq:=fnOf 1 4 To
def IU:aM:=
  bN (b8 (aU (aj oEq (aj oMod (J 0) (aL 5)) (aL 4))) (bN (ck 2 (bO (bz (aL 2) (bO (c4 (bO (bz (aL 2) (bO (c4 (a_ 1 0) (a_ 1 1) (a_ 1 2))))) (bO (bz (aL 2) (bO (c4 (a_ 1 2) (a_ 1 3) (a_ 1 4))))) (a_ 1 0))))))
  (bN (b8 (aU (aj oEq (aj oMod (aj eY (J 0) (aL 30)) (aL 3)) (aL 0))) (ck 2 (bO (bz (aL 2) (bO (c4 (a_ 1 0) (a_ 1 0) (a_ 1 1)))))) bQ)
  (aZ (bO (bz (J 2) (J 2)))))) bQ) (bN (ck 3 (bO (bz (aL 1) (bO (bz (bO (bz (aL 2) (bO (bz (a_ 1 0) (a_ 1 1))))) (bO (bz (aL 2) (bO (bz (a_ 1 2) (a_ 1 3)))))))))) (bN (ck 4 (bO (bz (aL 2) (bO (bz (bO (bz (aL 1) (bO (bz (a_ 1 0) (a_ 1 1))))) (bO (bz (aL 1) (bO (bz (a_ 1 2) (a_ 1 3)))))))))) (bN (b8 (aU (aj oEq (aj oMod (aj eY (J 0) (aL 30)) (aL 2)) (aL 0))) (aZ (bO (bz (J 3) (J 4)))) bQ) (aZ (bO (bz (J 4) (J 3)))))))
def Tp:aM:=
  bN (b8 (aU (aj oLt (aj oMod (J 0) (aL 5)) (aL 3))) (aZ (bl E2 (aR (aj eY (J 0) (aL 5))))) bQ) (bN (ck 1 (fb 1 [0] (gV (aR (aL 5))) fL (aj oMod (aj eR (aj eY (J 1) (aL 5)) (J 0)) (aL 6)))) IU)
def wV:bq:=fnOf 1 5 Tp
def Oa:aM:=
  (bN (ck 2 (aj pe (J 2) (aj c0 (a4 (.str "abcdefghijklmnopqrstuvwxyz")) (aj oMod (aj eY (J 0) (aL 8)) (aL 26)))))
  (ck 0 (aj eY (J 0) (aL 3))))
def Tq:aM:=
  bN (ck 1 (aj eR (aL 1) (aj oMod (J 0) (aL 8)))) (bN (ck 2 (a4 (.str ""))) (bN (vz (aU (aj oLt (cF nh (aR (J 2))) (J 1))) Oa) (aZ (J 2))))
def E3:bq:=fnOf 1 3 Tq
def IW:aM:=
  (aZ (d5 (c4 (J 2) (aj pe (aj pe (s9 (J 2) jQ (kq (J 3))) (J 4)) (s9 (J 2) (kq (aj eR (J 3) (aL 1))) jQ)) (J 5))))
def IV:aM:=
  bN (b8 (aU (aj oEq (cF nh (aR (J 2))) (aL 8))) (ck 5 (s9 (J 2) jQ (kq (aL 7)))) bQ) IW
def Tr:aM:=
  bN (ck 1 (a4 (.str "abcdefghijklmnopqrstuvwxyz"))) (bN (ck 2 (bl E3 (aR (J 0)))) (bN (ck 3 (aj oMod (aj eY (J 0) (aL 5)) (cF nh (aR (J 2))))) (bN (ck 4 (aj c0 (J 1) (aj oMod (aj eR (aj eR (Cx rB (J 1) (aR (aj c0 (J 2) (J 3)))) (aL 1)) (aj oMod (aj eY (J 0) (aL 7)) (aL 25))) (aL 26)))) (bN (ck 5 (aj pe (J 2) (a4 (.str "x")))) IV))))
def zQ:bq:=fnOf 1 6 Tr
def Ck:aM:=
  bN (b8 (aU (aj oLt (J 6) (aL 5))) (aZ (bO (c4 (a4 (.str "add")) (J 3) (J 4)))) bQ) (bN (b8 (aU (aj oLt (J 6) (aL 7))) (aZ (bO (c4 (a4 (.str "put")) (J 3) (J 4)))) bQ) (bN (b8 (aU (aj oEq (J 6) (aL 7))) (aZ (bO (dj (a4 (.str "swap")) (c4 (J 3) (aj oMod (aj eY (J 1) (aL 96)) (aL 3)) (J 4))))) bQ) (bN (b8 (aU (aj oEq (J 6) (aL 8))) (aZ (bO (bz (a4 (.str "take")) (J 5)))) bQ) (bN (b8 (aU (aj oEq (J 6) (aL 9))) (aZ (aj c0 (d5 (c4 (bO (bz (a4 (.str "renew")) (J 5))) (bO (bz (a4 (.str "free")) (J 5))) (bO (dj (a4 (.str "sure")) (c4 (J 5) (J 3) (J 4)))))) (aj oMod (aj eY (J 1) (aL 400)) (aL 3)))) bQ) (bN (b8 (fK (aU (aj oEq (J 6) (aL 10))) (aU (aj oEq (J 6) (aL 11)))) (aZ (bO (bz (a4 (.str "move")) (bl wV (aR (aj eY (J 1) (aL 96))))))) bQ) (bN (b8 (hX (aU (aj oEq (J 6) (aL 12))) (aU (aj oEq (aj oMod (aj eY (J 1) (aL 96)) (aL 3)) (aL 0)))) (aZ (bO (aR (a4 (.str "end"))))) bQ) (aZ (a4 .aH))))))))
def Tn:aM:=
  bN (ck 3 (aj c0 (J 0) (aj oMod (aj eY (J 1) (aL 16)) (aL 3)))) (bN (ck 4 (aj ph (aj oMod (J 2) (aj pg (aL 10) (aL 40))) (aj pg (aL 10) (aL 20)))) (bN (b8 (aU (aj oEq (aj oMod (aj eY (J 1) (aL 48)) (aL 2)) (aL 1))) (ck 4 (aj oMod (aj eY (J 1) (aL 96)) (aL 3))) bQ) (bN (ck 5 (aj oMod (aj eY (J 1) (aL 96)) (aL 4))) (bN (ck 6 (aj oMod (J 1) (aL 16))) Ck))))
def wU:bq:=fnOf 3 7 Tn
def Ob:aM:=
  (b8 (aU (aj d7 (dk "House" "letter" zL (J 3) (aR (J 8))) (aj c0 (dq (J 6)) (J 8)))) (aZ (a4 (.av false))) bQ)
def Ts:b0:=
  bF (bU (s_ [3,4,5,6] (J 0))) (bF (bU (ck 7 (cF fF (aR (dq (J 6)))))) (bF (mI uZ (J 6) (aR (J 1))) (bF (bU (b8 (fK (eg (aU (bl (hU 15) (bz (J 2) (vx (bz (J 7) (cF fF (aR (dq (J 6)))))))))) (eg (aU (bl (hU 15) (bz (dk "House" "many" o3 (J 3) b') (cF fF (aR (dq (J 6))))))))) (aZ (a4 (.av false))) bQ)) (bF (bU (i5 8 (tF (bz (J 7) (cF fF (aR (dq (J 6)))))) Ob)) (bU (aZ (a4 (.av true))))))))
def o9:dC:=fnX 3 9 Ts
def IP:b0:=
  bF (fA (gd (fK (aU (aj oEq (a_ 6 0) (a4 (.str "ask")))) (aU (aj oEq (a_ 6 0) (a4 (.str "tell")))))) (bF (A7 8 (J 4) (J 7) (c6 (bl lp (bz (aj c0 (dq (J 4)) (J 7)) (J 6)))))
  (gN (iZ o9 (gs (c6 (J 0)) (gs (c6 (d5 (aR (J 8)))) (kQ (dF "House" "bring" o2 (J 2) (dE (aR (J 1)))) b')))))) (bU bQ)) (gN (iZ o9 (gs (c6 (J 0)) (gs (dF "Asker" "hear" iV (aj c0 (dq (J 3)) (J 7)) (dE (aR (J 6)))) (kQ (dF "House" "bring" o2 (J 2) (dE (aR (J 1)))) b')))))
def Ti:b0:=
  bF (bU (s_ [2,3,4,5] (J 0))) (bF (bU (ck 6 (aj c0 (dq (J 5)) (J 1)))) (bF (bU (ck 7 (a_ 6 2))) IP))
def ub:dC:=fnX 2 9 Ti
def N_:b0:=
  (bF (bU (ck 6 (gf (aj c0 (dq (J 4)) (J 5)) 1)))
  (bF (bU (b8 (fK (aU (aj oEq (gf (aj c0 (dq (J 4)) (J 5)) 0) (a4 (.str "ask")))) (aU (aj oEq (gf (aj c0 (dq (J 4)) (J 5)) 0) (a4 (.str "tell"))))) (ck 6 (gf (aj c0 (dq (J 4)) (J 5)) 2)) bQ))
  (bF (fA (gd (aU (aj oEq (aj w9 (aj Af (J 2) (J 6)) (aL 1)) (aL 1)))) (bF (bU (ck 3 (aj ph (J 3) (aL 1))))
  (fA (sI (sJ (iZ ub (dE (bz (J 0) (J 5)))))) (bU (aZ (a4 (.av false)))) (bU bQ))) (bU bQ))
  (bU (ck 5 (aj eR (J 5) (aL 1)))))))
def Tj:b0:=
  bF (sG 4 (c6 (a_ 0 3))) (bF (bU (ck 5 (J 1))) (bF (A8 (gd (hX (aU (aj oLt (J 5) (cF fF (aR (dq (J 4)))))) (aU (aj qE (J 3) (aL 0))))) N_) (bU (aZ (a4 (.av true))))))
def E0:dC:=fnX 4 7 Tj
def IY:b0:=
  bF (fA (gd (aU (aj d7 (dk "Asker" "stand" oZ (J 7) b') (a4 (.str "calm"))))) (gN (iZ o9 (gs (c6 (J 0)) (gs (dF "Asker" "bell" qu (J 7) ka) (kQ (dF "House" "bell" zK (J 3) (dE (aR (J 1)))) b'))))) (bU bQ)) (bF (bU (b8 (aU (dk "Asker" "knows_over" t2 (J 7) b')) (aZ (a4 (.av true))) bQ)) (bF (fA (gd (aU (aj ja (J 2) (a4 .aH)))) (gN (iZ o9 (gs (c6 (J 0)) (gs (dF "Asker" "begin" oY (J 7) (dE (aR (a4 .aH)))) (kQ (dF "House" "begin" r3 (J 3) (dE (bz (J 1) (a4 .aH)))) b'))))) (bU bQ)) (bF (bU (b8 (hX (aU (aj oEq (a_ 2 0) (a4 (.str "move")))) (aU (aj qE (gf (dk "Asker" "place" r2 (J 7) b') 0) (aL 6)))) (ck 2 (bO (c4 (a4 (.str "put")) (a_ 2 0) (aL 0)))) bQ)) (gN (iZ o9 (gs (c6 (J 0)) (gs (dF "Asker" "begin" oY (J 7) (dE (aR (J 2)))) (kQ (dF "House" "begin" r3 (J 3) (dE (bz (J 1) (J 2)))) b'))))))))
def IX:b0:=
  bF (bU (s_ [3,4,5,6] (J 0))) (bF (bU (ck 7 (aj c0 (dq (J 4)) (J 1)))) IY)
def zR:dC:=fnX 3 8 IX
def N':b0:=
  (fA (xU (gd (aU (aj qE (J 6) (aL 0)))) (sI (sJ (iZ ub (dE (bz (J 0) (aj oMod (aj eR (J 5) (J 7)) (J 6)))))))) (bU (aZ (a4 (.av false)))) (bU bQ))
def Cm:b0:=
  bF (fA (gd (aU (aj oEq (aj oMod (J 4) (aL 4)) (aL 3)))) (bF (xP 7 (gV (aR (aj eR (aL 1) (aj oMod (aj eY (J 4) (aL 24)) (aL 3))))) N')
  (bU (aZ (a4 (.av true))))) (bU bQ)) (bF (fA (sI (sJ (iZ zR (dE (c4 (J 0) (aj oMod (aj eY (J 4) (aL 4)) (cF fF (aR (dq (a_ 0 1))))) (bl wU (c4 (J 1) (J 5) (J 2)))))))) (bU (aZ (a4 (.av false)))) (bU bQ)) (bF (bU (ck 8 (aL 63))) (bF (bU (b8 (aU (aj oEq (aj oMod (aj eY (J 4) (aL 24)) (aL 2)) (aL 1))) (ck 8 (aj oMod (aj eY (J 4) (aL 48)) (aL 64))) bQ)) (gN (iZ E0 (dE (dj (J 0) (c4 (J 6) (J 8) (aj oMod (aj eY (J 4) (aL 3072)) (aL 27))))))))))
def IT:b0:=
  bF (bU (ck 4 (aj oMod (aj eR (aj nT (aj oMod (J 2) (aj pg (aL 10) (aL 40))) (aL 48271)) (aj nT (aj nT (aj eR (J 3) (aL 1)) (aj eR (J 3) (aL 7))) (aL 16807))) (aL 2147483647)))) (bF (bU (ck 5 (aj oMod (aj eR (aj nT (aj oMod (J 2) (aj pg (aL 10) (aL 40))) (aL 69621)) (aj nT (aj nT (aj eR (J 3) (aL 3)) (aj eR (J 3) (aL 5))) (aL 40692))) (aL 2147483629)))) (bF (bU (ck 6 (cF fF (aR (dq (a_ 0 3)))))) Cm))
def E1:dC:=fnX 4 9 IT
def N8:b0:=
  (fA (sI (sJ (iZ E1 (dE (dj (J 4) (c4 (J 3) (aj c0 (J 0) (J 5)) (J 5))))))) (bU (aZ (a4 (.av false)))) (bU bQ))
def N9:aM:=
  (bN (ck 11 (d5 (dj (dk "House" "stand" EV (J 6) (aR (J 10))) (c4 (dk "House" "outcome" ET (J 6) (aR (J 10))) (dk "House" "place" EU (J 6) (aR (J 10))) (dk "House" "knows_over" ES (J 6) (aR (J 10)))))))
  (bN (ck 12 (d5 (dj (dk "Asker" "stand" oZ (aj c0 (dq (J 7)) (J 10)) b') (c4 (dk "Asker" "outcome" wB (aj c0 (dq (J 7)) (J 10)) b') (dk "Asker" "place" r2 (aj c0 (dq (J 7)) (J 10)) b') (dk "Asker" "knows_over" t2 (aj c0 (dq (J 7)) (J 10)) b')))))
  (b8 (eg (aU (bl (hU 15) (bz (J 11) (J 12))))) (aZ (a4 (.av false))) bQ)))
def IL:b0:=
  bF (bU (ck 1 (aj eR (aL 1) (aj oMod (bl o8 (bz (J 0) (aL 0))) (aL 4))))) (bF (bU (ck 2 (bl wV (aR (aj oMod (bl o8 (bz (J 0) (aL 1))) (aj pg (aL 10) (aL 9))))))) (bF (bU (ck 3 (bl zQ (aR (aj oMod (bl o8 (bz (J 0) (aL 2))) (aj pg (aL 10) (aL 20))))))) (bF (sG 4 (xQ (gs (kR "House" zJ (dE (bz (J 2) (J 1)))) (gs (ie (qV 1 [2] (gV (aR (J 1))) (kR "Asker" oX (dE (bz (J 0) (J 1)))))) (gs (ie (c6 (aj w' (d5 (aR (bO b'))) (aL 6)))) (gs (ie (c6 (d5 b'))) ka)))))) (bF (xP 5 (gV (aR (cF fF (aR (p8 (J 0) jQ (kq (aL 40))))))) N8) (bF (bU (s_ [6,7,8,9] (J 4))) (bF (bU (i5 10 (gV (aR (J 1))) N9)) (bF (bU (b8 (fK (aU (aj d7 (dk "House" "record" zM (J 6) b') (dq (J 9)))) (eg (aU (bl (hU 15) (bz (p8 (dk "House" "record" zM (J 6) b') (kq (bg ux (aL 2))) jQ) (p8 (dq (J 9)) (kq (bg ux (aL 2))) jQ)))))) (aZ (a4 (.av false))) bQ)) (bU (aZ (bl (hU 15) (bz (fb 1 [6] (gV (aR (aL 6))) fL (dk "House" "book" ER (J 1) (aR (J 0)))) (dq (J 8)))))))))))))
def EZ:dC:=fnX 1 13 IL
structure RE{P:aly}{w:World}{K:aN}{mg:bp}{base:Heap}(T:Txt P w K mg base)(j:Nat):Prop where
 Xw:cY P w base T.Lf j 1 mm
 Xe:cY P w base T.K1 j 1 qx
 XP:cY P w base T.Lx j 1 lq
 Xx:cY P w base T.Lg j 2 ua
 XQ:cY P w base T.Ly j 3 zS
 W4:cY P w base T.KC j 1 wF
 Xd:cY P w base T.K0 j 2 o5
 Xo:cY P w base T.K9 j 2 wM
 Xs:cY P w base T.Lb j 1 zP
 Xk:cY P w base T.K5 j 2 EX
 Xj:∀n,n+3<=j->eH P w K mg base "is_built" ["thing","deep"] (n+3) (e4 K mg (r5 n))
 XU:∀n,n+2<=j->eH P w K mg base "namings" ["rule"] (n+2) (e4 K mg (mq n))
 Xu:cY P w base T.Ld j 16 wR
 XT:cY P w base T.LB j 15 ud
 W':∀n,n+2<=j->eH P w K mg base "fills" ["rule","mask"] (n+2) (e4 K mg (i' n))
 Xp:cY P w base T.K_ j 3 wN
 XN:cY P w base T.Lv j 16 wW
 Xa:cY P w base T.KX j 1 wL
 X0:cY P w base T.LH j 17 zU
 Xn:cY P w base T.K8 j 18 o6
 XR:cY P w base T.Lz j 16 zT
 XS:cY P w base T.LA j 17 mn
 Xq:cY P w base T.K' j 1 wO
 Xr:cY P w base T.La j 2 wQ
 Xm:cY P w base T.K7 j 3 zO
 Xb:cY P w base T.KY j 1 EW
 Xt:cY P w base T.Lc j 19 o7
 Xl:cY P w base T.K6 j 20 nO
 W7:cY P w base T.KH j 1 Oy
 XM:cY P w base T.Lu j 1 jE
 X1:cY P w base T.LI j 1 o_
 Xv:cY P w base T.Le j 2 ml
 W8:cY P w base T.KI j 1 t5
 W9:cY P w base T.KV j 1 qw
 X5:cY P w base T.LK j 1 zW
 X7:cY P w base T.LL j 1 ug
 XX:cY P w base T.LD j 2 uf
 MR:cY P w base T.KP j 5 wK
 MN:cY P w base T.KJ j 5 wH
 MU:cY P w base T.KS j 5 t9
 XO:cY P w base T.Lw j 2 uc
 XW:cY P w base T.LC j 2 ue
 MV:cY P w base T.KU j 3 t_
 MS:cY P w base T.KQ j 3 t7
 MP:cY P w base T.KN j 3 t6
 MT:cY P w base T.KR j 5 t8
 MQ:cY P w base T.KO j 2 wJ
 MO:cY P w base T.KL j 2 wI
 XY:cY P w base T.LF j 6 fe
 W_:cY P w base T.KW j 7 nN
 W6:cY P w base T.KG j 1 Ox
 X2:cY P w base T.LJ j 1 OB
 W5:cY P w base T.KD j 1 wG
 Xc:cY P w base T.KZ j 1 o4
 Wu:ik P w base T.J4 j 2 oX
 Wv:ik P w base T.J5 j 18 wA
 ML:Bt P w base T.J6 j 21 oY
 Ww:ik P w base T.J7 j 19 qu
 WE:iD P w base T.Kd j 18 zH
 WL:iD P w base T.Kj j 15 wC
 Wy:ik P w base T.J9 j 1 qv
 Wz:ik P w base T.J_ j 18 tY
 WC:ik P w base T.Kb j 19 tZ
 Wx:ik P w base T.J8 j 3 EO
 WH:ik P w base T.Kf j 2 EP
 WA:ik P w base T.J' j 19 r0
 WD:ik P w base T.Kc j 20 r1
 WB:ik P w base T.Ka j 21 iV
 WJ:iD P w base T.Kh j 1 wB
 WI:iD P w base T.Kg j 1 zI
 WM:iD P w base T.Kk j 1 oZ
 WK:iD P w base T.Ki j 1 r2
 WG:iD P w base T.Ke j 1 t2
 XZ:cY P w base T.LG j 1 wX
 Xy:cY P w base T.Lh j 2 EY
 Xg:cY P w base T.K3 j 5 Oz
 Xh:cY P w base T.K4 j 5 OA
 Xf:cY P w base T.K2 j 6 lp
 WN:ik P w base T.Kl j 19 zJ
 WO:iD P w base T.Km j 2 o1
 WX:iD P w base T.Kv j 1 o3
 W3:ik P w base T.KA j 2 t4
 MM:Bt P w base T.Kn j 22 r3
 WQ:ik P w base T.Ko j 20 zK
 WW:iD P w base T.Ku j 2 zL
 WU:ik P w base T.Ks j 7 wD
 WT:ik P w base T.Kr j 22 r4
 WS:ik P w base T.Kq j 23 o2
 W0:iD P w base T.Ky j 1 zM
 WR:iD P w base T.Kp j 1 ER
 WY:iD P w base T.Kw j 3 ET
 W2:iD P w base T.Kz j 3 EV
 WZ:iD P w base T.Kx j 3 EU
 WV:iD P w base T.Kt j 3 ES
 XC:cY P w base T.Lk j 1 o8
 Xz:∀n,n+1<=j->eH P w K mg base "_law_alike" ["found","due"] (n+1) (e4 K mg (hU n))
 XF:cY P w base T.Ln j 1 E2
 XG:cY P w base T.Lo j 2 wV
 XH:cY P w base T.Lp j 1 E3
 XI:cY P w base T.Lq j 2 zQ
 XD:cY P w base T.Ll j 3 wU
 XK:sM P w base T.Ls j 17 o9
 XA:sM P w base T.Li j 24 ub
 XB:sM P w base T.Lj j 25 E0
 XJ:sM P w base T.Lr j 23 zR
 XE:sM P w base T.Lm j 26 E1
 Fx {f:Addr}{fd:ame}(F:kX K "law" "law" xo f fd):27<=j->e6 P w K mg base eC 27 f fd ["script"] (hx K mg EZ)
theorem aw(T:Txt P w K mg base):∀j,RE T j
 |0=>by constructor<;>intros<;>omega
 |j+1=>by
  have a:=aw T j;refine⟨c2 T.Lf rfl ?_,
   c2 T.K1 rfl ?_,
   c2 T.Lx rfl ?_,
   c2 T.Lg rfl ?_,
   c2 T.Ly rfl ?_,
   c2 T.KC rfl ?_,
   c2 T.K0 rfl ?_,
   c2 T.K9 rfl ?_,
   c2 T.Lb rfl ?_,
   c2 T.K5 rfl ?_,
   z7 (λ_=>T.CN.d.none (by rintro vs H Q E ⟨O,ds,r,g,_,_,_,h,_⟩;cases h)) λn e=>(vZ (k:=n+3) T.CN.d T.CN.s rfl rfl λf c A outer s H E b=>hH.un ?_:eH P w K mg base _ _ _ (e4 K mg (fnOf 2 2 (Ir (r5 n))))).mono (by omega),
   z7 (λ_=>T.CQ.d.none (by rintro vs H Q E ⟨O,ds,r,g,_,_,_,h,_⟩;cases h)) λn e=>(vZ (k:=n+2) T.CQ.d T.CQ.s rfl rfl λf c A outer s H E b=>hH.un ?_:eH P w K mg base _ _ _ (e4 K mg (fnOf 1 3 (yt (mq n))))).mono (by omega),
   c2 T.Ld rfl ?_,
   c2 T.LB rfl ?_,
   z7 (λ_=>T.CL.d.none (by rintro vs H Q E ⟨O,ds,r,g,_,_,_,h,_⟩;cases h)) λn e=>(vZ (k:=n+2) T.CL.d T.CL.s rfl rfl λf c A outer s H E b=>hH.un ?_:eH P w K mg base _ _ _ (e4 K mg (fnOf 2 2 (yq (i' n))))).mono (by omega),
   c2 T.K_ rfl ?_,
   c2 T.Lv rfl ?_,
   c2 T.KX rfl ?_,
   c2 T.LH rfl ?_,
   c2 T.K8 rfl ?_,
   c2 T.Lz rfl ?_,
   c2 T.LA rfl ?_,
   c2 T.K' rfl ?_,
   c2 T.La rfl ?_,
   c2 T.K7 rfl ?_,
   c2 T.KY rfl ?_,
   c2 T.Lc rfl ?_,
   c2 T.K6 rfl ?_,
   c2 T.KH rfl ?_,
   c2 T.Lu rfl ?_,
   c2 T.LI rfl ?_,
   c2 T.Le rfl ?_,
   c2 T.KI rfl ?_,
   c2 T.KV rfl ?_,
   c2 T.LK rfl ?_,
   c2 T.LL rfl ?_,
   c2 T.LD rfl ?_,
   c2 T.KP rfl ?_,
   c2 T.KJ rfl ?_,
   c2 T.KS rfl ?_,
   c2 T.Lw rfl ?_,
   c2 T.LC rfl ?_,
   c2 T.KU rfl ?_,
   c2 T.KQ rfl ?_,
   c2 T.KN rfl ?_,
   c2 T.KR rfl ?_,
   c2 T.KO rfl ?_,
   c2 T.KL rfl ?_,
   c2 T.LF rfl λe f c A outer s H E b=>(@n5 _ _ _ _ _ _ ((GS (i:=3) (nQ (by kernel_rfl)) rfl (.inl rfl) (Q2 T.AL rfl (hA hs hp (dR 2) gM)))) (@qU _ _ _ _ ((sF (ag4 (k:=5) (pp:=["slate","asker","deed"]) (lookup_all (by simp only[alT];exact⟨(a.MR (by omega)).mono (by omega),(a.MN (by omega)).mono (by omega),(a.MU (by omega)).mono (by omega),(a.MV (by omega)).mono (by omega),(a.MS (by omega)).mono (by omega),(a.MP (by omega)).mono (by omega),(a.MT (by omega)).mono (by omega),(a.MQ (by omega)).mono (by omega),(a.MO (by omega)).mono (by omega),λ_ h=>nomatch h⟩)) rfl (.inl rfl) (b.mono (by omega)) (eT (dR 0) (eT (dR 1) (eT (dR 2) iX)))))))),
   c2 T.KW rfl ?_,
   c2 T.KG rfl ?_,
   c2 T.LJ rfl ?_,
   c2 T.KD rfl ?_,
   c2 T.KZ rfl ?_,
   iR T.J4 rfl ?_,
   iR T.J5 rfl ?_,
   Mt T.J6 rfl ?_,
   iR T.J7 rfl ?_,
   i8 T.Kd rfl ?_,
   i8 T.Kj rfl ?_,
   iR T.J9 rfl ?_,
   iR T.J_ rfl ?_,
   iR T.Kb rfl ?_,
   iR T.J8 rfl ?_,
   iR T.Kf rfl ?_,
   iR T.J' rfl ?_,
   iR T.Kc rfl ?_,
   iR T.Ka rfl ?_,
   i8 T.Kh rfl ?_,
   i8 T.Kg rfl ?_,
   i8 T.Kk rfl ?_,
   i8 T.Ki rfl ?_,
   i8 T.Ke rfl ?_,
   c2 T.LG rfl ?_,
   c2 T.Lh rfl ?_,
   c2 T.K3 rfl ?_,
   c2 T.K4 rfl ?_,
   c2 T.K2 rfl ?_,
   iR T.Kl rfl ?_,
   i8 T.Km rfl ?_,
   i8 T.Kv rfl ?_,
   iR T.KA rfl ?_,
   Mt T.Kn rfl ?_,
   iR T.Ko rfl ?_,
   i8 T.Ku rfl ?_,
   iR T.Ks rfl ?_,
   iR T.Kr rfl ?_,
   iR T.Kq rfl ?_,
   i8 T.Ky rfl ?_,
   i8 T.Kp rfl ?_,
   i8 T.Kw rfl ?_,
   i8 T.Kz rfl ?_,
   i8 T.Kx rfl ?_,
   i8 T.Kt rfl ?_,
   c2 T.Lk rfl ?_,
   z7 (λ_=>T.CP.d.none (by rintro vs H Q E ⟨O,ds,r,g,_,_,_,h,_⟩;cases h)) λn e=>(vZ (k:=n+1) T.CP.d T.CP.s rfl rfl λf c A outer s H E b=>hH.un ?_:eH P w K mg base _ _ _ (e4 K mg (fnOf 2 3 (Ci (hU n))))).mono (by omega),
   c2 T.Ln rfl ?_,
   c2 T.Lo rfl ?_,
   c2 T.Lp rfl ?_,
   c2 T.Lq rfl ?_,
   c2 T.Ll rfl ?_,
   vP T.Ls rfl ?_,
   vP T.Li rfl ?_,
   vP T.Lj rfl ?_,
   vP T.Lr rfl ?_,
   vP T.Lm rfl ?_,
   λF e=>(Dg (k:=26) F afg rfl rfl λc A outer s H E b=>?_:e6 P w K mg base eC _ _ _ _ (hx K mg (fnX 1 13 IL)))⟩
  all_goals try intro e
  all_goals try intro f c A outer s H E b
  all_goals repeat' first
   |((with_reducible show bb _ _ _);first
    |(with_reducible show bb _ _ (aj w' _ _));refine kP adh Sr ?_ ?_
    |(with_reducible show bb _ _ (J _));exact dR _
    |(with_reducible show bb _ (.BoolOp _ [_] _) _);refine ahh ?_
    |(with_reducible show bb _ _ (aj c0 _ _));refine hA hs hp ?_ ?_ (λ_ _=>rfl)
    |(with_reducible show bb _ _ (bO _));refine pO ?_
    |(with_reducible show bb _ _ (bl _ b'));refine' ag3 ?_ ?_ rfl
    |(with_reducible show bb _ _ (bl _ _));refine' ag2 ?_ ?_ rfl ?_
    |(with_reducible show bb _ _ (a4 (.int _)));first|exact gM|exact kO (qG rfl T.VK) λ_ _=>rfl|exact kO (qG rfl T.VH) λ_ _=>rfl|exact kO (qG rfl T.VG) λ_ _=>rfl|exact kO (qG rfl T.VI) λ_ _=>rfl|exact kO (qG rfl T.VJ) λ_ _=>rfl|exact kO (qG rfl T.VL) λ_ _=>rfl|exact kO (qG rfl T.VM) λ_ _=>rfl
    |(with_reducible show bb _ _ (a4 .aH));exact ahf
    |(with_reducible show bb _ _ (a4 (.av _)));exact ag1
    |(with_reducible show bb _ _ (a4 (.ty "tuple")));exact kO (xh (v:=.ty "tuple") rfl T.B.tuple' vu rfl) λ_ _=>rfl
    |(with_reducible show bb _ _ (a4 (.ty "bool")));exact kO (xh (v:=.ty "bool") rfl T.B.TR T3 rfl) λ_ _=>rfl
    |(with_reducible show bb _ _ (a4 (.ty "str")));exact kO (xh (v:=.ty "str") rfl T.B.afI T9 rfl) λ_ _=>rfl
    |(with_reducible show bb _ _ (a4 (.ty "int")));exact kO (xh (v:=.ty "int") rfl T.B.Zv T4 rfl) λ_ _=>rfl
    |(with_reducible show bb _ _ (a4 (.ty "list")));exact kO (xh (v:=.ty "list") rfl T.B.EG Cu rfl) λ_ _=>rfl
    |(with_reducible show bb _ _ (a4 (.str _)));first|exact Q1|exact kO (qG rfl T.VN) λ_ _=>rfl
    |(with_reducible show bb _ _ (aj eR _ _));refine kP ac3 Sh ?_ ?_
    |(with_reducible show bb _ _ (aj oMod _ _));refine kP adb So ?_ ?_
    |(with_reducible show bb _ _ (aj eY _ _));refine kP ac7 Sm ?_ ?_
    |(with_reducible show bb _ _ (aj w_ _ _));refine kP ac6 Sk ?_ ?_
    |(with_reducible show bb _ _ (aj pe _ _));refine kP ac4 Sl ?_ ?_
    |(with_reducible show bb _ _ (aj pg _ _));refine kP adg Sq ?_ ?_
    |(with_reducible show bb _ _ (aj ph _ _));refine kP adk Sv ?_ ?_
    |(with_reducible show bb _ _ (aj nT _ _));refine kP ade Sp ?_ ?_
    |(with_reducible show bb _ _ (aj w9 _ _));refine kP ac5 Si ?_ ?_
    |(with_reducible show bb _ _ (aj uu _ _));refine kP adf Sj ?_ ?_
    |(with_reducible show bb _ _ (aj Fj _ _));refine kP adi Ss ?_ ?_
    |(with_reducible show bb _ _ (aj Af _ _));refine kP adj Su ?_ ?_
    |(with_reducible show bb _ _ (aj oEq _ _));refine pN (Fz b.units) B0 ?_ ?_ (iy _)
    |(with_reducible show bb _ _ (aj ja _ _));refine pN Pf HN ?_ ?_ (iy _)
    |(with_reducible show bb _ _ (aj j4 _ _));refine pN Pg HO ?_ ?_ (iy _)
    |(with_reducible show bb _ _ (aj uw _ _));refine pN Pc HK ?_ ?_ (iy _)
    |(with_reducible show bb _ _ (aj oLt _ _));refine pN FA B1 ?_ ?_ (iy _)
    |(with_reducible show bb _ _ (aj (kG false) _ _));refine pN Pd (HL false) ?_ ?_ rfl
    |(with_reducible show bb _ _ (aj (sb false) _ _));refine pN Pe HM ?_ ?_ rfl
    |(with_reducible show bb _ _ (cF fF _));refine sD Uj ZV rfl T.B.len JE ?_
    |(with_reducible show bb _ _ (cF hb _));refine sD (Ui T.kt) ZU rfl T.B.isinstance T5 ?_
    |(with_reducible show bb _ _ (cF oB _));refine sD (Ug rfl) ZS rfl T.B.all T1 ?_
    |(with_reducible show bb _ _ (cF (vK _) _));refine sD (Um rfl) ZQ rfl T.B.max T6 ?_
    |(with_reducible show bb _ _ (cF vL _));refine sD Ue ZR rfl T.B.abs TZ ?_
    |(with_reducible show bb _ _ (cF nh _));refine sD Uk ZW rfl T.B.len JE ?_
    |(with_reducible show bb _ _ (cF qg _));refine xN yC zp rfl T.B.tuple' vu ?_
    |(with_reducible show bb _ _ (d5 _));refine aha ?_
    |(with_reducible show bb _ _ (jP _ _));refine agZ ?_ ?_
    |(with_reducible show bb _ _ (vy _));refine ahg ?_
    |(with_reducible show bb _ _ (bg oBits _));refine ag0 ?_
    |(with_reducible show bb _ _ (fb _ _ _ _ _));refine ag6 (vC (xs:=[_]) (by kernel_rfl)) (by decide) ?_ rfl (λ_ _ _ _=>⟨amK rfl,rfl⟩) (λ_ _ _ _=>?_) (λ_ _ _ _=>?_) (he:=rfl) (hN:=rfl)
    |(with_reducible show bb _ _ (vw _ _ _ _));refine ag7 (vC (xs:=[_,_]) (by kernel_rfl)) rfl T.B.zip ?_ rfl rfl (λ_ _ _ _=>⟨amK rfl,rfl⟩) (λ_ _ _ _=>⟨amK rfl,rfl⟩) (λ_ _ _ _=>?_) (λ_ _ _ _=>?_) (he:=rfl) (hN:=rfl)
    |(with_reducible show bb _ _ (p8 _ _ _));refine ahi ?_ ?_ ?_
    |(with_reducible show bb _ _ (Cy _ _ _));refine ahk ?_ ?_ ?_
    |(with_reducible show bb _ _ (Cz _ _));refine Q2 T.AL rfl ?_
    |(with_reducible show bb _ _ (CA _ _));refine ahm T.Ej rfl ?_
    |(with_reducible show bb _ _ (aj d7 _ _));refine pN (uB b.units) s7 ?_ ?_ (iy _)
    |(with_reducible show bb _ _ (bg ux _));refine ahe ?_
    |(with_reducible show bb _ _ (cF vN _));refine xN Ul ZX rfl T.B.EG Cu ?_
    |(with_reducible show bb _ _ (bg (bX "Asker" _) _));refine Q0 T.oo (by simp[Ab]) ?_
    |(with_reducible show bb _ _ (bg (bX "House" _) _));refine Q0 T.oq (by simp[Ac]) ?_
    |(with_reducible show bb _ _ (dq _));refine ag9 ?_
    |(with_reducible show bb _ _ (dk _ _ _ _ b'));refine' ahd ?_ ?_ ?_
    |(with_reducible show bb _ _ (dk _ _ _ _ _));refine' ahc ?_ ?_ ?_ ?_
    |(with_reducible show bb _ _ (aj oLe _ _));refine pN sf rg ?_ ?_ (iy _)
    |(with_reducible show bb _ _ (cF vM _));refine sD (Uh rfl) ZT rfl T.B.any T2 ?_
    |(with_reducible show bb _ _ (s9 _ _ _));refine ahj ?_ ?_ ?_
    |(with_reducible show bb _ _ (e' oLe oLe _ _ _));refine ag5 sf rg sf rg ?_ ?_ ?_
    |(with_reducible show bb _ _ (vx _));refine ag8 rfl rfl T.B.EG rfl T.B.range ?_
    |(with_reducible show bb _ _ (Cx rB _ _));refine ahl PySem.F.slot_str_find PySem.F.type_str_find abc TL adn ?_ ?_)
   |((with_reducible show gw _ _ _);first
    |(with_reducible show gw _ _ (b'));exact iX
    |(with_reducible show gw _ _ (dj _ _));refine eT ?_ ?_)
   |((with_reducible show fE _ _ _);first
    |(show fE _ _ (aZ _));refine sF ?_
    |(show fE _ _ (ck _ (fb _ _ _ _ _)));refine ahz (vC (xs:=[_]) (by kernel_rfl)) (nQ (by kernel_rfl)) rfl rfl (by decide) ?_ rfl (λ_ _ _ _=>⟨amK rfl,rfl⟩) (λ_ _ _ _=>?_) (λ_ _ _ _=>?_) (he:=rfl) (hN:=rfl)
    |(show fE _ _ (ck _ _));refine GS (nQ (by kernel_rfl)) rfl (by first|exact amK rfl|exact al3 rfl|exact al3 (.inl rfl)|exact al3 (al3 rfl)) ?_
    |(show fE _ _ (b8 _ _ _));refine GR ?_ ?_ ?_
    |(show fE _ _ (nc _ (fb _ _ _ _ _)));refine A5 (vC (xs:=[_]) (by kernel_rfl)) (nQ (by kernel_rfl)) rfl rfl (by decide) ?_ rfl (λ_ _ _ _=>⟨amK rfl,rfl⟩) (λ_ _ _ _=>?_) (λ_ _ _ _=>?_) (he:=rfl) (hN:=rfl)
    |(show fE _ _ (nc _ _));refine ahC (nQ (by kernel_rfl)) rfl (by first|exact amK rfl|exact al3 rfl|exact al3 (.inl rfl)|exact al3 (al3 rfl)) ?_
    |(show fE _ _ (i5 _ _ _));refine ahA aos rfl ?_ (nQ (by kernel_rfl)) rfl (by first|exact amK rfl|exact al3 rfl|exact al3 (.inl rfl)|exact al3 (al3 rfl)) ?_
    |(show fE _ _ (s_ _ _));refine ahE rfl ?_ ?_
    |(show fE _ _ (ri _ kM _));refine xO amS amT uk wy ?_ rfl (by first|exact amK rfl|exact al3 rfl|exact al3 (.inl rfl)|exact al3 (al3 rfl))
    |(show fE _ _ (ri _ xH _));refine xO apc apd abb aaU ?_ rfl (by first|exact amK rfl|exact al3 rfl|exact al3 (.inl rfl)|exact al3 (al3 rfl))
    |(show fE _ _ (yB _));exact ahD _
    |(show fE _ _ (om));exact ahB
    |(show fE _ _ (vz _ _));refine ahF aos ?_ ?_)
   |((with_reducible show fo _ _ _);first
    |(with_reducible show fo _ _ (aU (aj oEq _ _)));refine iY (Fz b.units) B0 ?_ ?_ (iy _)
    |(with_reducible show fo _ _ (aU (aj d7 _ _)));refine iY (uB b.units) s7 ?_ ?_ (iy _)
    |(with_reducible show fo _ _ (aU (aj ja _ _)));refine iY Pf HN ?_ ?_ (iy _)
    |(with_reducible show fo _ _ (aU (aj j4 _ _)));refine iY Pg HO ?_ ?_ (iy _)
    |(with_reducible show fo _ _ (aU (aj uw _ _)));refine iY Pc HK ?_ ?_ (iy _)
    |(with_reducible show fo _ _ (aU (aj qE _ _)));refine iY ac8 Sn ?_ ?_ (iy _)
    |(with_reducible show fo _ _ (aU (aj oLt _ _)));refine iY FA B1 ?_ ?_ (iy _)
    |(with_reducible show fo _ _ (aU (aj oLe _ _)));refine iY sf rg ?_ ?_ (iy _)
    |(with_reducible show fo _ _ (aU (aj (kG false) _ _)));refine iY Pd (HL false) ?_ ?_ rfl
    |(with_reducible show fo _ _ (aU (aj (sb false) _ _)));refine iY Pe HM ?_ ?_ rfl
    |(with_reducible show fo _ _ (aU (e' oLe oLe _ _ _)));refine Q9 sf rg sf rg ?_ ?_ ?_
    |(with_reducible show fo _ _ (aU (e' oLe oLt _ _ _)));refine Q9 sf rg FA B1 ?_ ?_ ?_
    |(with_reducible show fo _ _ (aU (aj (uv _) _ _)));first|refine iY (ac9 b.units) HJ ?_ ?_ (iy _)|refine iY (ada b.units) HJ ?_ ?_ (iy _)
    |(with_reducible show fo _ _ (aU _));refine ahH ?_
    |(with_reducible show fo _ _ (eg _));refine ahG ?_
    |refine k3.cz ?_)
   |((with_reducible show k3 _ _ _);first
    |(with_reducible show k3 _ _ (fK _ _));refine ahK ?_ ?_
    |(with_reducible show k3 _ _ (hX _ _));refine ahI ?_ ?_
    |first|refine ahL ?_|refine ahJ ?_)
   |((with_reducible show eV _ _ _);first
    |(with_reducible show eV _ (.Call (.Attribute _ _ _) [_] [] _) (dF _ _ _ _ (dE (dj _ (dj _ _)))));refine' ah7 (a.MM (by omega)) ?_ ?_ ?_
    |(with_reducible show eV _ _ (c6 _));refine ah9 ?_
    |(with_reducible show eV _ (.Call (.Attribute _ _ _) [] [] _) (dF _ _ _ _ (dE _)));refine' ah6 (a.ML (by omega)) ?_ ?_
    |(with_reducible show eV _ _ (ie _));refine ah8 ?_
    |(with_reducible show eV _ _ (dF _ _ _ _ ka));refine' ah5 ?_ ?_ ?_
    |(with_reducible show eV _ _ (dF _ _ _ _ _));refine' ah4 ?_ ?_ ?_ ?_
    |(with_reducible show eV _ _ (iZ _ _));refine' ah2 ?_ ?_ rfl ?_
    |(with_reducible show eV _ _ (kR "Asker" _ _));refine' Rj T.oo ?_ ?_ rfl ?_
    |(with_reducible show eV _ _ (kR "House" _ _));refine' Rj T.oq ?_ ?_ rfl ?_
    |(with_reducible show eV _ _ (xQ _));refine aia ?_
    |(with_reducible show eV _ _ (qV _ _ _ _));refine ah3 (vC (xs:=[_]) (by kernel_rfl)) (by decide) ?_ rfl (λ_ _ _ _=>⟨amK rfl,rfl⟩) (λ_ _ _ _=>?_) (he:=rfl) (hN:=rfl))
   |((with_reducible show jN _ _ _);first
    |(with_reducible show jN _ _ (gd _));refine aip ?_
    |(with_reducible show jN _ _ (sJ _));refine aiq ?_
    |(with_reducible show jN _ _ (sI _));refine aio ?_
    |(with_reducible show jN _ _ (xU _ _));refine sX.t (air ?_ (ais ?_)))
   |((with_reducible show jM _ _ _);first
    |(with_reducible show jM _ _ (dE _));refine ah1 ?_
    |(with_reducible show jM _ _ (ka));exact ah0
    |(with_reducible show jM _ _ (gs _ _));refine ahY ?_ ?_
    |(with_reducible show jM _ _ (kQ _ _));refine ahZ ?_ ?_)
   |((with_reducible show fW _ _ _);first
    |(show fW _ _ (bU _));refine aih ?_
    |(show fW _ _ (sG _ _));refine aij (nQ (by kernel_rfl)) rfl (by first|exact amK rfl|exact al3 rfl|exact al3 (.inl rfl)|exact al3 (al3 rfl)) ?_
    |(show fW _ _ (fA _ _ _));refine aie ?_ ?_ ?_
    |(show fW _ _ (gN _));refine aii ?_
    |(show fW _ _ (lE _));refine aic ?_
    |(show fW _ _ (dU "Asker" _ _ _));refine Rk T.oo (by simp[Ab]) ?_ ?_
    |(show fW _ _ (dU "House" _ _ _));refine Rk T.oq (by simp[Ac]) ?_ ?_
    |(show fW _ _ (mI kM _ _));refine Rl amS amT uk wy ?_ ?_
    |(show fW _ _ (xP _ _ _));refine aid aos rfl ?_ (nQ (by kernel_rfl)) rfl (by first|exact amK rfl|exact al3 rfl|exact al3 (.inl rfl)|exact al3 (al3 rfl)) ?_
    |(show fW _ _ (A7 _ _ _ _));refine aik rfl (nQ (by kernel_rfl)) rfl (by first|exact amK rfl|exact al3 rfl|exact al3 (.inl rfl)|exact al3 (al3 rfl)) ?_ ?_ ?_
    |(show fW _ _ (A6 _ _ _));refine aif ?_ ?_ ?_
    |(show fW _ _ (A8 _ _));refine ail aos ?_ ?_
    |(show fW _ _ (mI uZ _ _));refine Rl apc apd aba aaT ?_ ?_)
   |((with_reducible show hH _ _ _);first|exact GU|refine qU ?_|refine n5 ?_ ?_)
   |((with_reducible show ir _ _ _);first|((show ir _ _ (bF _ _));refine aim ?_ ?_)|((with_reducible show ir _ [] _);refine Rm ?_)|refine ain ?_|refine Rm ?_)
   |((with_reducible show rb _ _ _);first|exact ahr|refine A1 ?_)
   |((with_reducible show o _ _ _ _);first|exact C|refine I (by first|exact T.ak1|exact T.ak2|exact T.ak0) rfl rfl L ?_ (eT Q1 iX) ?_)
   |((with_reducible show cB _ _);exact b.mono (by omega))
   |((with_reducible show eH _ _ _ _ _ _ _ _ _);first|exact(a.Xw (by omega))|exact(a.Xe (by omega))|exact(a.XP (by omega))|exact(a.Xx (by omega))|exact(a.XQ (by omega))|exact Xi T|exact(a.W4 (by omega))|exact(a.Xd (by omega))|exact(a.Xo (by omega))|exact(a.Xs (by omega))|exact(a.Xk (by omega))|exact a.Xj _ (by omega)|exact a.XU _ (by omega)|exact(a.Xu (by omega))|exact(a.XT (by omega))|exact a.W' _ (by omega)|exact(a.Xp (by omega))|exact(a.XN (by omega))|exact(a.Xa (by omega))|exact(a.X0 (by omega))|exact(a.Xn (by omega))|exact(a.XR (by omega))|exact(a.XS (by omega))|exact(a.Xq (by omega))|exact(a.Xr (by omega))|exact(a.Xm (by omega))|exact(a.Xb (by omega))|exact(a.Xt (by omega))|exact(a.Xl (by omega))|exact(a.W7 (by omega))|exact(a.XM (by omega))|exact(a.X1 (by omega))|exact(a.Xv (by omega))|exact(a.W8 (by omega))|exact X3 T|exact(a.W9 (by omega))|exact X4 T|exact(a.X5 (by omega))|exact(a.X7 (by omega))|exact(a.XX (by omega))|exact(a.MR (by omega))|exact(a.MN (by omega))|exact(a.MU (by omega))|exact(a.XO (by omega))|exact(a.XW (by omega))|exact(a.MV (by omega))|exact(a.MS (by omega))|exact(a.MP (by omega))|exact(a.MT (by omega))|exact(a.MQ (by omega))|exact(a.MO (by omega))|exact(a.XY (by omega))|exact(a.W_ (by omega))|exact(a.W6 (by omega))|exact(a.X2 (by omega))|exact(a.W5 (by omega))|exact(a.Xc (by omega))|exact(a.XZ (by omega))|exact X6 T|exact(a.Xy (by omega))|exact(a.Xg (by omega))|exact(a.Xh (by omega))|exact(a.Xf (by omega))|exact(a.XC (by omega))|exact a.Xz _ (by omega)|exact(a.XF (by omega))|exact(a.XG (by omega))|exact(a.XH (by omega))|exact(a.XI (by omega))|exact(a.XD (by omega))|exact(a.XK (by omega))|exact(a.XA (by omega))|exact(a.XB (by omega))|exact(a.XJ (by omega))|exact(a.XE (by omega)))
   |((with_reducible show kh _ _ _ _ _ _ _ _ _ _);first|exact(a.Wu (by omega))|exact(a.Wv (by omega))|exact(a.ML (by omega)).all|exact(a.Ww (by omega))|exact(a.WE (by omega))|exact(a.WL (by omega))|exact(a.Wy (by omega))|exact(a.Wz (by omega))|exact(a.WC (by omega))|exact(a.Wx (by omega))|exact(a.WH (by omega))|exact(a.WA (by omega))|exact(a.WD (by omega))|exact(a.WB (by omega))|exact(a.WJ (by omega))|exact(a.WI (by omega))|exact(a.WM (by omega))|exact(a.WK (by omega))|exact(a.WG (by omega))|exact(a.WN (by omega))|exact(a.WO (by omega))|exact(a.WX (by omega))|exact(a.W3 (by omega))|exact(a.MM (by omega)).all|exact(a.WQ (by omega))|exact(a.WW (by omega))|exact(a.WU (by omega))|exact(a.WT (by omega))|exact(a.WS (by omega))|exact(a.W0 (by omega))|exact(a.WR (by omega))|exact(a.WY (by omega))|exact(a.W2 (by omega))|exact(a.WZ (by omega))|exact(a.WV (by omega)))
   |(first|exact Pz|refine FO (nQ (by kernel_rfl)) rfl (by first|exact amK rfl|exact al3 rfl|exact al3 (.inl rfl)|exact al3 (al3 rfl)) ?_|refine agU ?_|refine A0 ?_|refine agV rfl T.B.range ?_|refine agW ?_|refine ahn ?_|refine ahq ?_|refine aho rfl T.B.range ?_|refine ahp rfl T.B.range ?_|refine aib rfl T.B.range ?_|exact ahx|refine ahy ?_)
def Fx(T:Txt P w K mg base)(F:kX K "law" "law" xo f fd):e6 P w K mg base eC 27 f fd ["script"] (hx K mg EZ):=(aw T 27).Fx F (alf _)
end
end dW
set_option maxHeartbeats 1000000
namespace aC
open PySem PySem.Spec aA
@[simp] theorem ai0{x y:R}:w_ x y=match x.own,y.own with
 |some xs,some ys=>if xs.length+ys.length<=ald then pure (.fr (xs++ys))else bad|_,_=>bad:=rfl
@[simp] theorem akS{i j:Int}(a:0<j)(b:j<10 ^ 200):pW i j:=CU a b
def HH{α:Type}{xs:List α}{i:Int}{v:α}(h:d4 xs i=some v):v∈xs:=by
 obtain⟨j,_,e,_⟩:=yo h;exact alF e
def BX{α:Type}{xs:List α}{i:Int}(a:0<=i)(b:i<xs.length):∃v,d4 xs i=some v:=by
 have hl:i.toNat<xs.length:=by omega
 refine⟨xs[i.toNat],?_⟩;have:=hI (xs:=xs) i.toNat (v:=xs[i.toNat]) (by simp[hl])
 rwa[Int.toNat_of_nonneg a]at this
end aC
namespace i2
inductive a8 where
 |kp (k:Nat)
 |ch (k:Nat) (ps:List a8)
mutual
def a8.names:a8->List Nat
 |.kp k=>[k]
 |.ch _ ps=>a8.eX ps
def a8.eX:List a8->List Nat
 |[]=>[]
 |r::rs=>r.names++a8.eX rs
end
mutual
def a8.deep:a8->Nat
 |.kp _=>0|.ch _ ps=>a8.lW ps+1
def a8.lW:List a8->Nat
 |[]=>0|r::rs=>max r.deep (a8.lW rs)
end
mutual
def a8.wf:a8->Prop
 |.kp k=>k<6|.ch k ps=>1<=k/\k<=ps.length/\ps.length<=6/\a8.n4 ps
def a8.n4:List a8->Prop
 |[]=>True|r::rs=>r.wf/\a8.n4 rs
end
mutual
def a8.fills(p:Nat->Bool):a8->Bool
 |.kp k=>p k|.ch k ps=>decide (k<=a8.cnt p ps)
def a8.cnt(p:Nat->Bool):List a8->Nat
 |[]=>0|r::rs=>(if r.fills p then 1 else 0)+a8.cnt p rs
end
theorem u3:∀{ps:List a8},a8.n4 ps↔∀r∈ps,r.wf
 |[]=>by simp[a8.n4]| r::rs=>by simp[a8.n4,u3]
theorem qb:∀{ps:List a8}{n:Nat},a8.lW ps<n->∀r∈ps,r.deep<n
 |r::rs,n,h,x,o=>by
  simp only[a8.lW]at h;rcases alj.mp o with rfl|o
  .omega
  .exact qb (ps:=rs) (by omega) x o
theorem CG(p:Nat->Bool):∀ps:List a8,(ps.filter (a8.fills p)).length=a8.cnt p ps
 |[]=>rfl|r::rs=>by
  rw[aog];simp only[a8.cnt]
  cases h:r.fills p with
  |true=>simp[CG p rs];omega|false=>simp[CG p rs]
mutual
theorem Mg{p q:Nat->Bool}(h:∀k,p k=true->q k=true):∀r:a8,r.fills p=true->r.fills q=true
 |.kp k,e=>by simp only[a8.fills]at e ⊢;exact h k e|.ch k ps,e=>by
  simp only[a8.fills,decide_eq_true_eq]at e ⊢;exact alR e (JU h ps)
theorem JU{p q:Nat->Bool}(h:∀k,p k=true->q k=true):∀ps:List a8,a8.cnt p ps<=a8.cnt q ps
 |[]=>alf _|r::rs=>by
  simp only[a8.cnt];have a:=Mg h r;have b:=JU h rs
  cases e:r.fills p with
  |true=>rw[a e];simp;omega|false=>simp only[anU,if_false];split<;>omega
end
mutual
theorem Mh:∀r:a8,r.wf->r.fills (λ_=>false)=false
 |.kp _,_=>by simp[a8.fills]|.ch k ps,h=>by
  simp only[a8.wf]at h;simp only[a8.fills,cnt_none ps h.2.2.2];exact decide_eq_false (by omega)
theorem cnt_none:∀ps:List a8,a8.n4 ps->a8.cnt (λ_=>false) ps=0
 |[],_=>rfl|r::rs,h=>by
  simp only[a8.n4]at h;simp only[a8.cnt,Mh r h.1,cnt_none rs h.2];rfl
end
mutual
theorem qB:∀r:a8,r.wf->∀k∈r.names,k<6
 |.kp k,h,x,o=>by simp only[a8.names,alB]at o;simp only[a8.wf]at h;omega| .ch k ps,h,x,o=>by simp only[a8.wf]at h;exact OL ps h.2.2.2 x (by simpa only[a8.names]using o)
theorem OL:∀ps:List a8,a8.n4 ps->∀k∈a8.eX ps,k<6
 |[],_,x,o=>by simp[a8.eX]at o|r::rs,h,x,o=>by
  simp only[a8.n4]at h;simp only[a8.eX,al6]at o;rcases o with o|o
  .exact qB r h.1 x o
  .exact OL rs h.2 x o
end
theorem w3:∀ps a:List a8,a8.eX (ps++a)=a8.eX ps++a8.eX a
 |[],_=>rfl|r::rs,a=>by
  show r.names++a8.eX (rs++a)=(r.names++a8.eX rs)++a8.eX a;rw[w3 rs a,am6]
end i2
namespace aC
open PySem PySem.Spec aA i2
mutual
def enc:a8->D
 |.kp k=>.int (k:Nat)|.ch k ps=>.t [.int (k:Nat),.t (encL ps)]
def encL:List a8->List D
 |[]=>[]
 |r::rs=>enc r::encL rs
end
theorem L4:∀ps:List a8,encL ps=ps.map enc
 |[]=>rfl| r::rs=>by rw[alv,<-L4 rs];rfl
def rz(k:Nat)(ps:List a8):enc (.ch k ps)=.t [.int (k:Nat),.t (ps.map enc)]:=by rw[<-L4];rfl
def yQ(k:Nat):enc (.kp k)=.int (k:Nat):=rfl
@[simp] theorem akU(r:a8):b7 (enc r)=.v (enc r):=by cases r<;>rfl
def UM{α:Type}(xs:List α)(k:Nat):cutD xs (some (k:Int)) none=xs.drop k:=by
 unfold cutD;rw[c7.Ax,c7.Ay]
 by_cases h:k<=xs.length
 .rw[anN h]
  exact amr (by rw[amb];omega)
 .rw[Nat.min_eq_right (by omega),apq (alf _),apq (by omega),apz]
def CK{α:Type}(xs:List α)(k:Nat):cutD xs none (some (k:Int))=xs.take k:=by
 unfold cutD;rw[c7.Ax,c7.Ay,aoB,Nat.sub_zero]
 by_cases h:k<=xs.length
 .rw[anN h]
 .rw[Nat.min_eq_right (by omega),amr (alf _),amr (by omega)]
end aC
namespace gh
def cE(m k:Nat):Bool:=m / 2 ^ k % 2==1
def fx(m:Nat):List Nat:=(alD (if m==0 then 0 else m.log2+1)).filter (cE m)
def s6(b:Bool)(n:Nat):Nat:=if b then n else 0
def uj(e b a d c f:Bool):Nat:=s6 e 1+s6 b 2+s6 a 4+s6 d 8+s6 c 16+s6 f 32
def kE(p:Nat->Bool):Nat:=uj (p 0) (p 1) (p 2) (p 3) (p 4) (p 5)
def aa8(p:Nat->Bool)(k:Nat)(g:k<6):kE p ||| 2 ^ k=kE λj=>p j||j==k:=by
 have all:∀e b a d c f:Bool,∀k:Fin 6,uj e b a d c f ||| 2 ^ k.val=uj (e||0==k.val) (b||1==k.val) (a||2==k.val) (d||3==k.val) (c||4==k.val) (f||5==k.val):=by decide +kernel
 exact all (p 0) (p 1) (p 2) (p 3) (p 4) (p 5) ⟨k,g⟩
def z4(p:Nat->Bool)(k:Nat)(h:k<6):(kE p / 2 ^ k % 2==1)=p k:=by
 have all:∀f b a d c g:Bool,∀k:Fin 6,(uj f b a d c g / 2 ^ k.val % 2==1)=[f,b,a,d,c,g].getD k.val false:=by decide +kernel
 have e:=all (p 0) (p 1) (p 2) (p 3) (p 4) (p 5) ⟨k,h⟩;rw[show kE p=uj (p 0) (p 1) (p 2) (p 3) (p 4) (p 5)from rfl,e];have:k=0\/k=1\/k=2\/k=3\/k=4\/k=5:=by omega
 rcases this with rfl|rfl|rfl|rfl|rfl|rfl<;>rfl
def E9(p:Nat->Bool):kE p<64:=by
 have all:∀e b a d c f:Bool,uj e b a d c f<64:=by decide +kernel
 exact all _ _ _ _ _ _
def bits(m:Nat):Nat:=if m==0 then 0 else m.log2+1
def maskOf(ns:List Nat):Nat:=ns.foldl (λm k=>m ||| 2 ^ k) 0
theorem OE:∀(ns:List Nat)(p:Nat->Bool),(∀n∈ns,n<6)->ns.foldl (λm k=>m ||| 2 ^ k) (kE p)=kE λj=>p j||ns.contains j
 |[],p,_=>by simp|n::r,p,h=>by
  rw[api,aa8 p n (h n alo),OE r _ λx a=>h x (alh _ a)]
  congr 1
  funext j
  rw[List.contains_cons,Bool.or_assoc]
def zY(ns:List Nat)(h:∀n∈ns,n<6):maskOf ns=kE λj=>ns.contains j:=by
 have e:=OE ns (λ_=>false) h;have z:kE (λ_=>false)=0:=rfl;rw[z]at e;show ns.foldl (λm k=>m ||| 2 ^ k) 0=_;rw[e];simp
end gh
namespace jj
open gh i2
def sub(x m:Nat):Bool:=(alD 6).all λk=>!cE x k||cE m k
def within(a:List Nat):List Nat:=a.foldl (λms k=>ms++ms.map (· + 2 ^ k)) [0]
def ahw:∀M:Fin 64,within (fx M.val)=(alD 64).filter λx=>sub x M.val:=by decide +kernel
def filling(r:a8)(M:Nat):List Nat:=(within (fx M)).filter λm=>r.fills (cE m)
def tI(a:List Nat)(m:Nat):Bool:=!((fx m).any λk=>a.contains (m-2 ^ k))
def least(r:a8):List Nat:=(filling r (maskOf r.names)).filter (tI (filling r (maskOf r.names)))
def yu(hm:m<64)(a:6<=k):cE m k=false:=by
 unfold cE;have b:64<=2 ^ k:=alR (show 64<=2 ^ 6 by decide) (aot (by decide) a);rw[Nat.div_eq_of_lt (by omega)];rfl
def AF(b:x<64):sub x m=true↔∀k,cE x k=true->cE m k=true:=by
 unfold sub;rw[alW];constructor
 .intro h k a
  by_cases c:k<6
  .have:=h k (alZ.mpr c)
   rw[a]at this;simpa using this
  .rw[yu b (by omega)]at a;cases a
 .intro h k _
  cases e:cE x k with
  |false=>rfl|true=>rw[h k e];rfl
def E7(a:x<64):k∈fx x↔k<6/\cE x k=true:=by
 have all:∀x:Fin 64,fx x.val=(alD 6).filter (cE x.val):=by decide +kernel
 rw[all ⟨x,a⟩,amk,alZ]
def LX(c:x<64)(d:k<6)(h:cE x k=true):x-2 ^ k<x/\∀j,cE (x-2 ^ k) j=true->cE x j=true:=by
 have all:∀x:Fin 64,∀k:Fin 6,cE x.val k.val=true->x.val-2 ^ k.val<x.val/\sub (x.val-2 ^ k.val) x.val=true:=by decide +kernel
 obtain⟨a,b⟩:=all ⟨x,c⟩ ⟨k,d⟩ h;exact⟨a,(AF (by have:x-2 ^ k<x:=a;omega)).mp b⟩
def z0{r:a8}{M x:Nat}(d:M<64):x∈filling r M↔x<64/\sub x M=true/\r.fills (cE x)=true:=by
 unfold filling;rw[ahw ⟨M,d⟩,amk,amk,alZ];constructor
 .rintro⟨⟨a,b⟩,c⟩;exact⟨a,b,c⟩
 .rintro⟨a,b,c⟩;exact⟨⟨a,b⟩,c⟩
def zZ(r:a8)(h:r.wf):maskOf r.names<64:=by
 rw[zY r.names (qB r h)];exact E9 _
def aa1(r:a8)(h:r.wf)(a:k∈r.names):cE (maskOf r.names) k=true:=by
 rw[zY r.names (qB r h)];have:=z4 (λj=>r.names.contains j) k (qB r h k a);unfold cE;rw[this];simpa using a
def zC(r:a8)(h:r.wf)(a:x∈least r):x<64/\r.fills (cE x)=true/\sub x (maskOf r.names)=true:=by
 have:=(amk.mp a).1;rw[z0 (zZ r h)]at this;exact⟨this.1,this.2.2,this.2.1⟩
def aaB(r:a8)(h:r.wf):∀(n x:Nat),x<=n->x<64->sub x (maskOf r.names)=true->r.fills (cE x)=true->∃y∈least r,∀j,cE y j=true->cE x j=true:=by
 intro n
 induction n with
 |zero=>
  intro x s a d b;have:x=0:=by omega
  subst this;exfalso;have e:cE 0=λ_=>false:=by funext j;unfold cE;rw[Nat.zero_div];rfl
  rw[e,Mh r h]at b;cases b
 |succ n q=>
  intro x s a d b;have i:x∈filling r (maskOf r.names):=(z0 (zZ r h)).mpr ⟨a,d,b⟩
  cases hl:tI (filling r (maskOf r.names)) x with
  |true=>exact⟨x,amk.mpr ⟨i,hl⟩,λ_ c=>c⟩|false=>
   unfold tI at hl;have g:((fx x).any λk=>(filling r (maskOf r.names)).contains (x-2 ^ k))=true:=by simpa using hl
   obtain⟨k,t,B⟩:=aoe.mp g;obtain⟨D,m⟩:=(E7 a).mp t;obtain⟨E,u⟩:=LX a D m;have l:x-2 ^ k∈filling r (maskOf r.names):=by simpa using B
   obtain⟨w,z,A⟩:=(z0 (zZ r h)).mp l;obtain⟨y,p,f⟩:=q (x-2 ^ k) (by omega) w z A;exact⟨y,p,λj c=>u j (f j c)⟩
mutual
theorem Mf{p q:Nat->Bool}:∀r:a8,(∀k∈r.names,p k=q k)->r.fills p=r.fills q
 |.kp k,h=>by simp only[a8.fills];exact h k (by simp[a8.names])| .ch k ps,h=>by simp only[a8.fills];rw[JS ps λk a=>h k (by simpa[a8.names]using a)]
theorem JS{p q:Nat->Bool}:∀ps:List a8,(∀k∈a8.eX ps,p k=q k)->a8.cnt p ps=a8.cnt q ps
 |[],_=>rfl|r::rs,h=>by
  simp only[a8.cnt];rw[Mf r λk a=>h k (by simp[a8.eX,a]),JS rs λk a=>h k (by simp[a8.eX,a])]
end
def akE(r:a8)(h:r.wf)(hm:m<64):r.fills (cE m)=(least r).any fun x=>sub x m:=by
 cases e:r.fills (cE m)with
 |true=>
  symm;rw[aoe];have c:∀k,k<6->(kE (λj=>cE m j&&cE (maskOf r.names) j) / 2 ^ k % 2==1)=(cE m k&&cE (maskOf r.names) k):=λk a=>z4 _ k a
  have b:kE (λj=>cE m j&&cE (maskOf r.names) j)<64:=E9 _;generalize kE (λj=>cE m j&&cE (maskOf r.names) j)=x at c b;have s:r.fills (cE x)=true:=by
   rw[<-e];refine Mf r λk a=>?_
   show cE x k=cE m k;have:=c k (qB r h k a);unfold cE at this ⊢;rw[this];have q:=aa1 r h a;unfold cE at q;rw[q,apA]
  have aw:sub x (maskOf r.names)=true:=by
   rw[AF b];intro k a
   by_cases f:k<6
   .have:=c k f
    unfold cE at a;rw[a]at this;have:=(alC _ _▸this.symm);exact this.2
   .rw[yu b (by omega)]at a;cases a
  obtain⟨y,g,i⟩:=aaB r h x x (alf _) b aw s;refine⟨y,g,?_⟩;rw[AF (zC r h g).1];intro k a;have d:=i k a
  by_cases f:k<6
  .have:=c k f
   unfold cE at d;rw[d]at this;have:=(alC _ _▸this.symm);exact this.1
  .rw[yu b (by omega)]at d;cases d
 |false=>
  symm;rw[List.any_eq_false];intro x p aw;obtain⟨l,n,_⟩:=zC r h p;have:=Mg ((AF l).mp aw) r n;rw[e]at this;cases this
end jj
namespace aC
open PySem PySem.Spec aA gh i2 jj
def a'(k:Nat):D:=.int (k:Int)
def hh(k:Nat):a' k=.int (k:Int):=rfl
def R9(x:Int):amJ x 1=x % 2:=W.kbt_mask x 1
def FC(a b:Nat):an9 (a:Int) (b:Int)=((a ||| b:Nat):Int):=by
 have c:decide (0<=ams (a:Int))=false:=decide_eq_false (by unfold ams;omega);have d:decide (0<=ams (b:Int))=false:=decide_eq_false (by unfold ams;omega);have aq:(ams (ams (a:Int))).toNat=a:=by unfold ams;omega
 have aE:(ams (ams (b:Int))).toNat=b:=by unfold ams;omega
 unfold an9 amJ;rw[c,d];dsimp only;rw[aq,aE];unfold ams;omega
def R8(a b:Nat):amJ (a:Int) (b:Int)=((a&&& b:Nat):Int):=by
 have c:decide (0<=(a:Int))=true:=decide_eq_true (by omega);have d:decide (0<=(b:Int))=true:=decide_eq_true (by omega);unfold amJ;rw[c,d];rfl
def Zw(m:Nat):amg (m:Int)=gh.bits m:=by
 unfold amg gh.bits;rw[Int.natAbs_natCast]
 by_cases h:m=0
 .subst h;rfl
 .have h':(m:Int)≠0:=by omega
  rw[beq_eq_false_iff_ne.mpr h,beq_eq_false_iff_ne.mpr h']
def bits_le(m:Nat)(h:m<64):gh.bits m<=6:=by
 have all:∀m:_root_.Fin 64,gh.bits m.val<=6:=by decide +kernel
 exact all ⟨m,h⟩
def Z1(m:Nat):fx m=(alD (gh.bits m)).filter (cE m):=rfl
def En(h:m<64):(fx m).length<=6:=by
 have all:∀m:_root_.Fin 64,(fx m.val).length<=6:=by decide +kernel
 exact all ⟨m,h⟩
def E4(a:List Nat)(k:Nat):gh.maskOf (a++[k])=gh.maskOf a ||| 2 ^ k:=by
 unfold gh.maskOf;rw[List.foldl_append];rfl
def OF(k:Nat):gh.maskOf [k]=2 ^ k:=by
 show 0 ||| 2 ^ k=2 ^ k
 exact Nat.zero_or _
def Q7(a:List Nat)(k:Nat):within (a++[k])=within a++(within a).map (· + 2 ^ k):=by
 unfold within;rw[List.foldl_append];rfl
def Q6:∀a:List Nat,(within a).length=2 ^ a.length:=by
 intro a;rcases h:a.length with _|n
 .rw[anl.mp h];rfl
 .have:∀(n:Nat)(a:List Nat),a.length=n->(within a).length=2 ^ n:=by
   intro n
   induction n with
   |zero=>intro a h;rw[anl.mp h];rfl|succ n b=>
    intro a h;rcases List.eq_nil_or_concat a with rfl|⟨l,k,rfl⟩
    .cases h
    .rw[List.concat_eq_append]at h ⊢
     rw[alb,amj]at h;rw[Q7,alb,ala,b l (by omega)];omega
  exact this _ _ h
def take_snoc{α:Type}{l:List α}{i:Nat}{x:α}(h:l[i]? = some x):l.take (i+1)=l.take i++[x]:=by
 rw[aoW,h];rfl
def zX{α a:Type}{f:α->a}{l:List α}{i:Nat}{y:a}(h:(l.map f)[i]? = some y):∃x,l[i]? = some x/\y=f x:=by
 rw[alr]at h
 cases e:l[i]? with
 |none=>rw[e]at h;cases h
 |some x=>rw[e]at h;exact⟨x,rfl,(alE h).symm⟩
def TF(m k:Nat):(amJ ((m:Int) / 2 ^ k) 1==1)=cE m k:=by
 rw[R9];unfold cE;have aq:((m:Int) / 2 ^ k) % 2=((m / 2 ^ k % 2:Nat):Int):=by
  rw[Int.natCast_emod,Int.natCast_ediv,Int.natCast_pow];rfl
 rw[aq,amB,beq_iff_eq,beq_iff_eq];omega
def F'(n:Nat):dP 0 n=(alD n).map a':=by
 unfold dP;refine anJ λi _=>?_
 show D.int (0+(i:Int))=.int (i:Int);rw[aou]
def Ny(k:Nat)(a:List Nat):inD (a' k) (a.map a')=a.contains k:=by
 unfold inD;rw[List.any_map,List.contains_eq_any_beq]
 congr 1
 funext j
 show eB (.int (j:Int)) (.int (k:Int))=(k==j);rw[amB,beq_iff_eq];simp[eB];omega
theorem ov{α:Type}{t:aG->M Bool}{el:bt}{U:aG}(f:α->D)(p:α->Bool)(g:α->D):∀xs:List α,(∀x∈xs,t (U.set 0 (.v (f x)))=pure (p x))->(∀x∈xs,p x=true->(el (U.set 0 (.v (f x))) >>= R.dat)=pure (g x))->
  gE t el U (xs.map f)=pure ((xs.filter p).map g)
 |[],_,_=>rfl|x::xs,o,C=>by
  have b:=ov f p g xs (λx a=>o x (alh _ a)) λx a=>C x (alh _ a)
  rw[alv];unfold gE;rw[o x alo,pure_bind]
  cases e:p x with
  |false=>rw[if_neg alg,b,List.filter_cons_of_neg (by rw[e];exact alg)]|true=>
   have h:=C x alo e;rw[if_pos rfl,<-bind_assoc,h,pure_bind,b,pure_bind,List.filter_cons_of_pos e];rfl
def rm{α:Type}{el:bt}{U:aG}(f:α->D)(g:α->D)(xs:List α)(h:∀x∈xs,(el (U.set 0 (.v (f x))) >>= R.dat)=pure (g x)):gE fL el U (xs.map f)=pure (xs.map g):=by
 have:=ov (t:=fL) (el:=el) (U:=U) f (λ_=>true) g xs (λ_ _=>rfl) λx a _=>h x a
 rw[this]
 congr 2
 exact List.filter_eq_self.mpr λ_ _=>rfl
theorem tn{α:Type}{b:D->aM}(f:α->D)(p:α->Bool)(v:α->R)(I:aG->Prop):∀(xs:List α)(U:aG),I U->
  (∀x U,x∈xs->I U->(p x=true->b (f x) U=pure (.b9 (v x)))/\(p x=false->∃U',b (f x) U=pure (.bA U')/\I U'))->
  (∀x,xs.find? p=some x->jU b (xs.map f) U=pure (.b9 (v x)))/\(xs.find? p=none->∃U',jU b (xs.map f) U=pure (.bA U')/\I U')
 |[],U,h0,_=>⟨λx h=>(nomatch h),λ_=>⟨U,rfl,h0⟩⟩
 |x::xs,U,h0,step=>by
  obtain⟨i,s2⟩:=step x U alo h0
  cases e:p x with
  |true=>
   rw[ant e];refine⟨λy h=>?_,λh=>(nomatch h)⟩;cases h;show(b (f x) U >>= _)=_;rw[i e];rfl
  |false=>
   obtain⟨a,aq,g⟩:=s2 e;have d:=tn f p v I xs a g λy U c=>step y U (alh _ c)
   rw[anu (by rw[e];exact alg)];have u:jU b ((x::xs).map f) U=jU b (xs.map f) a:=by
    show(b (f x) U >>= _)=_;rw[aq];rfl
   rw[u];exact d
end aC
namespace jj
open gh i2
def R'(b:x<64)(c:y<64):(x&&& y==0)=true↔∀k,cE x k=true->cE y k=true->False:=by
 have all:∀x y:Fin 64,(x.val&&& y.val==0)=(alD 6).all λk=>!(cE x.val k&&cE y.val k):=by decide +kernel
 rw[all ⟨x,b⟩ ⟨y,c⟩,alW];constructor
 .intro h k a d
  by_cases e:k<6
  .have:=h k (alZ.mpr e)
   rw[a,d]at this;cases this
  .rw[yu b (by omega)]at a;cases a
 .intro h k _
  cases aq:cE x k with
  |false=>rfl|true=>
   cases aE:cE y k with
   |false=>rfl|true=>exact(h k aq aE).elim
def lR(x y:Nat):Bool:=x&&& y==0
def kz(k:a8)(m:Nat):Bool:=((least k).find? (lR m)).isSome
end jj
namespace aC
open PySem PySem.Spec aA
mutual
def D.A2:D->Bool
 |.t xs=>decide (xs.length<=1000)&&mG xs|.l xs=>decide (xs.length<=1000)&&mG xs|.ref _=>true|.fn _=>true|.ty _=>true|.aH=>true|.av _=>true|.int _=>true|.str _=>true
def mG:List D->Bool
 |[]=>true|x::xs=>x.A2&&mG xs
end
theorem u4:∀{xs:List D},mG xs=true↔∀x∈xs,x.A2=true
 |[]=>by simp[mG]| x::xs=>by simp[mG,u4]
theorem k_:∀{xs:List D}{n:Nat},hO xs n=true↔∀x∈xs,x.b4 n=true
 |[],_=>by simp[hO]| x::xs,n=>by simp[hO,k_]
def Ok(n:Nat)(d:D):Prop:=d.b4 n=true/\d.A2=true
def mw:Ok n .aH:=⟨rfl,rfl⟩
def ac2:Ok n (.av b):=⟨rfl,rfl⟩
def cR{i:Int}:Ok n (.int i):=⟨rfl,rfl⟩
def f_(h:alx x=true):Ok n (.str x):=⟨h,rfl⟩
def nV{xs:List D}(hl:xs.length<=1000)(h:∀x∈xs,Ok n x):Ok (n+1) (.t xs):=
 ⟨k_.mpr λx a=>(h x a).1,by show(decide (xs.length<=1000)&&mG xs)=true;rw[decide_eq_true hl,u4.mpr λx a=>(h x a).2];rfl⟩
def Dt:∀{d:D}{n m:Nat},n<=m->d.b4 n=true->d.b4 m=true:=by
 intro d
 induction d using D.rec (motive_2:=λds=>∀n m,n<=m->hO ds n=true->hO ds m=true)with
 |aH=>exact λ_ h=>h
 |av _=>exact λ_ h=>h
 |int _=>exact λ_ h=>h
 |str _=>exact λ_ h=>h
 |fn _=>exact λ_ h=>h
 |ty _=>exact λ_ h=>h
 |ref _=>exact λ_ h=>h
 |t xs a=>
  intro n m hm h
  cases n with
  |zero=>cases h
  |succ n=>
   cases m with
   |zero=>omega| succ m=>exact a n m (by omega) h
 |l xs a=>
  intro n m hm h
  cases n with
  |zero=>cases h
  |succ n=>
   cases m with
   |zero=>omega| succ m=>exact a n m (by omega) h
 |nil=>rfl|cons x xs b c=>
  rename_i n m hm h;have h:(x.b4 n&&hO xs n)=true:=h;rw[alC]at h;show(x.b4 m&&hO xs m)=true;rw[b hm h.1,c n m hm h.2];rfl
def lx(h:Ok n d)(hm:n<=m):Ok m d:=⟨Dt hm h.1,h.2⟩
def O7(h:Ok n a):Ok (n+1) (.t [a]):=nV (by simp) λx b=>by rw[alB.mp b];exact h
def j5(c:Ok n a)(d:Ok n b):Ok (n+1) (.t [a,b]):=nV (by simp) (by simp only[alT];exact⟨c,d,λ_ h=>nomatch h⟩)
def mu(d:Ok n a)(e:Ok n b)(f:Ok n c):Ok (n+1) (.t [a,b,c]):=nV (by simp) (by simp only[alT];exact⟨d,e,f,λ_ h=>nomatch h⟩)
def xb(e:Ok n a)(f:Ok n b)(g:Ok n c)(i:Ok n d):Ok (n+1) (.t [a,b,c,d]):=nV (by simp) (by simp only[alT];exact⟨e,f,g,i,λ_ h=>nomatch h⟩)
def xc(g:Ok n a)(i:Ok n b)(j:Ok n c)(k:Ok n d)(l:Ok n e)(m:Ok n f):Ok (n+1) (.t [a,b,c,d,e,f]):=nV (by simp) (by simp only[alT];exact⟨g,i,j,k,l,m,λ_ h=>nomatch h⟩)
def O6:Ok (n+1) (.t []):=nV (by simp) λ_ h=>nomatch h
def pick(P:D->Prop)(xs:List D)(c k:Int)(b:(xs.length:Int)=k)(d:0<k)(h:∀x∈xs,P x):∃v,d4 xs (c % k)=some v/\P v:=by
 have hm:=mod_lt (a:=c) d;obtain⟨v,e⟩:=BX (xs:=xs) (i:=c % k) hm.1 (by rw[b];exact hm.2);exact⟨v,e,h v (HH e)⟩
@[simp] theorem ajp:R.jY (.b5 xs)=false:=rfl
@[simp] theorem ajm:R.jY (.v (.l xs))=false:=rfl
@[simp] theorem ajj:R.jY (.v (.av b))=false:=rfl
@[simp] theorem ajF{z:Str}:nh [.v (.str z)]=if z.length<=ald then pure (.v (.int (z.length:Nat)))else bad:=rfl
@[simp] theorem ai1{x y:Str}:pe (.v (.str x)) (.v (.str y))=if x.length+y.length<=ald then pure (.v (.str (x++y)))else bad:=rfl
def eq_str(h:alx x=true):oEq (.v (.str x)) (.v (.str x))=pure (.v (.av true)):=by rw[rv (x:=.v (.str x)) (y:=.v (.str x)) h h];simp[eB]
mutual
theorem Pw:∀{d:D}{n:Nat},d.b4 n=true->eB d d=true
 |.aH,_,_=>rfl| .av _,_,_=>by simp[eB]| .int _,_,_=>by simp[eB]| .str _,_,_=>by simp[eB]|.t xs,n,h=>by
  cases n with
  |zero=>cases h
  |succ k=>exact FK (xs:=xs) (n:=k) h
 |.l xs,n,h=>by
  cases n with
  |zero=>cases h
  |succ k=>exact FK (xs:=xs) (n:=k) h
 |.ref _,_,h=>by cases h
 |.fn _,_,h=>by cases h
 |.ty _,_,h=>by cases h
theorem FK:∀{xs:List D}{n:Nat},hO xs n=true->mx xs xs=true
 |[],_,_=>rfl|x::xs,n,h=>by
  have h:=k_.mp h;unfold mx;rw[alC];exact⟨Pw (h x alo),FK (k_.mpr λy a=>h y (alh _ a))⟩
end
structure dv where
 e:Int
 p1:Int
 cG:Int
 e1:Int
 eA:Int
 bc:D
def bM(a b:Int):D:=.t [.int a,.int b]
def dH(g:dv):D:=.t [.int g.e,bM g.p1 g.cG,bM g.e1 g.eA,g.bc]
def pB(l:List dv):List D:=(jH (λa b:Int=>decide (a<b)) ((l.map dv.e).zip (l.map dH))).map (·.2)
theorem N1{mf:bq}(h:∀g:dv,mf [dH g]=pure (.v (.int g.e))):∀l:List dv,keysOf fy mf (l.map dH)=some (l.map dv.e)
 |[]=>rfl|g::l=>by
  rw[alv];unfold keysOf;rw[N1 h l];have:tO fy mf (dH g)=some g.e:=by unfold tO;rw[h];rfl
  rw[this];rfl
theorem HC:∀{l:List Int},l.Nodup->m4 (λa b:Int=>decide (a<b)) l=true
 |[],_=>rfl|a::r,h=>by
  rw[al7]at h;unfold m4;rw[HC h.2,apA,alW];intro b c;have:a≠b:=λe=>h.1 (e▸c)
  simp only[apk,decide_eq_true_eq];omega
def afz{mf:bq}(h:∀g:dv,mf [dH g]=pure (.v (.int g.e))){x:R}{l:List dv}(b:x.fz=some (l.map dH))(a:(l.map dv.e).Nodup)(hl:l.length<64):oC fy mf x=pure (.fr (pB l)):=by
 unfold oC;rw[b];dsimp only;rw[N1 h l];dsimp only;rw[if_pos ⟨HC a,by rw[ala];exact hl⟩];rfl
theorem Rn:∀l:List dv,(l.map dv.e).zip (l.map dH)=l.map λg=>(g.e,dH g)
 |[]=>rfl| g::l=>by rw[alv,alv,alv,anV,Rn l]
def afw{l c:List dv}(d:c.Perm l)(aw:c.Pairwise λa b=>a.e<b.e):pB l=c.map dH:=by
 have f:(l.map dv.e).Nodup:=by
  have:(c.map dv.e).Nodup:=by
   rw[anF,anw];exact aw.imp λh=>by omega
  exact(d.map dv.e).nodup_iff.mp this
 have hz:((l.map λg=>(g.e,dH g)).map (·.1)).Nodup:=by
  rw[amZ];exact f
 have one:=Gl Ef.toKeyOrd (l:=l.map λg=>(g.e,dH g)) (ps:=c.map λg=>(g.e,dH g)) hz (d.map _) (by
  rw[anw];exact aw.imp λh=>decide_eq_true h)
 unfold pB;rw[Rn];have:jH (λa b:Int=>decide (a<b)) (l.map λg=>(g.e,dH g))=c.map λg=>(g.e,dH g):=one.symm
 rw[this,amZ];rfl
def putL(bk:List dv)(g:dv):List dv:=bk.filter (λh=>!(h.e==g.e))++[g]
def PN{bk:List dv}(h:(bk.map dv.e).Nodup):((putL bk g).map dv.e).Nodup:=by
 unfold putL;rw[amw,an1];refine⟨h.sublist (aoy.map _),by simp,λa f b c=>?_⟩;obtain⟨x,d,rfl⟩:=alK.mp f;have i:b=g.e:=by simpa using c
 subst i;have:=(amk.mp d).2;simpa using this
def PM(bk:List dv)(g:dv):(putL bk g).length<=bk.length+1:=by
 unfold putL;rw[alb,amj];have:=amM (λh:dv=>!(h.e==g.e)) bk;omega
def aeD{bk:List dv}(h:x∈putL bk g):x∈bk\/x=g:=by
 unfold putL at h;rcases al6.mp h with h|h
 .exact .inl (amk.mp h).1
 .exact .inr (alB.mp h)
def lN(bk:List dv):Prop:=bk.Pairwise λa b=>a.e<b.e
def lN.nodup{bk:List dv}(h:lN bk):(bk.map dv.e).Nodup:=by
 rw[anF,anw];exact apJ (λh=>by omega) h
def find_eq{bk:List dv}{e:Int}{g:dv}(h:bk.find? (λx=>x.e==e)=some g):g.e=e/\g∈bk:=⟨by have:=anM h;simpa using this,amN h⟩
def blank(e:Int):dv:=⟨e,0,0,0,0,.aH⟩
def ff(bk:List dv)(e:Int):dv:=(bk.find? (λx=>x.e==e)).getD (blank e)
def Pk(bk:List dv)(e:Int):(ff bk e).e=e:=by
 unfold ff
 cases h:bk.find? (λx=>x.e==e)with
 |none=>rfl|some g=>exact(find_eq h).1
@[simp] theorem ai3{g:List Int->List Int->Bool}{a b c d:Int}:uv g (.v (bM a b)) (.v (bM c d))=pure (.v (.av (g [a,b] [c,d]))):=rfl
def aeE{bk:List dv}(n:lN bk)(g:dv):∃d,lN d/\pB (putL bk g)=d.map dH/\(∀x,x∈d↔x∈putL bk g)/\d.length<=bk.length+1:=by
 have f:=List.mergeSort_perm (putL bk g) (λa b=>decide (a.e<=b.e));have aw:=List.pairwise_mergeSort (le:=λa b:dv=>decide (a.e<=b.e)) (λa b c k m=>by
  have:=of_decide_eq_true k;have:=of_decide_eq_true m;exact decide_eq_true (by omega)) (λa b=>by simp only[apk,decide_eq_true_eq];omega) (putL bk g)
 generalize(putL bk g).mergeSort (λa b=>decide (a.e<=b.e))=d at f aw;have i:(d.map dv.e).Nodup:=(f.map dv.e).nodup_iff.mpr (PN n.nodup);have rise:lN d:=by
  unfold lN;clear f
  induction d with
  |nil=>exact .nil|cons x l p=>
   rw[alv,al7]at i;rw[amL]at aw ⊢;refine⟨λy j=>?_,p aw.2 i.2⟩;have k:=of_decide_eq_true (aw.1 y j);have m:x.e≠y.e:=λh=>i.1 (by rw[h];exact ani j)
   omega
 exact⟨d,rise,afw f rise,λx=>f.mem_iff,by rw[f.length_eq];exact PM bk g⟩
end aC
namespace aC
open PySem PySem.Spec aA PyProof.Rows
section
variable{Q:amD}[DecidableEq Q.α]
def k1(Q:amD)(l:List (Q.α×D)):Prop:=l.Pairwise λa b=>Q.blt a.1 b.1=true
def k1.nodup{l:List (Q.α×D)}(h:k1 Q l):(l.map (·.1)).Nodup:=by
 rw[anF,anw];refine apJ (λ{a b} h e=>?_) h;rw[e,Q.irrefl]at h;cases h
def js(l:List (Q.α×D))(a:Q.α):List (Q.α×D):=l.filter λq=>!decide (q.1=a)
def mz(l:List (Q.α×D))(p:Q.α×D):List (Q.α×D):=js l p.1++[p]
def j7(l:List (Q.α×D))(p:Q.α×D):List (Q.α×D):=jH Q.blt (mz l p)
def ft(l:List (Q.α×D))(a:Q.α):Option D:=(l.find? λq=>decide (q.1=a)).map (·.2)
def LV{l:List (Q.α×D)}(a:Q.α)(h:(l.map (·.1)).Nodup):((js l a).map (·.1)).Nodup:=h.sublist (aoy.map _)
def vF{l:List (Q.α×D)}{a:Q.α}{x:Q.α×D}:x∈js l a↔x∈l/\x.1≠a:=by
 unfold js;rw[amk];simp
def CY(l:List (Q.α×D))(a:Q.α):(js l a).length<=l.length:=amM _ _
def FY{l:List (Q.α×D)}(p:Q.α×D)(h:(l.map (·.1)).Nodup):((mz l p).map (·.1)).Nodup:=by
 unfold mz;rw[amw,an1];refine⟨LV _ h,by simp,λa e b c=>?_⟩;obtain⟨x,d,rfl⟩:=alK.mp e;rw[show b=p.1 by simpa using c];exact(vF.mp d).2
def FX{l:List (Q.α×D)}{p x:Q.α×D}:x∈mz l p↔(x∈l/\x.1≠p.1)\/x=p:=by
 unfold mz;rw[al6,vF,alB]
def PO(l:List (Q.α×D))(p:Q.α×D):(mz l p).length<=l.length+1:=by
 unfold mz;rw[alb,amj];have:=CY l p.1;omega
def FZ{l:List (Q.α×D)}(p:Q.α×D)(h:(l.map (·.1)).Nodup):k1 Q (j7 l p):=Gk Q _ (FY p h)
def uH{l:List (Q.α×D)}{p x:Q.α×D}:x∈j7 l p↔(x∈l/\x.1≠p.1)\/x=p:=by
 unfold j7;rw[(AB _ _).mem_iff,FX]
def Vh{l:List (Q.α×D)}(b:(l.map (·.1)).Nodup)(a:x∈l):l.find? (λq=>decide (q.1=x.1))=some x:=by
 induction l with
 |nil=>cases a
 |cons y l c=>
  rw[alv,al7]at b;rcases alj.mp a with rfl|a
  .rw[ant (by simp)]
  .have d:¬y.1=x.1:=λh=>b.1 (by rw[h];exact ani a)
   rw[anu (by simpa using d)];exact c b.2 a
def VR{l:List (Q.α×D)}(a:(l.map (·.1)).Nodup)(b:x∈l):ft l x.1=some x.2:=by
 unfold ft;rw[Vh a b];rfl
def vQ{l:List (Q.α×D)}{a:Q.α}{d:D}(h:ft l a=some d):(a,d)∈l:=by
 unfold ft at h;obtain⟨x,b,rfl⟩:=an4.mp h;have c:=amN b;have e:x.1=a:=by have:=anM b;simpa using this
 rw[<-e];exact c
def Mx{l:List (Q.α×D)}(b:(l.map (·.1)).Nodup):ft l a=some d↔(a,d)∈l:=⟨vQ,λh=>VR b h⟩
def VQ{l b:List (Q.α×D)}(c:(b.map (·.1)).Nodup)(h:∀d,(a,d)∈b↔o=some d):ft b a=o:=by
 cases o with
 |some d=>exact(Mx c).mpr ((h d).mpr rfl)|none=>
  cases e:ft b a with
  |none=>rfl|some d=>exact((h d).mp (vQ e)).symm
def VS{l:List (Q.α×D)}(p:Q.α×D)(b:(l.map (·.1)).Nodup)(a:Q.α):ft (j7 l p) a=if a=p.1 then some p.2 else ft l a:=
 VQ (l:=l) (FZ p b).nodup fun d=>by
  rw[uH]
  by_cases e:a=p.1
  .rw[if_pos e]
   constructor
   .rintro(⟨_,h⟩|h)
    .exact absurd e h
    .rw[<-h]
   .intro h
    refine .inr ?_;cases p;cases h;rw[e]
  .rw[if_neg e,Mx b]
   constructor
   .rintro(⟨h,_⟩|h)
    .exact h
    .rw[<-h]at e;exact absurd rfl e
   .exact λh=>.inl ⟨h,e⟩
def LW(b:Q.α)(h:k1 Q l):k1 Q (js l b):=List.Pairwise.sublist aoy h
def afv(h:k1 Q l):jH Q.blt l=l:=(Gl Q h.nodup (.refl _) h).symm
def Sa(h:l.Nodup):m4 Q.blt l=true:=by
 induction l with
 |nil=>rfl|cons a r c=>
  rw[al7]at h;unfold m4;rw[c h.2,apA,alW];intro b d
  cases aq:Q.blt a b with
  |true=>rfl|false=>
   cases aE:Q.blt b a with
   |true=>rfl|false=>exact absurd (Q.total a b aq aE▸d) h.1
end
section
variable{Z:iE}[DecidableEq Z.κ.α]
theorem N2(b:∀a,Z.un (Z.es a)=some a){mf:bq}:∀{l:List (Z.κ.α×D)},(∀x∈l,mf [x.2]=pure (.v (Z.es x.1)))->keysOf Z mf (l.map (·.2))=some (l.map (·.1))
 |[],_=>rfl|x::l,h=>by
  have e:tO Z mf x.2=some x.1:=by
   unfold tO;rw[h x alo];exact b x.1
  rw[alv,alv];unfold keysOf;rw[e,N2 b λy c=>h y (alh _ c)]
theorem zip_rows{α a:Type}:∀l:List (α×a),(l.map (·.1)).zip (l.map (·.2))=l
 |[]=>rfl| x::l=>by rw[alv,alv,anV,zip_rows l]
def Gm(d:∀a,Z.un (Z.es a)=some a){mf:bq}{l:List (Z.κ.α×D)}(h:∀x∈l,mf [x.2]=pure (.v (Z.es x.1))){r:R}(c:r.fz=some (l.map (·.2)))(b:(l.map (·.1)).Nodup)(hl:l.length<64) :
  oC Z mf r=pure (.fr ((jH Z.κ.blt l).map (·.2))):=by
 unfold oC;rw[c];dsimp only;rw[N2 d h];dsimp only;rw[if_pos ⟨Sa (Q:=Z.κ.toKeyOrd) b,by rw[ala];exact hl⟩,zip_rows]
end
end aC
namespace aC
open PySem PySem.Spec aA
abbrev e8:=md.κ.toKeyOrd
def bo(a:List Nat):Str:=⟨a.toArray⟩
abbrev cd(s:Str):List Nat:=s.cps.toList
def JK(a:List Nat):cd (bo a)=a:=rfl
def QS(a:List Nat):md.un (md.es a)=some a:=rfl
def Z0(a:List Nat):md.es a=.str (bo a):=rfl
def QQ:bo a=bo b↔a=b:=⟨λh=>by rw[<-JK a,h,JK],λh=>by rw[h]⟩
def U_(d:alx (bo a)=true)(c:alx (bo b)=true):oEq (.v (.str (bo a))) (.v (.str (bo b)))=pure (.v (.av (decide (a=b)))):=by
 rw[rv (x:=.v (.str (bo a))) (y:=.v (.str (bo b))) d c];show pure (R.v (D.av (bo a==bo b)))=_
 congr 3
 rw[amB,beq_iff_eq,decide_eq_true_eq,QQ]
def acF(d:alx (bo a)=true)(c:alx (bo b)=true):d7 (.v (.str (bo a))) (.v (.str (bo b)))=pure (.v (.av (!decide (a=b)))):=by
 rw[th (x:=.v (.str (bo a))) (y:=.v (.str (bo b))) d c];show pure (R.v (D.av (!(bo a==bo b))))=_
 congr 4
 rw[amB,beq_iff_eq,decide_eq_true_eq,QQ]
def lP(a:List Nat):Prop:=alx (bo a)=true/\1<=a.length/\a.length<=8
def afJ:alx (bo a)=true↔∀c∈a,c<0x110000:=by
 unfold alx bo;rw[List.all_toArray,alW];simp
def pI(a:List Nat):(bo a).length=a.length:=by
 show a.toArray.size=_;simp
def agF(a b:List Nat):bo a++bo b=bo (a++b):=by
 show(⟨a.toArray++b.toArray⟩:Str)=_;unfold bo;simp
def UJ(a:List Nat)(lo hi:Option Int):p' (bo a) lo hi=bo (cutD a lo hi):=rfl
def UN{α:Type}(xs:List α)(k:Nat)(h:k<=xs.length):cutD xs none (some (k:Int))=xs.take k:=by
 unfold cutD;rw[c7.Ax,c7.Ay,aoB,Nat.sub_zero,anN h]
def UO{α:Type}(xs:List α)(k:Nat)(h:k<=xs.length):cutD xs (some (k:Int)) none=xs.drop k:=by
 unfold cutD;rw[c7.Ax,c7.Ay,anN h,amr (by rw[amb];omega)]
def abq:(("add":Str) == "put")=false:=by decide +kernel
def acB:(("swap":Str) == "put")=false:=by decide +kernel
def acA:(("swap":Str) == "add")=false:=by decide +kernel
def acD:(("take":Str) == "put")=false:=by decide +kernel
def acC:(("take":Str) == "add")=false:=by decide +kernel
def acE:(("take":Str) == "swap")=false:=by decide +kernel
def acp:(("renew":Str) == "put")=false:=by decide +kernel
def aco:(("renew":Str) == "add")=false:=by decide +kernel
def acq:(("renew":Str) == "swap")=false:=by decide +kernel
def acr:(("renew":Str) == "take")=false:=by decide +kernel
def acb:(("free":Str) == "put")=false:=by decide +kernel
def aca:(("free":Str) == "add")=false:=by decide +kernel
def ace:(("free":Str) == "swap")=false:=by decide +kernel
def acf:(("free":Str) == "take")=false:=by decide +kernel
def acd:(("free":Str) == "renew")=false:=by decide +kernel
def acw:(("sure":Str) == "put")=false:=by decide +kernel
def acu:(("sure":Str) == "add")=false:=by decide +kernel
def acy:(("sure":Str) == "swap")=false:=by decide +kernel
def acz:(("sure":Str) == "take")=false:=by decide +kernel
def acx:(("sure":Str) == "renew")=false:=by decide +kernel
def acv:(("sure":Str) == "free")=false:=by decide +kernel
def aci:(("move":Str) == "put")=false:=by decide +kernel
def acg:(("move":Str) == "add")=false:=by decide +kernel
def acm:(("move":Str) == "swap")=false:=by decide +kernel
def acn:(("move":Str) == "take")=false:=by decide +kernel
def acj:(("move":Str) == "renew")=false:=by decide +kernel
def ach:(("move":Str) == "free")=false:=by decide +kernel
def ack:(("move":Str) == "sure")=false:=by decide +kernel
def ab5:(("end":Str) == "put")=false:=by decide +kernel
def ab2:(("end":Str) == "add")=false:=by decide +kernel
def ab8:(("end":Str) == "swap")=false:=by decide +kernel
def ab9:(("end":Str) == "take")=false:=by decide +kernel
def ab6:(("end":Str) == "renew")=false:=by decide +kernel
def ab3:(("end":Str) == "free")=false:=by decide +kernel
def ab7:(("end":Str) == "sure")=false:=by decide +kernel
def ab4:(("end":Str) == "move")=false:=by decide +kernel
def abr:(("do_add":Str) == "do_put")=false:=by decide +kernel
def abY:(("do_swap":Str) == "do_put")=false:=by decide +kernel
def abX:(("do_swap":Str) == "do_add")=false:=by decide +kernel
def ab0:(("do_take":Str) == "do_put")=false:=by decide +kernel
def abZ:(("do_take":Str) == "do_add")=false:=by decide +kernel
def ab1:(("do_take":Str) == "do_swap")=false:=by decide +kernel
def abO:(("do_renew":Str) == "do_put")=false:=by decide +kernel
def abN:(("do_renew":Str) == "do_add")=false:=by decide +kernel
def abP:(("do_renew":Str) == "do_swap")=false:=by decide +kernel
def abQ:(("do_renew":Str) == "do_take")=false:=by decide +kernel
def abC:(("do_free":Str) == "do_put")=false:=by decide +kernel
def abB:(("do_free":Str) == "do_add")=false:=by decide +kernel
def abE:(("do_free":Str) == "do_swap")=false:=by decide +kernel
def abF:(("do_free":Str) == "do_take")=false:=by decide +kernel
def abD:(("do_free":Str) == "do_renew")=false:=by decide +kernel
def abT:(("do_sure":Str) == "do_put")=false:=by decide +kernel
def abR:(("do_sure":Str) == "do_add")=false:=by decide +kernel
def abV:(("do_sure":Str) == "do_swap")=false:=by decide +kernel
def abW:(("do_sure":Str) == "do_take")=false:=by decide +kernel
def abU:(("do_sure":Str) == "do_renew")=false:=by decide +kernel
def abS:(("do_sure":Str) == "do_free")=false:=by decide +kernel
def abI:(("do_move":Str) == "do_put")=false:=by decide +kernel
def abG:(("do_move":Str) == "do_add")=false:=by decide +kernel
def abL:(("do_move":Str) == "do_swap")=false:=by decide +kernel
def abM:(("do_move":Str) == "do_take")=false:=by decide +kernel
def abJ:(("do_move":Str) == "do_renew")=false:=by decide +kernel
def abH:(("do_move":Str) == "do_free")=false:=by decide +kernel
def abK:(("do_move":Str) == "do_sure")=false:=by decide +kernel
def abw:(("do_end":Str) == "do_put")=false:=by decide +kernel
def abt:(("do_end":Str) == "do_add")=false:=by decide +kernel
def abz:(("do_end":Str) == "do_swap")=false:=by decide +kernel
def abA:(("do_end":Str) == "do_take")=false:=by decide +kernel
def abx:(("do_end":Str) == "do_renew")=false:=by decide +kernel
def abu:(("do_end":Str) == "do_free")=false:=by decide +kernel
def aby:(("do_end":Str) == "do_sure")=false:=by decide +kernel
def abv:(("do_end":Str) == "do_move")=false:=by decide +kernel
end aC
namespace dW
open PySem PySem.Spec aA aC
def pX(x:Int×D):Prop:=∃n z:D,x.2=.t [.int x.1,n,z]
def pX.ea{x:Int×D}(h:pX x):c0 (.v x.2) (.v (.int 0))=pure (.v (.int x.1)):=by
 obtain⟨n,z,e⟩:=h;rw[e];simp
def pX.slot{x:Int×D}(h:pX x):b7 x.2=.v x.2:=by
 obtain⟨n,z,e⟩:=h;rw[e];rfl
def CV{l:List (Int×D)}(h:∀x∈l,pX x)(c le aY:D)(a:Int):qw [.t [c,.t (l.map (·.2)),le,aY],.int a]=pure (.v ((ft (Q:=fy.κ.toKeyOrd) l a).getD (.t [.int a,.int 0,.aH]))):=by
 have L:=tn (b:=λd U=>zw (U.set 2 (.v d))) (λx:Int×D=>x.2) (λx=>decide (x.1=a)) (λx=>.v x.2) (λU=>∃s2,U=[.v (.t [c,.t (l.map (·.2)),le,aY]),.v (.int a),s2]) l [.v (.t [c,.t (l.map (·.2)),le,aY]),.v (.int a),.e] ⟨_,rfl⟩
  (λx U f ⟨s2,g⟩=>by
   subst g;have ea:=(h x f).ea;refine⟨λq=>?_,λq=>⟨[.v (.t [c,.t (l.map (·.2)),le,aY]),.v (.int a),.v x.2],?_,_,rfl⟩⟩
   .have q:x.1=a:=of_decide_eq_true q
    simp only[zw];simp[ea,q]
   .have q:¬x.1=a:=of_decide_eq_false q
    simp only[zw];simp[ea,q])
 simp only[qw,Ib,Ic];unfold ft
 cases e:l.find? (λx=>decide (x.1=a))with
 |some x=>
  have:=L.1 x e;simp[this]
 |none=>
  obtain⟨U',i,s2,rfl⟩:=L.2 e;simp[i]
def Oc{x:Int×D}(h:pX x):fnOf 1 1 (aZ (a_ 0 0)) [x.2]=pure (.v (.int x.1)):=by
 have:=h.ea;simp[h.slot,this]
def ahu{l:List (Int×D)}(h:∀x∈l,pX x)(d:(l.map (·.1)).Nodup)(hl:l.length<63)(c le aY:D)(a:Int)(n z:D)(aw:b7 n=.v n)(hz:b7 z=.v z) :
  zV [.t [c,.t (l.map (·.2)),le,aY],.int a,n,z]=pure (.v (.t [c,.t ((j7 (Q:=fy.κ.toKeyOrd) l (a,.t [.int a,n,z])).map (·.2)),le,aY])):=by
 have bg:gE (aU (aj d7 (a_ 0 0) (J 1))) (J 0) [.e,.v (.int a)] (l.map (·.2))=pure ((js (Q:=fy.κ.toKeyOrd) l a).map (·.2)):=
  ov (λx:Int×D=>x.2) (λx=>!decide (x.1=a)) (λx=>x.2) l (λx b=>by
   have ea:=(h x b).ea;simp[ea];rfl) λx _ _=>by simp
 have g:l.length<ald:=gb (by omega);have dl:=CY (Q:=fy.κ.toKeyOrd) l a;have f:(js (Q:=fy.κ.toKeyOrd) l a).length<ald:=gb (by omega);have dQ:=Gm (Z:=fy) (λ_=>rfl) (mf:=fnOf 1 1 (aZ (a_ 0 0))) (l:=mz (Q:=fy.κ.toKeyOrd) l (a,.t [.int a,n,z])) (λx b=>by
  rcases(FX (Q:=fy.κ.toKeyOrd)).mp b with⟨b,_⟩|rfl
  .exact Oc (h x b)
  .exact Oc ⟨n,z,rfl⟩) (r:=.mv ((js (Q:=fy.κ.toKeyOrd) l a).map (·.2)++[.t [.int a,n,z]])) (by
   show some _=some _;unfold mz;rw[amw];rfl) (FY _ d) (by have:=PO (Q:=fy.κ.toKeyOrd) l (a,.t [.int a,n,z]);omega)
 have i:∀(ma:bt)(U:aG)(mf:bq),p9 fy mf ma U=(do let x <-ma U;oC fy mf x):=λ_ _ _=>rfl
 simp only[zV,Cp,Jm,Jn];unfold j7;simp[aw,hz,bg,g,f,dQ,i]
abbrev sV:=List (List Nat×D)
def lI(x:List Nat×D):Prop:=lP x.1/\∃n:Int,n≠0/\x.2=.t [.str (bo x.1),.int n]
def lI.ea(h:lI x):c0 (.v x.2) (.v (.int 0))=pure (.v (.str (bo x.1))):=by
 obtain⟨_,n,_,e⟩:=h;rw[e];simp
def lI.slot(h:lI x):b7 x.2=.v x.2:=by
 obtain⟨_,n,_,e⟩:=h;rw[e];rfl
def k7:Option D->Int
 |some (.t [_,.int n])=>n|_=>0
def CD{l:sV}(h:∀x∈l,lI x)(d le aY:D)(f:lP a):t5 [.t [.t (l.map (·.2)),d,le,aY],.str (bo a)]=pure (.v (.int (k7 (ft (Q:=e8) l a)))):=by
 have L:=tn (b:=λd U=>zv (U.set 2 (.v d))) (λx:List Nat×D=>x.2) (λx=>decide (x.1=a)) (λx=>.v (.int (k7 (some x.2)))) (λU=>∃s2,U=[.v (.t [.t (l.map (·.2)),d,le,aY]),.v (.str (bo a)),s2]) l [.v (.t [.t (l.map (·.2)),d,le,aY]),.v (.str (bo a)),.e] ⟨_,rfl⟩
  (λx U c ⟨s2,g⟩=>by
   subst g;have ea:=(h x c).ea;have eq:=U_ (h x c).1.1 f.1;obtain⟨_,n,_,e⟩:=h x c;refine⟨λq=>?_,λq=>⟨[.v (.t [.t (l.map (·.2)),d,le,aY]),.v (.str (bo a)),.v x.2],?_,_,rfl⟩⟩
   .rw[q]at eq
    simp only[zv];rw[e]at ea ⊢;simp[ea,eq,k7]
   .rw[q]at eq
    simp only[zv];simp[ea,eq])
 simp only[t5,H5,H6];unfold ft
 cases e:l.find? (λx=>decide (x.1=a))with
 |some x=>
  have:=L.1 x e;simp[this]
 |none=>
  obtain⟨U',i,s2,rfl⟩:=L.2 e;simp[i,k7]
def EE(h:lI x):fnOf 1 1 (aZ (a_ 0 0)) [x.2]=pure (.v (md.es x.1)):=by
 have:=h.ea;rw[Z0];simp[h.slot,this]
def kN(l:sV)(a:List Nat)(n:Int):sV:=if n=0 then js (Q:=e8) l a else j7 (Q:=e8) l (a,.t [.str (bo a),.int n])
def agX(h:k1 e8 l)(a:List Nat)(n:Int):k1 e8 (kN l a n):=by
 unfold kN;split
 .exact LW a h
 .exact FZ _ h.nodup
def agY(h:∀x∈l,lI x)(c:lP a)(n:Int):∀x∈kN l a n,lI x:=λx b=>by
 unfold kN at b;split at b
 .exact h x ((vF (Q:=e8)).mp b).1
 .rename_i q
  rcases(uH (Q:=e8)).mp b with⟨b,_⟩|rfl
  .exact h x b
  .exact⟨c,n,q,rfl⟩
def A3{l:sV}(h:∀x∈l,lI x)(c:k1 e8 l)(hl:l.length<63)(d le aY:D)(f:lP a)(n:Int) :
  r6 [.t [.t (l.map (·.2)),d,le,aY],.str (bo a),.int n]=pure (.v (.t [.t ((kN l a n).map (·.2)),d,le,aY])):=by
 have bg:gE (aU (aj d7 (a_ 0 0) (J 1))) (J 0) [.e,.v (.str (bo a))] (l.map (·.2))=pure ((js (Q:=e8) l a).map (·.2)):=
  ov (λx:List Nat×D=>x.2) (λx=>!decide (x.1=a)) (λx=>x.2) l (λx b=>by
   have ea:=(h x b).ea;have ne:=acF (h x b).1.1 f.1;simp[ea,ne]) λx _ _=>by simp
 have i:l.length<ald:=gb (by omega);have dl:=CY (Q:=e8) l a;have g:(js (Q:=e8) l a).length<ald:=gb (by omega);have j:∀(ma:bt)(U:aG)(mf:bq),p9 md mf ma U=(do let x <-ma U;oC md mf x):=λ_ _ _=>rfl
 simp only[r6,Co,Jk,Jl];unfold kN
 by_cases q:n=0
 .have dQ:=Gm (Z:=md) QS (mf:=fnOf 1 1 (aZ (a_ 0 0))) (l:=js (Q:=e8) l a) (λx b=>EE (h x ((vF (Q:=e8)).mp b).1)) (r:=.mv ((js (Q:=e8) l a).map (·.2))) rfl (LV a c.nodup) (by omega)
  rw[afv (Q:=e8) (LW a c)]at dQ;rw[if_pos q];simp[q,bg,i,g,dQ,j]
 .have dQ:=Gm (Z:=md) QS (mf:=fnOf 1 1 (aZ (a_ 0 0))) (l:=mz (Q:=e8) l (a,.t [.str (bo a),.int n])) (λx b=>by
   rcases(FX (Q:=e8)).mp b with⟨b,_⟩|rfl
   .exact EE (h x b)
   .exact EE ⟨f,n,q,rfl⟩) (r:=.mv ((js (Q:=e8) l a).map (·.2)++[.t [.str (bo a),.int n]])) (by
    show some _=some _;unfold mz;rw[amw];rfl) (FY _ c.nodup) (by have:=PO (Q:=e8) l (a,.t [.str (bo a),.int n]);omega)
  rw[if_neg q];unfold j7;simp[q,bg,i,g,dQ,j]
def ahv(c d le aY f t:D)(b:b7 f=.v f)(a:b7 t=.v t):zW [.t [c,d,le,aY],f,t]=pure (.v (.t [c,d,.t [f,t],aY])):=by
 simp[zW,Jo,b,a]
def GO(c d le aY s:D)(aw:b7 s=.v s):ug [.t [c,d,le,aY],s]=pure (.v (.t [c,d,le,s])):=by
 simp[ug,Jr,aw]
def m5(x:D)(ds:List D):d4 (x::ds) 0=some x:=hI 0 rfl
def agh:hy.lookup ("put":Str)=some ("do_put":Str):=by
 unfold hy;simp only[als,beq_self_eq_true]
def Vq:h4.lookup ("do_put":Str)=some wK:=by
 unfold h4;simp only[als,beq_self_eq_true]
def adx{s a r:D}(aw:b7 s=.v s)(b:b7 a=.v a)(h:wK [s,a,.t (.str "put"::ds)]=pure (.v r)):fe [s,a,.t (.str "put"::ds)]=pure (.v r):=by
 simp only[fe,m7,m8];simp[aw,b,m5,agh,Vq,h]
def agd:hy.lookup ("add":Str)=some ("do_add":Str):=by
 unfold hy;simp only[als,beq_self_eq_true,abq]
def Vm:h4.lookup ("do_add":Str)=some wH:=by
 unfold h4;simp only[als,beq_self_eq_true,abr]
def ado{s a r:D}(aw:b7 s=.v s)(b:b7 a=.v a)(h:wH [s,a,.t (.str "add"::ds)]=pure (.v r)):fe [s,a,.t (.str "add"::ds)]=pure (.v r):=by
 simp only[fe,m7,m8];simp[aw,b,m5,agd,Vm,h]
def agk:hy.lookup ("swap":Str)=some ("do_swap":Str):=by
 unfold hy;simp only[als,beq_self_eq_true,acB,acA]
def Vt:h4.lookup ("do_swap":Str)=some t9:=by
 unfold h4;simp only[als,beq_self_eq_true,abY,abX]
def adB{s a r:D}(aw:b7 s=.v s)(b:b7 a=.v a)(h:t9 [s,a,.t (.str "swap"::ds)]=pure (.v r)):fe [s,a,.t (.str "swap"::ds)]=pure (.v r):=by
 simp only[fe,m7,m8];simp[aw,b,m5,agk,Vt,h]
def agl:hy.lookup ("take":Str)=some ("do_take":Str):=by
 unfold hy;simp only[als,beq_self_eq_true,acD,acC,acE]
def Vu:h4.lookup ("do_take":Str)=some t_:=by
 unfold h4;simp only[als,beq_self_eq_true,ab0,abZ,ab1]
def adC{s a r:D}(aw:b7 s=.v s)(b:b7 a=.v a)(h:t_ [s,a,.t (.str "take"::ds)]=pure (.v r)):fe [s,a,.t (.str "take"::ds)]=pure (.v r):=by
 simp only[fe,m7,m8];simp[aw,b,m5,agl,Vu,h]
def agi:hy.lookup ("renew":Str)=some ("do_renew":Str):=by
 unfold hy;simp only[als,beq_self_eq_true,acp,aco,acq,acr]
def Vr:h4.lookup ("do_renew":Str)=some t7:=by
 unfold h4;simp only[als,beq_self_eq_true,abO,abN,abP,abQ]
def ady{s a r:D}(aw:b7 s=.v s)(b:b7 a=.v a)(h:t7 [s,a,.t (.str "renew"::ds)]=pure (.v r)):fe [s,a,.t (.str "renew"::ds)]=pure (.v r):=by
 simp only[fe,m7,m8];simp[aw,b,m5,agi,Vr,h]
def agf:hy.lookup ("free":Str)=some ("do_free":Str):=by
 unfold hy;simp only[als,beq_self_eq_true,acb,aca,ace,acf,acd]
def Vo:h4.lookup ("do_free":Str)=some t6:=by
 unfold h4;simp only[als,beq_self_eq_true,abC,abB,abE,abF,abD]
def adu{s a r:D}(aw:b7 s=.v s)(b:b7 a=.v a)(h:t6 [s,a,.t (.str "free"::ds)]=pure (.v r)):fe [s,a,.t (.str "free"::ds)]=pure (.v r):=by
 simp only[fe,m7,m8];simp[aw,b,m5,agf,Vo,h]
def agj:hy.lookup ("sure":Str)=some ("do_sure":Str):=by
 unfold hy;simp only[als,beq_self_eq_true,acw,acu,acy,acz,acx,acv]
def Vs:h4.lookup ("do_sure":Str)=some t8:=by
 unfold h4;simp only[als,beq_self_eq_true,abT,abR,abV,abW,abU,abS]
def adA{s a r:D}(aw:b7 s=.v s)(b:b7 a=.v a)(h:t8 [s,a,.t (.str "sure"::ds)]=pure (.v r)):fe [s,a,.t (.str "sure"::ds)]=pure (.v r):=by
 simp only[fe,m7,m8];simp[aw,b,m5,agj,Vs,h]
def agg:hy.lookup ("move":Str)=some ("do_move":Str):=by
 unfold hy;simp only[als,beq_self_eq_true,aci,acg,acm,acn,acj,ach,ack]
def Vp:h4.lookup ("do_move":Str)=some wJ:=by
 unfold h4;simp only[als,beq_self_eq_true,abI,abG,abL,abM,abJ,abH,abK]
def adv{s a r:D}(aw:b7 s=.v s)(b:b7 a=.v a)(h:wJ [s,a,.t (.str "move"::ds)]=pure (.v r)):fe [s,a,.t (.str "move"::ds)]=pure (.v r):=by
 simp only[fe,m7,m8];simp[aw,b,m5,agg,Vp,h]
def age:hy.lookup ("end":Str)=some ("do_end":Str):=by
 unfold hy;simp only[als,beq_self_eq_true,ab5,ab2,ab8,ab9,ab6,ab3,ab7,ab4]
def Vn:h4.lookup ("do_end":Str)=some wI:=by
 unfold h4;simp only[als,beq_self_eq_true,abw,abt,abz,abA,abx,abu,aby,abv]
def ads{s a r:D}(aw:b7 s=.v s)(b:b7 a=.v a)(h:wI [s,a,.t (.str "end"::ds)]=pure (.v r)):fe [s,a,.t (.str "end"::ds)]=pure (.v r):=by
 simp only[fe,m7,m8];simp[aw,b,m5,age,Vn,h]
section
variable{l:sV}(h:∀x∈l,lI x)(aD:k1 e8 l)(hl:l.length<63)(d le aY:D){a:List Nat}(ao:lP a)(n i:Int)
include h aD hl ao
theorem adI:fe [.t [.t (l.map (·.2)),d,le,aY],.int i,.t [.str "put",.str (bo a),.int n]]=pure (.v (.t [.t [.t ((kN l a n).map (·.2)),d,le,aY],.int (k7 (ft (Q:=e8) l a))])):=
 adx rfl rfl (by
  have aq:=A3 h aD hl d le aY ao n;have aE:=CD h d le aY ao;simp[wK,Ia,aq,aE])
theorem adE:fe [.t [.t (l.map (·.2)),d,le,aY],.int i,.t [.str "add",.str (bo a),.int n]]=pure (.v (.t [.t [.t ((kN l a (k7 (ft (Q:=e8) l a)+n)).map (·.2)),d,le,aY],.int (k7 (ft (Q:=e8) l a)+n)])):=
 ado rfl rfl (by
  have aq:=A3 h aD hl d le aY ao (k7 (ft (Q:=e8) l a)+n);have aE:=CD h d le aY ao;simp[wH,H7,H8,aq,aE])
theorem adL(o:Int):fe [.t [.t (l.map (·.2)),d,le,aY],.int i,.t [.str "swap",.str (bo a),.int o,.int n]]=pure (.v (if k7 (ft (Q:=e8) l a)=o then .t [.t [.t ((kN l a n).map (·.2)),d,le,aY],.int 1]else .t [.t [.t (l.map (·.2)),d,le,aY],.int 0])):=
 adB rfl rfl (by
  have aq:=A3 h aD hl d le aY ao n;have aE:=CD h d le aY ao
  by_cases q:k7 (ft (Q:=e8) l a)=o
  .rw[if_pos q]
   simp[t9,B_,B',aq,aE,q]
  .rw[if_neg q]
   simp[t9,B_,B',aq,aE,q])
theorem adK(f g:Int)(t:D)(b:t.b4 63=true):fe [.t [.t (l.map (·.2)),d,.t [.int f,t],aY],.int i,.t [.str "sure",.int g,.str (bo a),.int n]]=pure (.v (if(f==g&&eB t (.int i))=true then .t [.t [.t ((kN l a n).map (·.2)),d,.t [.int f,t],aY],.int 1]else .t [.t [.t (l.map (·.2)),d,.t [.int f,t],aY],.int 0])):=
 adA rfl rfl (by
  have aq:=A3 h aD hl d (.t [.int f,t]) aY ao n;have ne:d7 (.v (.t [.int f,t])) (.v (.t [.int g,.int i]))=pure (.v (.av (!(f==g&&eB t (.int i))))):=by
   rw[th (x:=.v (.t [.int f,t])) (y:=.v (.t [.int g,.int i])) (k_.mpr (by simp only[alT];exact⟨rfl,b,λ_ h=>nomatch h⟩)) rfl];simp[eB,mx]
  cases q:(f==g&&eB t (.int i))with
  |true=>
   rw[q]at ne;simp[t8,B8,B9,jE,m6,aq,ne]
  |false=>
   rw[q]at ne;simp[t8,B8,B9,jE,m6,aq,ne])
end
section
variable(c d le aY:D)(i:Int)
def adH(z:D)(hz:b7 z=.v z):fe [.t [c,d,le,aY],.int i,.t [.str "move",z]]=pure (.v (.t [.t [c,d,le,z],.int 1])):=
 adv rfl rfl (by simp[wJ,H_,GO c d le aY z hz])
def adF:fe [.t [c,d,le,aY],.int i,.t [.str "end"]]=pure (.v (.t [.t [c,d,le,.str "over"],.int 1])):=
 ads rfl rfl (by simp[wI,H9,GO c d le aY (.str "over") rfl])
variable(f g:Int)(t:D)(bJ:t.b4 63=true)
def Fi:ue [.t [c,d,.t [.int f,t],aY]]=pure (.v (.t [.t [c,d,.t [.int f,t],aY],.t [.int 0,.int f,t]])):=by
 simp[ue,Jc,Jd,jE,m6]
def EF(u:D)(a:b7 u=.v u):uc [.t [c,d,.t [.int f,t],aY],.int g,u]=pure (.v (.t [.t [c,d,.t [.int (g+1),u],aY],.t [.int 1,.int (g+1),u]])):=by
 simp[uc,I1,ahv c d (.t [.int f,t]) aY (.int (g+1)) u rfl a,a]
def adM:fe [.t [c,d,.t [.int f,t],aY],.int i,.t [.str "take",.int g]]=pure (.v (if f=g then .t [.t [c,d,.t [.int (g+1),.int i],aY],.t [.int 1,.int (g+1),.int i]]else .t [.t [c,d,.t [.int f,t],aY],.t [.int 0,.int f,t]])):=
 adC rfl rfl (by
  have aq:=EF c d aY f g t (.int i) rfl;have aE:=Fi c d aY f t
  by_cases q:f=g
  .rw[if_pos q]
   simp[t_,Ca,Cb,jE,m6,aq,aE,q];rw[q]at aq;simp[aq]
  .rw[if_neg q]
   simp[t_,Ca,Cb,jE,m6,aq,aE,q])
include bJ
theorem OV:d7 (.v (.t [.int f,t])) (.v (.t [.int g,.int i]))=pure (.v (.av (!(f==g&&eB t (.int i))))):=by
 rw[th (x:=.v (.t [.int f,t])) (y:=.v (.t [.int g,.int i])) (k_.mpr (by simp only[alT];exact⟨rfl,bJ,λ_ h=>nomatch h⟩)) rfl];simp[eB,mx]
theorem adJ:fe [.t [c,d,.t [.int f,t],aY],.int i,.t [.str "renew",.int g]]=pure (.v (if(f==g&&eB t (.int i))=true then .t [.t [c,d,.t [.int (g+1),.int i],aY],.t [.int 1,.int (g+1),.int i]]else .t [.t [c,d,.t [.int f,t],aY],.t [.int 0,.int f,t]])):=
 ady rfl rfl (by
  have aq:=EF c d aY f g t (.int i) rfl;have aE:=Fi c d aY f t;have ne:=OV i f g t bJ
  cases q:(f==g&&eB t (.int i))with
  |true=>
   rw[q]at ne;simp[t7,B6,B7,jE,m6,aq,aE,ne]
  |false=>
   rw[q]at ne;simp[t7,B6,B7,jE,m6,aq,aE,ne])
theorem adG:fe [.t [c,d,.t [.int f,t],aY],.int i,.t [.str "free",.int g]]=pure (.v (if(f==g&&eB t (.int i))=true then .t [.t [c,d,.t [.int (g+1),.aH],aY],.t [.int 1,.int (g+1),.aH]]else .t [.t [c,d,.t [.int f,t],aY],.t [.int 0,.int f,t]])):=
 adu rfl rfl (by
  have aq:=EF c d aY f g t .aH rfl;have aE:=Fi c d aY f t;have ne:=OV i f g t bJ
  cases q:(f==g&&eB t (.int i))with
  |true=>
   rw[q]at ne;simp[t6,B4,B5,jE,m6,aq,aE,ne]
  |false=>
   rw[q]at ne;simp[t6,B4,B5,jE,m6,aq,aE,ne])
end
def q5(x:Int×D):Prop:=∃(n:Int)(z:D),x.2=.t [.int x.1,.int n,z]
def q5.qc{x:Int×D}(h:q5 x):pX x:=by obtain⟨n,z,e⟩:=h;exact⟨_,_,e⟩
def r9:Option D->Int
 |some (.t [_,.int n,_])=>n|_=>0
def Og{l:List (Int×D)}(h:∀x∈l,q5 x)(a:Int):c0 (.v ((ft (Q:=fy.κ.toKeyOrd) l a).getD (.t [.int a,.int 0,.aH]))) (.v (.int 1))=pure (.v (.int (r9 (ft (Q:=fy.κ.toKeyOrd) l a)))):=by
 cases q:ft (Q:=fy.κ.toKeyOrd) l a with
 |none=>simp[r9]|some d=>
  obtain⟨n,z,e⟩:=h _ (vQ q);have e:d=.t [.int a,.int n,z]:=e;subst e;simp[r9]
def wg(c d le aY:D):ml [.t [c,d,le,aY]]=(do j4 (.v aY) (.v .aH)):=by
 simp[ml,IJ,o_,Cn]
section
variable{l:List (Int×D)}(h:∀x∈l,q5 x)(c le aY:D)(a n:Int)
include h
theorem LU(ds:D)(hd:b7 ds=.v ds)(q:ds=.aH\/(∃xs,ds=.t xs)/\(aY=.str "over"\/(∃b,aY=.t b)\/aY=.aH/\n<=r9 (ft (Q:=fy.κ.toKeyOrd) l a))) :
  nN [.t [c,.t (l.map (·.2)),le,aY],.int a,.int n,ds]=pure (.v (.t [c,.t (l.map (·.2)),le,aY])):=by
 have aq:=CV (λx d=>(h x d).qc) c le aY a;have aE:=Og h a;simp only[nN,Cc,Cd,Ce];rcases q with rfl|⟨⟨xs,rfl⟩,rfl|⟨b,rfl⟩|⟨rfl,q⟩⟩
 .simp
 .simp[wg]
 .simp[wg]
 .simp[wg,aq,aE,q]
theorem UT(xs:List D)(q:r9 (ft (Q:=fy.κ.toKeyOrd) l a)<n)(hl:l.length<63)(e:(l.map (·.1)).Nodup){c' le' sh' v:D}
  (d:fe [.t [c,.t (l.map (·.2)),le,.aH],.int a,.t xs]=pure (.v (.t [.t [c',.t (l.map (·.2)),le',sh'],v]))) (f:b7 v=.v v) :
  nN [.t [c,.t (l.map (·.2)),le,.aH],.int a,.int n,.t xs]=pure (.v (.t [c',.t ((j7 (Q:=fy.κ.toKeyOrd) l (a,.t [.int a,.int n,v])).map (·.2)),le',sh'])):=by
 have aq:=CV (λx b=>(h x b).qc) c le .aH a;have aE:=Og h a;have cX:=ahu (λx b=>(h x b).qc) e hl c' le' sh' a (.int n) v rfl f;have g:¬n<=r9 (ft (Q:=fy.κ.toKeyOrd) l a):=by omega
 simp only[nN,Cc,Cd,Ce];simp[wg,aq,aE,g,d,cX]
end
def acU{l:List (Int×D)}(h:∀x∈l,q5 x)(a n:Int)(v:D):∀x∈j7 (Q:=fy.κ.toKeyOrd) l (a,.t [.int a,.int n,v]),q5 x:=λx b=>by
 rcases(uH (Q:=fy.κ.toKeyOrd)).mp b with⟨b,_⟩|rfl
 .exact h x b
 .exact⟨n,v,rfl⟩
end dW
namespace dW
open PySem PySem.Spec aA aC i2
def Good(r:a8):Prop:=r.wf/\r.deep<=4/\r.names.length<=12
end dW
namespace dW
open PySem PySem.Spec aA aC i2 gh jj
def pP(i:Int):mm [.int i]=pure (.v (.av true)):=by kernel_rfl
def GN(xs:List D):mm [.t xs]=pure (.v (.av false)):=by kernel_rfl
def DD(m k:Nat):qx [a' m,a' k]=pure (.v (.av (cE m k))):=by
 simp only[qx,Il,hh];simp[(TF m k)]
def wZ(a:List Nat)(h:∀k∈a,k<=1000):lq [.l (a.map a')]=pure (.v (a' (maskOf a))):=by
 obtain⟨U',e,s2,rfl⟩:=vO (b:=λd U=>Ez (U.set 2 (.v d))) (ds:=a.map a') (U:=[.b5 (a.map a'),.v (.int 0),.e])
  (λi U=>∃s2,U=[.b5 (a.map a'),.v (a' (maskOf (a.take i))),s2]) ⟨_,rfl⟩ (λi d U hd ⟨s2,f⟩=>by
   subst f;obtain⟨k,c,rfl⟩:=zX hd;have g:=h k (alF c);refine⟨_,.inl (?_:_=pure (fR.bA [.b5 (a.map a'),.v (a' (maskOf (a.take (i+1)))),.v (a' k)])),_,rfl⟩;rw[take_snoc c,E4,hh (_ ||| _),<-FC];have e1:(k:Int)<=1000000:=by omega
   simp only[Ez,hh];simp[e1])
 simp only[lq,I2,I3,I4];simp[e]
def Eo(h:m<64):ua [a' m]=pure (.fr ((fx m).map a')):=by
 have b:=bits_le m h;have c:gE (aU (bl qx (bz (J 1) (J 0)))) (J 0) [.e,.v (a' m)] ((alD (bits m)).map a')=pure (((alD (bits m)).filter (cE m)).map a'):=
  ov a' (cE m) a' _ (λk _=>by simp[DD]) λk _ _=>by simp
 have a:-4611686018427387904<=((bits m:Nat):Int)/\((bits m:Nat):Int)<4611686018427387904:=by omega
 have z:bits m<ald:=gb (by omega);rw[Z1];simp only[ua,IK];simp only[hh m]at c ⊢;simp[Zw,a,F',z,c]
def aa2(h:m<64):zS [a' m]=pure (.v (.l ((within (fx m)).map a'))):=by
 have a:=Eo h;have w:=En h;obtain⟨U',e,s2,rfl⟩:=vO (b:=λd U=>EA (U.set 2 (.v d))) (ds:=(fx m).map a') (U:=[.v (a' m),.v (.l [.int 0]),.e])
  (λi U=>∃s2,U=[.v (a' m),.v (.l ((within ((fx m).take i)).map a')),s2]) ⟨_,rfl⟩ (λi d U hd ⟨s2,p⟩=>by
   subst p;obtain⟨k,a,rfl⟩:=zX hd;have u:k<6:=((E7 h).mp (alF a)).1;refine⟨_,.inl (?_:_=pure (fR.bA [.v (a' m),.v (.l ((within ((fx m).take (i+1))).map a')),.v (a' k)])),_,rfl⟩;rw[take_snoc a,Q7,amw,amZ];have mo:lq [.l [a' k]]=pure (.v (a' (2 ^ k))):=by
    have:=wZ [k] (by intro j q;rw[alB.mp q];omega)
    rwa[OF]at this
   have g:=Q6 ((fx m).take i);have t:((fx m).take i).length<=6:=by rw[ama];omega
   have f:2 ^ ((fx m).take i).length<=2 ^ 6:=aot (by decide) t;generalize within ((fx m).take i)=ws at g;have n:ws.length<=64:=by rw[g];exact f
   have c:gE fL (aj eR (J 0) (bl lq (aR (d5 (aR (J 1)))))) [.e,.v (a' k)] (ws.map a')=pure (ws.map (a'∘λx=>x+2 ^ k)):=
    rm a' _ ws λx _=>by
     simp[mo];rw[hh x,hh (2 ^ k)];simp[hh]
   have s:ws.length<ald:=gb (by omega);have r:ws.length+ws.length<=ald:=amP (gb (by omega));simp only[EA];simp[c,s,r])
 rw[ala,List.take_length]at e;simp only[zS,I5,I6,I7];simp only[hh m]at e a ⊢;simp[a,e]
theorem OO:∀(n:Nat)(r:a8),r.deep<n->r.names.length<=1000->mq n [enc r]=pure (.fr (r.names.map a'))
 |0,r,h,_=>absurd h (amx _)|n+1,.kp k,h,_=>by
  simp only[mq,yt,yQ,a8.names];simp[pP,hh]
 |n+1,.ch k ps,h,hl=>by
  simp only[a8.deep]at h;simp only[a8.names]at hl ⊢;rw[rz];obtain⟨U',e,s2,rfl⟩:=vO (b:=λd U=>wm (mq n) (U.set 2 (.v d))) (ds:=ps.map enc) (U:=[.v (.t [.int (k:Nat),.t (ps.map enc)]),.dO false [],.e])
   (λi U=>∃s2,U=[.v (.t [.int (k:Nat),.t (ps.map enc)]),.dO false ((a8.eX (ps.take i)).map a'),s2]) ⟨_,rfl⟩ (λi d U hd ⟨s2,c⟩=>by
    subst c;obtain⟨r,a,rfl⟩:=zX hd;refine⟨_,.inl (?_:_=pure (fR.bA [.v (.t [.int (k:Nat),.t (ps.map enc)]),.dO false ((a8.eX (ps.take (i+1))).map a'),.v (enc r)])),_,rfl⟩;have le:(a8.eX (ps.take (i+1))).length<=1000:=by
     have:a8.eX ps=a8.eX (ps.take (i+1))++a8.eX (ps.drop (i+1)):=by rw[<-w3,List.take_append_drop]
     rw[this,alb]at hl;omega
    rw[(take_snoc a),w3]at le ⊢;rw[show a8.eX [r]=r.names from aml _]at le ⊢;rw[alb]at le;simp only[wm];simp[(OO n r ((qb (ps:=ps) (n:=n) (by omega)) r (alF a)) (by omega)),(amP (gb (by omega)))])
  simp only[mq,yt,I',Ja,Jb];simp[GN,e]
def named_eq{r:a8}(hw:r.wf)(hd:r.deep<12)(hl:r.names.length<=1000):ud [enc r]=pure (.v (a' (maskOf r.names))):=by
 have a:=wZ r.names λk b=>by have:=qB r hw k b;omega
 simp only[ud,I_];simp[(OO 12 r hd hl),a]
theorem yV(m:Nat):∀(n:Nat)(r:a8),r.deep<n->r.wf->i' n [enc r,a' m]=pure (.v (.av (r.fills (cE m))))
 |0,r,h,_=>absurd h (amx _)|n+1,.kp k,h,hw=>by
  have b:=DD m k;simp only[i',yq,yQ,a8.fills];simp only[hh]at b ⊢;simp[pP,b]
 |n+1,.ch k ps,h,hw=>by
  simp only[a8.deep]at h;simp only[a8.wf]at hw;rw[rz];have c:gE (aU (bl (i' n) (bz (J 0) (J 1)))) (J 0) [.e,.v (a' m)] (ps.map enc)=pure ((ps.filter (a8.fills (cE m))).map enc):=
   ov enc (a8.fills (cE m)) enc ps (λr a=>by simp[yV m n r ((qb (by omega)) r a) ((u3.mp hw.2.2.2) r a)]) λr _ _=>by simp
  have z:ps.length<ald:=gb (by omega);have e:decide (((k:Nat):Int)<=(a8.cnt (cE m) ps:Nat))=decide (k<=a8.cnt (cE m) ps):=decide_eq_decide.mpr (by omega);simp only[i',yq,Ie,a8.fills];simp only[hh m]at c ⊢;simp[GN,c,z,CG,e]
def ZF(h:m<64)(a:List Nat):wN [a' m,.l (a.map a')]=pure (.v (.av (tI a m))):=by
 have b:=Eo h;have q:=En h;have fa:(a.map a').all D.flat=true:=by rw[List.all_map];exact alW.mpr λ_ _=>rfl
 have c:gE fL (aj (kG false) (aj ph (J 1) (bl lq (aR (d5 (aR (J 0)))))) (J 2)) [.e,.v (a' m),.b5 (a.map a')] ((fx m).map a')=pure ((fx m).map λk=>D.av (a.contains (m-2 ^ k))):=
  rm a' _ (fx m) fun k b=>by
   obtain⟨f,g⟩:=(E7 h).mp b;have mo:lq [.l [a' k]]=pure (.v (a' (2 ^ k))):=by
    have:=wZ [k] (by intro j i;rw[alB.mp i];omega)
    rwa[OF]at this
   have ox:=(LX h f g).1;have p:(m:Int)-((2 ^ k:Nat):Int)=((m-2 ^ k:Nat):Int):=by
    by_cases z:2 ^ k<=m
    .omega
    .exfalso
     have all:∀m:_root_.Fin 64,∀k:_root_.Fin 6,cE m.val k.val=true->2 ^ k.val<=m.val:=by decide +kernel
     exact z (all ⟨m,h⟩ ⟨k,f⟩ g)
   have key:kG false (.v (a' (m-2 ^ k))) (.b5 (a.map a'))=pure (.v (.av (a.contains (m-2 ^ k)))):=by
    show(if(a' (m-2 ^ k)).flat=true/\(a.map a').all D.flat=true then pure (R.v (D.av (if false=true then !inD (a' (m-2 ^ k)) (a.map a')else inD (a' (m-2 ^ k)) (a.map a'))))else bad)=_;rw[if_pos ⟨rfl,fa⟩,if_neg alg,Ny]
   have d:ph (.v (a' m)) (.v (a' (2 ^ k)))=pure (.v (a' (m-2 ^ k))):=by
    show pure (R.v (D.int ((m:Int)-((2 ^ k:Nat):Int))))=_;rw[p];rfl
   simp[mo,d,key]
 have z:(fx m).length<ald:=gb (by omega);have n:((fx m).map λk=>a.contains (m-2 ^ k)).any id=(fx m).any λk=>a.contains (m-2 ^ k):=by rw[List.any_map];rfl
 have bm:=yx (λk=>a.contains (m-2 ^ k)) (fx m);unfold tI;rw[<-n];simp only[wN,ID];simp only[hh m]at c b ⊢;simp only[List.contains_eq_mem]at c bm ⊢;simp[b,c,z,bm]
def Ol{r:a8}(hw:r.wf)(hd:r.deep<12)(hl:r.names.length<=1000):wW [enc r]=pure (.fr ((least r).map a')):=by
 have c:=named_eq hw hd hl;have a:=zZ r hw;have d:=aa2 a;have j:(within (fx (maskOf r.names))).length<=64:=by
  rw[Q6];have:=En a;show _<=2 ^ 6;exact aot (by decide) this
 have bg:gE (aU (bl (i' 12) (bz (J 1) (J 0)))) (J 0) [.e,.v (enc r)] ((within (fx (maskOf r.names))).map a')=pure ((filling r (maskOf r.names)).map a'):=
  ov a' (λm=>r.fills (cE m)) a' _ (λm _=>by simp[yV m 12 r hd hw]) λm _ _=>by simp
 have b:∀x∈filling r (maskOf r.names),x<64:=λx f=>((z0 a).mp f).1
 have g:(filling r (maskOf r.names)).length<=64:=alR (amM _ _) j;have aj:gE (aU (bl wN (bz (J 0) (J 1)))) (J 0) [.e,.v (.l ((filling r (maskOf r.names)).map a'))] ((filling r (maskOf r.names)).map a')=pure ((least r).map a'):=
  ov a' (tI (filling r (maskOf r.names))) a' _ (λm hm=>by simp[ZF (b m hm)]) λm _ _=>by simp
 have i:(within (fx (maskOf r.names))).length<ald:=gb (by omega);have h:(filling r (maskOf r.names)).length<ald:=gb (by omega);simp only[wW,IZ,I0];simp[c,d,bg,i,aj,h]
end dW
namespace jj
open gh i2
def tj(a k:a8):Nat:=maskOf a.names ||| maskOf k.names
def aa0(xs:List Nat):∀a:List Nat,maskOf (xs++a)=maskOf xs ||| maskOf a:=by
 intro a;have:∀n,∀a:List Nat,a.length=n->maskOf (xs++a)=maskOf xs ||| maskOf a:=by
  intro n
  induction n with
  |zero=>intro a h;rw[anl.mp h,aml];exact(Nat.or_zero _).symm|succ n b=>
   intro a h;rcases List.eq_nil_or_concat a with rfl|⟨l,k,rfl⟩
   .cases h
   .rw[List.concat_eq_append]at h ⊢
    rw[alb,amj]at h;rw[<-am6,aC.E4,b l (by omega),aC.E4,Nat.or_assoc]
 exact this _ _ rfl
def L_{a k:a8}(c:a.wf)(d:k.wf):tj a k=kE λj=>(a.names++k.names).contains j:=by
 unfold tj;rw[<-aa0,zY];intro n b;rcases al6.mp b with h|h
 .exact qB a c n h
 .exact qB k d n h
def L'{a k:a8}(b:a.wf)(c:k.wf):tj a k<64:=by rw[L_ b c];exact E9 _
end jj
namespace dW
open PySem PySem.Spec aA aC i2 gh jj
def jy(a k:a8):D:=.t [enc a,enc k]
def aa6(b:Good a)(c:Good k):zT [jy a k]=pure (.v (a' (tj a k))):=by
 have d:=named_eq b.1 (by have:=b.2.1;omega) (by have:=b.2.2;omega);have e:=named_eq c.1 (by have:=c.2.1;omega) (by have:=c.2.2;omega);unfold jy;simp only[zT,I8];simp only[hh]at d e ⊢;simp[d,e,FC,tj]
def Zr(j:Nat)(a:List Nat):kG false (.v (a' j)) (.v (.l (a.map a')))=pure (.v (.av (a.contains j))):=by
 have fa:(a.map a').all D.flat=true:=by rw[List.all_map];exact alW.mpr λ_ _=>rfl
 show(if(a' j).flat=true/\(a.map a').all D.flat=true then pure (R.v (D.av (if false=true then !inD (a' j) (a.map a')else inD (a' j) (a.map a'))))else bad)=_;rw[if_pos ⟨rfl,fa⟩,if_neg alg,Ny]
def Z3:∀m:Nat,m<64->fx m=(alD 6).filter (cE m):=by decide +kernel
def Z2{a k:a8}(b:a.wf)(c:k.wf):fx (tj a k)=(alD 6).filter λj=>(a.names++k.names).contains j:=by
 rw[Z3 _ (L' b c),L_ b c];exact List.filter_congr λj d=>z4 _ j (alZ.mp d)
def aa7{a k:a8}(b:Good a)(c:Good k):mn [jy a k]=pure (.fr (((alD 6).filter λj=>(a.names++k.names).contains j).map a')):=by
 have e:=Eo (L' b.1 c.1);rw[Z2 b.1 c.1]at e;have aY:b7 (jy a k)=.v (jy a k):=rfl;simp only[mn,I9];simp[aY,(aa6 b c),e]
end dW
namespace dW
open PySem PySem.Spec aA aC gh i2 jj
abbrev d2:=Int×Int
abbrev d8(s:d2):D:=.t [.int s.1,.int s.2]
structure fl where
 k:Nat
 s:d2
 w:D
abbrev eG(g:fl):D:=.t [a' g.k,d8 g.s,g.w]
def V5(ps:List fl)(h:∀p∈ps,p.k<6)(hl:ps.length<=1000):o5 [.l (ps.map eG)]=pure (.v (a' (maskOf (ps.map (·.k))))):=by
 have c:gE fL (a_ 0 0) [.e] (ps.map eG)=pure (ps.map (a'∘λp=>p.k)):=rm eG _ ps λp _=>by simp
 have m:=wZ (ps.map (·.k)) (λk b=>by obtain⟨p,a,rfl⟩:=alK.mp b;have:=h p a;omega);rw[amZ]at m;simp only[o5,Ik];simp[c,(gb (by omega)),m]
def L9(s t:d2):oEq (.v (d8 s)) (.v (d8 t))=pure (.v (.av (decide (s=t)))):=by
 rw[rv rfl rfl]
 congr 3
 obtain⟨a,b⟩:=s;obtain⟨c,d⟩:=t;rw[amB];simp[eB,mx]
def acs(s t:d2):d7 (.v (d8 s)) (.v (d8 t))=pure (.v (.av (!decide (s=t)))):=by
 rw[th rfl rfl]
 congr 4
 obtain⟨a,b⟩:=s;obtain⟨c,d⟩:=t;rw[amB];simp[eB,mx]
def R3(ps:List fl)(a:fl)(hl:(a::ps).length<=1000):wF [.l ((a::ps).map eG)]=pure (.v (.av ((a::ps).all λp=>decide (p.s=a.s)))):=by
 have c:gE fL (aj oEq (a_ 0 1) (gf (a_ 1 0) 1)) [.e,.b5 ((a::ps).map eG)] ((a::ps).map eG)=pure ((a::ps).map λp=>D.av (decide (p.s=a.s))):=
  rm eG _ _ λp _=>by
   simp[ (L9 p.s a.s)]
 have b:=yx (λp:fl=>decide (p.s=a.s)) (a::ps);generalize d:a::ps=o at *;simp only[wF,H4];simp[c,(gb (by omega)),b]
def yk(s t:d2):Bool:=decide (t.1<s.1)||decide (s.1=t.1)&&decide (t.2<s.2)
def aaC(s t:d2):oU [s.1,s.2] [t.1,t.2]=yk s t:=by
 unfold oU yk;rw[Oq,Oq]
 by_cases bB:s.1=t.1
 .rw[if_pos bB,bB]
  by_cases bY:s.2=t.2
  .rw[if_pos bY,bY]
   simp[h9]
  .rw[if_neg bY];simp
 .rw[if_neg bB]
  simp[bB]
def w1(b p:fl):fl:=if yk p.s b.s=true then p else b
def jr(p:fl)(ps:List fl):fl:=ps.foldl w1 p
abbrev nJ:bq:=fnOf 1 1 (aZ (a_ 0 1))
def akC(p:fl):qs nJ (eG p)=some [p.s.1,p.s.2]:=by
 rfl
theorem E5:∀(ps:List fl)(b:fl),mr nJ (eG b) [b.s.1,b.s.2] (ps.map eG)=some (eG (jr b ps))
 |[],b=>rfl|p::ps,b=>by
  unfold jr;rw[api];show(match qs nJ (eG p)with|some es=>if oU es [b.s.1,b.s.2]=true then mr nJ (eG p) es (ps.map eG)else mr nJ (eG b) [b.s.1,b.s.2] (ps.map eG)|none=>none)=_;show(if oU [p.s.1,p.s.2] [b.s.1,b.s.2]=true then mr nJ (eG p) [p.s.1,p.s.2] (ps.map eG)else mr nJ (eG b) [b.s.1,b.s.2] (ps.map eG))=_;rw[aaC];unfold w1
  by_cases q:yk p.s b.s=true
  .rw[if_pos q,if_pos q];exact E5 ps p
  .rw[if_neg q,if_neg q];exact E5 ps b
def za(op:D)(g:fl):D:=.t [d8 g.s,if g.s=(0,0)then op else g.w]
def YA(p:fl)(ps:List fl)(op:D)(c:b7 op=.v op)(hl:(p::ps).length<64):zN [.l ((p::ps).map eG),op]=pure (.v (za op (jr p ps))):=by
 have e:qy nJ ((p::ps).map eG)=some (eG (jr p ps)):=by
  exact E5 ps p
 generalize jr p ps=b at *;generalize p::ps=o at *;have a:=L9 b.s (0,0);have z:(o.map eG).length<64:=by rw[ala];exact hl
 have d:Dd nJ (.b5 (o.map eG))=pure (.v (eG b)):=by
  show(match qy nJ (o.map eG)with|some r=>if(o.map eG).length<64 then(pure (R.v r):M R)else bad|none=>bad)=_;rw[e];dsimp only;rw[if_pos z]
 unfold za;simp only[zN,Cf,Ip,Iq]
 by_cases q:b.s=(0,0)
 .rw[q]at a
  simp[c,d,q,a]
 .simp[q]at a
  simp[c,d,q,a]
end dW
namespace dW
open PySem PySem.Spec aA aC
def h3{n N:Nat}{b:aM}{ds:List D}(h:ds.length=n)(e:b (ds.map b7++alp (N-n) .e)=pure (.b9 (.v d))):fnOf n N b ds=pure (.v d):=by
 rw[yN,if_pos h,e];rfl
def pz{a b:aM}(e:a U=pure (.bA U')):bN a b U=b U':=by rw[bN,e];rfl
def Gh{a b:aM}{r:R}(e:a U=pure (.b9 r)):bN a b U=pure (.b9 r):=by rw[bN,e];rfl
def tG{t:aG->M Bool}{a b:aM}(e:t U=pure true):b8 t a b U=a U:=by rw[b8,e];rfl
def oP{t:aG->M Bool}{a b:aM}(e:t U=pure false):b8 t a b U=b U:=by rw[b8,e];rfl
def adm{a b:aG->M Bool}(h:a U=pure true):fK a b U=pure true:=by show(a U >>= _)=_;rw[h];rfl
def xe{a b:aG->M Bool}(h:a U=pure false):fK a b U=b U:=by show(a U >>= _)=_;rw[h];rfl
def z_{a:aG->M Bool}(h:a U=pure true):eg a U=pure false:=by show(a U >>= _)=_;rw[h];rfl
def iM{m:bt}(h:m U=pure (.v (.av b))):aU m U=pure b:=by show(m U >>= _)=_;rw[h];rfl
def HA{a b:aG->M Bool}(h:a U=pure true):hX a b U=b U:=by show(a U >>= _)=_;rw[h];rfl
def R7{a b:aG->M Bool}(h:a U=pure false):hX a b U=pure false:=by show(a U >>= _)=_;rw[h];rfl
def fq{f:R->R->M R}{a b:bt}{r:M R}(e:f x y=r)(aq:a U=pure x)(aE:b U=pure y):aj f a b U=r:=by
 show(a U >>= _)=_;rw[aq];rw[aE];exact e
def j_{m:bt}{U:aG}(e:m U=pure (.v d)):ck i m U=pure (.bA (U.set i (.v d))):=by show(m U >>= _)=_;rw[e];rfl
def jf{m:bt}(e:m U=pure (.v d)):aZ m U=pure (.b9 (.v d)):=by show(m U >>= _)=_;rw[e];rfl
def call_of{mf:bq}{ms:cP}{rs:List R}{r:M R}(aq:ms U=pure rs)(e:mf (rs.map R.arg)=r):bl mf ms U=r:=by show(ms U >>= _)=_;rw[aq];exact e
def m'{f:List R->M R}{ms:cP}{r:M R}(e:f rs=r)(aq:ms U=pure rs):cF f ms U=r:=by show(ms U >>= _)=_;rw[aq];exact e
def cons_of{m:bt}{ms:cP}(e:m U=pure x)(aq:ms U=pure xs):dj m ms U=pure (x::xs):=by show(m U >>= _)=_;rw[e];rw[aq];rfl
def afk{m:bt}{U:aG}{r:R}(e:m U=pure r)(h:r.dat=pure d):ck i m U=pure (.bA (U.set i (.v d))):=by show(m U >>= _)=_;rw[e];show(r.dat >>= _)=_;rw[h];rfl
def adO{U:aG}:nc i (d5 b') U=pure (.bA (U.set i (.dO false []))):=rfl
def Mn{it:fB}{U U':aG}(aq:it U=pure ds)(e:jU (λd U=>b (U.set i (.v d))) ds U=pure (.bA U')):i5 i it b U=pure (.bA U'):=by
 show(it U >>= _)=_;rw[aq];exact e
def su{a b:bt}(aq:a U=pure (.v x))(aE:b U=pure (.v y)):bO (bz a b) U=pure (.v (.t [x,y])):=by
 show(dj a (aR b) U >>= _)=_;rw[cons_of aq (cons_of aE rfl)];rfl
def yH{it:fB}{t:aG->M Bool}{ds xs:List D}(aq:it U=pure ds)(z:ds.length<ald)(e:gE t el (h2 n cap U) ds=pure xs):fb n cap it t el U=pure (.fr xs):=by
 show(it U >>= _)=_;rw[aq];show(hL (ds.length<ald) >>= _)=_;unfold hL;rw[if_pos z];rw[e];rfl
def UQ(e:m=pure (.v d)):(m >>= R.dat)=pure d:=by rw[e];rfl
def Dh{n N:Nat}{b:aM}{ds xs:List D}(h:ds.length=n)(e:b (ds.map b7++alp (N-n) .e)=pure (.b9 (.fr xs))):fnOf n N b ds=pure (.fr xs):=by
 rw[yN,if_pos h,e];rfl
def ui{a b:Int}(h:0<b):oMod (.v (.int a)) (.v (.int b))=pure (.v (.int (a % b))):=if_pos h
def C4{a b:Int}:oEq (.v (.int a)) (.v (.int b))=pure (.v (.av (decide (a=b)))):=rfl
def aky{i:Int}{v:D}(e:d4 xs i=some v):c0 (.v (.l xs)) (.v (.int i))=pure (.v v):=by
 show(match d4 xs i with|some d=>pure (R.v d)|none=>bad)=_;rw[e]
def ZL{i:Int}{v:D}(e:d4 xs i=some v):c0 (.fr xs) (.v (.int i))=pure (.v v):=by
 show(match d4 xs i with|some d=>pure (R.v d)|none=>bad)=_;rw[e]
def Ow{ms:cP}{ds:List D}(e:ms U=pure rs)(h:kr rs=pure ds)(z:ds.length<=1000):d5 ms U=pure (.fr ds):=by
 show(ms U >>= _)=_;rw[e];show(kr rs >>= _)=_;rw[h];show(hL (ds.length<=1000) >>= _)=_;unfold hL;rw[if_pos z];rfl
def abd{a b:Int}(h:iC a b):nT (.v (.int a)) (.v (.int b))=pure (.v (.int (a*b))):=if_pos h
def ay{α:Type}(S:bG)(m:M α)(a:α):Prop:=m.run S=.ok a S
def bw{α:Type}(S:bG)(m:N α)(a:α)(b:bG):Prop:=m.run S=.ok a b
section
variable{α β:Type}{S S1 aW:bG}{U U':aG}
def ay.of(h:m=pure a):ay S m a:=by rw[h];rfl
def ax:ay S (pure a) a:=rfl
theorem ay.bind{f:α->M β}(h:ay S m a)(d:ay S (f a) b):ay S (m >>= f) b:=by
 show(match m.run S with|.ok a S1=>(f a).run S1|.exc c S1=>.exc c S1|.bad=>.bad)=_;rw[show m.run S=.ok a S from h];exact d
def bw.bind{f:α->N β}(h:bw S m a S1)(d:bw S1 (f a) b aW):bw S (m >>= f) b aW:=by
 show(match m.run S with|.ok a S1=>(f a).run S1|.exc c S1=>.exc c S1|.bad=>.bad)=_;rw[show m.run S=.ok a S1 from h];exact d
def ay.to{m:M α}(h:ay S m a):bw S m.up a S:=h
def Ek{p:Prop}[Decidable p](h:p):ay S (hL p) ():=.of (if_pos h)
def cA{f:R->R->M R}{a b:bt}{x y r:R}(e:f x y=pure r)(c:ay S (a U) x)(d:ay S (b U) y):ay S (aj f a b U) r:=c.bind (d.bind (.of e))
def cq:ay S (b' U) []:=.of rfl
def bE{m:bt}{ms:cP}(h:ay S (m U) x)(a:ay S (ms U) xs):ay S (dj m ms U) (x::xs):=h.bind (a.bind ax)
def eQ{mf:bq}{ms:cP}{rs:List R}{r:R}(h:ay S (ms U) rs)(e:ay S (mf (rs.map R.arg)) r):ay S (bl mf ms U) r:=h.bind e
def mc{f:List R->M R}{ms:cP}{r:R}(e:f rs=pure r)(h:ay S (ms U) rs):ay S (cF f ms U) r:=h.bind (.of e)
def nH{ms:cP}{ds:List D}(h:ay S (ms U) rs)(e:kr rs=pure ds)(z:ds.length<=1000):ay S (bO ms U) (.v (.t ds)):=h.bind ((ay.of e).bind ((Ek z).bind ax))
def cH{m:bt}(h:ay S (m U) (.v (.av b))):ay S (aU m U) b:=h.bind ax
def Em{a b:aG->M Bool}(h:ay S (a U) true):ay S (fK a b U) true:=h.bind ax
def nG{a b:aG->M Bool}(h:ay S (a U) false)(c:ay S (b U) x):ay S (fK a b U) x:=h.bind c
def kD{a b:aG->M Bool}(h:ay S (a U) true)(c:ay S (b U) x):ay S (hX a b U) x:=h.bind c
def oR{a b:aG->M Bool}(h:ay S (a U) false):ay S (hX a b U) false:=h.bind ax
def iv{a:aG->M Bool}(h:ay S (a U) x):ay S (eg a U) (!x):=h.bind ax
def El{it:fB}{t:aG->M Bool}{ds xs:List D}(h:ay S (it U) ds)(z:ds.length<ald)(e:ay S (gE t el (h2 n cap U) ds) xs):ay S (fb n cap it t el U) (.fr xs):=h.bind ((Ek z).bind (e.bind ax))
theorem zq{α:Type}{el:bt}(g:α->D)(f:α->D):∀as:List α,(∀a∈as,ay S (el (U.set 0 (.v (g a)))) (.v (f a)))->ay S (gE fL el U (as.map g)) (as.map f)
 |[],_=>.of rfl|a::as,h=>(ay.of (S:=S) (m:=(pure true:M Bool)) rfl).bind ((h a (alo ..)).bind ((ay.of (m:=R.dat (.v (f a))) rfl).bind ((zq g f as λx b=>h x (alh _ b)).bind ax)))
def NS{m:bt}{r:R}(h:ay S (m U) r)(e:r.fz=some ds):ay S (nz m U) ds:=h.bind (by rw[e];exact .of rfl)
def hT{m:bt}{r:R}(h:ay S (m U) r)(e:r.dat=pure d):ay S (ck i m U) (.bA (U.set i (.v d))):=h.bind ((ay.of e).bind ax)
def iw{m:bt}(h:ay S (m U) (.v d)):ay S (aZ m U) (.b9 (.v d)):=h.bind ax
def zr{m:bt}(h:ay S (m U) (.fr xs)):ay S (aZ m U) (.b9 (.fr xs)):=h.bind ax
def qr{t:aG->M Bool}{a b:aM}(h:ay S (t U) true)(c:ay S (a U) o):ay S (b8 t a b U) o:=h.bind c
def nE{t:aG->M Bool}{a b:aM}(h:ay S (t U) false)(c:ay S (b U) o):ay S (b8 t a b U) o:=h.bind c
def tN{a b:aM}(h:ay S (a U) (.bA U'))(c:ay S (b U') o):ay S (bN a b U) o:=h.bind c
def zt{a b:aM}{r:R}(h:ay S (a U) (.b9 r)):ay S (bN a b U) (.b9 r):=h.bind ax
def jD{n N:Nat}{b:aM}{ds:List D}(h:ds.length=n)(e:ay S (b (ds.map b7++alp (N-n) .e)) (.b9 (.v d))):ay S (fnOf n N b ds) (.v d):=by
 rw[yN,if_pos h];exact e.bind ax
def nF(h:S[i]? = some o):ay S (hj (.v (.ref i))) o:=(show ay S My S from rfl).bind (by rw[h];exact .of rfl)
def f9{m:bt}(h:S[i]? = some (.l xs))(a:ay S (m U) (.v (.ref i))):ay S (dq m U) (.mv xs):=a.bind ((nF h).bind ax)
def gX{mf:bq}{mo:bt}{ms:cP}{aX:List (Str×D)}{rs:List R}{r:R}(h:S[i]? = some (.ba c aX))(b:ay S (mo U) (.v (.ref i)))(a:aX.lookup m=none)(d:ay S (ms U) rs)(e:ay S (mf (.ref i::rs.map R.arg)) r):ay S (dk c m mf mo ms U) r:=b.bind ((nF h).bind (by show ay S (if c=c/\aX.lookup m=none then _ else _) _;rw[if_pos ⟨rfl,a⟩];exact d.bind e))
def NP{m:bt}{aX:List (Str×D)}(h:S[i]? = some (.ba c aX))(a:ay S (m U) (.v (.ref i)))(e:aX.lookup f=some d):ay S (bg (bX c f) m U) (.v d):=a.bind ((nF h).bind (by show ay S (if c=c then _ else _) _;rw[if_pos rfl,e];exact .of rfl))
def de{a b:b0}(h:bw S (a U) (.bA U') S1)(c:bw S1 (b U') o aW):bw S (bF a b U) o aW:=h.bind c
def qZ{a b:b0}{r:R}(h:bw S (a U) (.b9 r) S1):bw S (bF a b U) (.b9 r) S1:=h.bind rfl
def pQ{t:aG->N Bool}{a b:b0}(h:bw S (t U) true S1)(c:bw S1 (a U) o aW):bw S (fA t a b U) o aW:=h.bind c
def qY{t:aG->N Bool}{a b:b0}(h:bw S (t U) false S1)(c:bw S1 (b U) o aW):bw S (fA t a b U) o aW:=h.bind c
def pR{t:aG->N Bool}{a b:b0}(h:bw S (t U) false S1)(c:bw S1 (b U) o aW):bw S (bF (fA t a (bU bQ)) b U) o aW:=de (qY h rfl) c
def sH{t:aG->M Bool}{b:b0}(h:ay S (t U) false)(c:bw S (b U) o aW):bw S (bF (bU (b8 t a bQ)) b U) o aW:=de (nE h ax).to c
def G0{m:d3}(h:bw S (m U) (.v d) S1):bw S (gN m U) (.b9 (.v d)) S1:=h.bind rfl
def xS{m:d3}(h:bw S (m U) (.fr xs) S1):bw S (gN m U) (.b9 (.fr xs)) S1:=h.bind rfl
def ahP{m:d3}{r:R}(h:bw S (m U) r S1):bw S (lE m U) (.bA U) S1:=h.bind rfl
def A'{m:d3}{r:R}(h:bw S (m U) r S1)(e:r.dat=pure d):bw S (sG i m U) (.bA (U.set i (.v d))) S1:=h.bind ((ay.of e).to.bind rfl)
def x_call{mf:dC}{ms:cP}{rs:List R}{r:R}(h:ay S (ms U) rs)(aw:rs.all R.hk=true)(e:bw S (mf (rs.map R.arg)) r S1):bw S (iZ mf (dE ms) U) r S1:=(ay.to h).bind (by rw[if_pos aw];exact e)
def mJ{mf:dC}{mo:bt}{ms:gS}{aX:List (Str×D)}{rs:List R}{r:R}(h:S[i]? = some (.ba c aX))(b:ay S (mo U) (.v (.ref i)))(a:aX.lookup m=none)(d:bw S (ms U) rs S)(aw:rs.all R.hk=true)(e:bw S (mf (.ref i::rs.map R.arg)) r S1):bw S (dF c m mf mo ms U) r S1:=b.to.bind ((nF h).to.bind (by show bw S (if c=c/\aX.lookup m=none then _ else _) _ _;rw[if_pos ⟨rfl,a⟩];exact d.bind (by rw[if_pos aw];exact e)))
def Rd{mf:dC}{ms:cP}{rs:List R}(h:ay S (ms U) rs)(aw:rs.all R.hk=true)(e:bw (S++[.ba c []]) (mf (.ref S.length::rs.map R.arg)) (.v .aH) S1):bw S (kR c mf (dE ms) U) (.v (.ref S.length)) S1:=(ay.to h).bind (by
 rw[if_pos aw];exact bw.bind rfl (bw.bind rfl (bw.bind e rfl)))
def qX{n N:Nat}{b:b0}{ds:List D}(h:ds.length=n)(e:bw S (b (ds.map b7++alp (N-n) .e)) (.b9 (.v d)) S1):bw S (fnX n N b ds) (.v d) S1:=by
 unfold fnX;rw[if_pos h];exact e.bind rfl
def u5{n N:Nat}{b:b0}{ds xs:List D}(h:ds.length=n)(e:bw S (b (ds.map b7++alp (N-n) .e)) (.b9 (.fr xs)) S1):bw S (fnX n N b ds) (.fr xs) S1:=by
 unfold fnX;rw[if_pos h];exact e.bind rfl
def GX{n N:Nat}{b:b0}{ds:List D}(h:ds.length=n)(e:bw S (b (ds.map b7++alp (N-n) .e)) (.bA U') S1):bw S (fnX n N b ds) (.v .aH) S1:=by
 unfold fnX;rw[if_pos h];exact e.bind rfl
def x_at{mo:bt}{mv:d3}{aX:List (Str×D)}{r:R}(b:bw S (mv U) r S1)(e:r.dat=pure d)(a:ay S1 (mo U) (.v (.ref i)))(h:S1[i]? = some (.ba c aX))(hl:aX.length<1000):bw S (dU c f mo mv U) (.bA U) (S1.set i (.ba c (ia f d aX))):=b.bind ((ay.of e).to.bind (a.to.bind ((nF h).to.bind (by
 show bw S1 (if c=c/\aX.length<1000 then _ else _) _ _;rw[if_pos ⟨rfl,hl⟩];rfl))))
def GW{mo:bt}{ms:cP}{xs:List D}(b:ay S (mo U) (.v (.ref i)))(c:ay S (ms U) [.v d])(h:S[i]? = some (.l xs))(z:xs.length<ald):bw S (mI kM mo ms U) (.bA U) (S.set i (.l (xs++[d]))):=b.to.bind (c.to.bind ((nF h).to.bind ((ay.to (a:=(R.v .aH,xs++[d])) (.of (by show(hL (xs.length<ald) >>= _)=_;rw[JN z];rfl))).bind rfl)))
def Rf:bw S (ie (c6 (d5 b')) U) (.v (.ref S.length)) (S++[.l []]):=rfl
def Rc{it:fB}(h:ay S (it U) ds)(e:bw S (n6 (λd U=>b (U.set i (.v d))) ds U) o S1):bw S (xP i it b U) o S1:=(ay.to h).bind e
def ahR{b:D->b0}(h:bw S (b d U) (.bA U') S1)(a:bw S1 (n6 b ds U') o aW):bw S (n6 b (d::ds) U) o aW:=h.bind a
def A_{a:aG->N Bool}(h:bw S (a U) x S1):bw S (sI a U) (!x) S1:=h.bind rfl
def A9{m:d3}(h:bw S (m U) (.v (.av b)) S1):bw S (sJ m U) b S1:=h.bind rfl
def Fr(W:List Nat)(S a:bG):Prop:=∀j o,j∉W->S[j]? = some o->a[j]? = some o
def Fr.set(h:i∈W):Fr W S (S.set i o):=λj b a e=>by
 rw[ale (λq:i=j=>a (q▸h))];exact e
def Fr.app:Fr W S (S++l):=λj o _ e=>by
 rw[alz (ak8.mp e).1];exact e
def Fr.refl:Fr W S S:=λ_ _ _ e=>e
def Fr.trans(h:Fr W S S1)(b:Fr W S1 aW):Fr W S aW:=λj o a e=>b j o a (h j o a e)
def get_set(h:S[i]? = some o):(S.set i C)[i]? = some C:=by
 rw[alA (ak8.mp h).1]
def rE:(S++[o])[S.length]? = some o:=by rw[alw (alf _),ang];rfl
end
end dW
namespace dW
open PySem PySem.Spec aA aC i2 gh jj
section
variable{t:aG->M Bool}{a b:aM}{U U':aG}{r:R}
def fY{p:Prop}[Decidable p](h:p):(pure (decide p):M Bool)=pure true:=by rw[decide_eq_true h]
def hM{p:Prop}[Decidable p](h:¬p):(pure (decide p):M Bool)=pure false:=by rw[decide_eq_false h]
def fJ(e:t U=pure false)(h:b U=q):bN (b8 t a bQ) b U=q:=(pz (oP e)).trans h
def st(e:t U=pure true)(h:a U=pure (.b9 r)):bN (b8 t a bQ) b U=pure (.b9 r):=Gh ((tG e).trans h)
def cT(e:a U=pure (.bA U'))(h:b U'=q):bN a b U=q:=(pz e).trans h
def tl{α c:Type}{P:α->Prop}{A B:c}{f:α->c}(e:A=B)(h:∃x,B=f x/\P x):∃x,A=f x/\P x:=e▸h
def and_1{x y:bt}(e:x U=pure (.v (.av true))):jP x y U=y U:=by show(x U >>= _)=_;rw[e];rfl
def wo{l:List Nat}(h:l.length<=1000):nh [.v (.str (bo l))]=pure (.v (.int (l.length:Nat))):=by
 show(if(bo l).length<=ald then pure (R.v (.int ((bo l).length:Nat)))else bad)=_;rw[if_pos (by rw[pI,alM];omega),pI]
def yE{x y:List Nat}(h:x.length+y.length<=1000):pe (.v (.str (bo x))) (.v (.str (bo y)))=pure (.v (.str (bo (x++y)))):=by
 show(if(bo x).length+(bo y).length<=ald then pure (R.v (.str (bo x++bo y)))else bad)=_;rw[if_pos (by rw[pI,pI,alM];omega),agF]
def aeW{m:bt}(e:m U=pure (.fr xs)):aZ m U=pure (.b9 (.fr xs)):=by show(m U >>= _)=_;rw[e];rfl
end
structure bH where
 me:Int
 cv:Int
 h:D
 op:D
 cp:Bool
 c_:Int
 st:d2
 wi:Int
 dG:D
 bT:Str
 c1:D
 b1:List fl
 nI:Nat
 dJ:D
def bH.aX(a:bH)(g:Nat):List (Str×D):=[("me",.int a.me),("epoch",.int a.cv),("hall",a.h),("opening",a.op),("over_known",.av a.cp),("greatest_round",.int a.c_),("last_stamp",d8 a.st),("wishes",.int a.wi),("deed",a.dG),("standing",.str a.bT),("last_outcome",a.c1),("grants",.ref g),("kept_mask",a' a.nI),("told_slate",a.dJ)]
def kn(me cv:Int)(s:d2)(k:Nat):D:=.t [.str "ask",.int me,a' k,.int cv,d8 s,.t []]
def qL(me cv:Int)(s:d2)(l:D)(k:Nat):D:=.t [.str "tell",.int me,a' k,.int cv,d8 s,l]
def Cs:D:=.t [.t [],.t [],.t [.int 0,.aH],.aH]
def r8(me:Int)(h:D):bH:=⟨me,0,h,Cs,false,0,(0,0),0,.aH,"calm",.aH,[],0,.aH⟩
structure dz(S:bG)(i g:Nat)(a:bH):Prop where
 ba:S[i]? = some (.ba "Asker" (a.aX g))
 ls:S[g]? = some (.l (a.b1.map eG))
structure en(S ah:bG)(i g g':Nat)(b:bH):Prop where
 at':dz ah i g' b
 fr:Fr [i,g] S ah
 nw:g'=g\/S.length<=g'
 len:S.length<=ah.length
def d1(S:bG)(i g:Nat)(m:N fR)(b:fR)(c:bH):Prop:=∃a g',bw S m b a/\en S a i g g' c
def bH.Do(a:bH)(mf:dC)(ds d:List D)(b:bH):Prop:=∀(S:bG)(i g:Nat),dz S i g a->∃c g',bw S (mf (.ref i::ds)) (.fr d) c/\en S c i g g' b
section
variable{S S1 aW:bG}{U U':aG}{i g g1 g2 k:Nat}{a b c:bH}{f:Str}{d:D}{mv:bt}{r:R}{bd:b0}{aS:fR}
def nM(h:S[i]? = some o):i<S.length:=(ak8.mp h).1
def dz.ne(h:dz S i g a):i≠g:=λe=>by have:=h.ba;rw[e,h.ls]at this;cases this
def en.refl(h:dz S i g a):en S S i g g a:=⟨h,.refl,.inl rfl,alf _⟩
def en.trans(h:en S S1 i g g1 b)(l:en S1 aW i g1 g2 c):en S aW i g g2 c:=by
 refine⟨l.at',λj o m e=>l.fr j o ?_ (h.fr j o m e),?_,alR h.len l.len⟩
 .have:=nM e
  simp only[alj,alu,or_false,not_or]at m ⊢;rcases h.nw with q|q
  .rw[q];exact m
  .exact⟨m.1,by omega⟩
 .rcases l.nw with q|q
  .rw[q];exact h.nw
  .exact .inr (alR h.len q)
def c5(h:dz S i g a)(j:J k U=pure (.v (.ref i)))(e:(a.aX g).lookup f=some d):ay S (bg (bX "Asker" f) (J k) U) (.v d):=NP h.ba (.of j) e
def Ew:(a.aX g).length<1000:=by show 14<1000;omega
theorem iS(h:dz S i g a)(b:bH)(l:J k U=pure (.v (.ref i)))(m:ay S (mv U) r)(p:r.dat=pure d)(e:ia f d (a.aX g)=b.aX g)(n:b.b1=a.b1)(q:∀S1,dz S1 i g b->d1 S1 i g (bd U) aS c):d1 S i g (bF (dU "Asker" f (J k) (c6 mv)) bd U) aS c:=by
 have j:dz (S.set i (.ba "Asker" (ia f d (a.aX g)))) i g b:=⟨by rw[get_set h.ba,e],by rw[ale h.ne,n];exact h.ls⟩;obtain⟨aW,g2,t,s⟩:=q _ j;exact⟨aW,g2,de (x_at m.to p (.of l) h.ba Ew) t,en.trans ⟨j,.set (by simp),.inl rfl,by rw[alS];exact alf _⟩ s⟩
theorem VY(h:dz S i g a)(b:bH)(p:J k U=pure (.v (.ref i)))(e:∀n,ia ("grants":Str) (D.ref n) (a.aX g)=b.aX n)(u:b.b1=[])(q:∀S1 g1,dz S1 i g1 b->d1 S1 i g1 (bd U) aS c):d1 S i g (bF (dU "Asker" "grants" (J k) (ie (c6 (d5 b')))) bd U) aS c:=by
 have m:(S++[ey.l []])[i]? = some (.ba "Asker" (a.aX g)):=Fr.app _ _ (alu) h.ba;have j:dz ((S++[ey.l []]).set i (.ba "Asker" (ia ("grants":Str) (D.ref S.length) (a.aX g)))) i S.length b:=⟨by rw[get_set m,e],by rw[ale (alQ (nM h.ba)),rE,u];rfl⟩;obtain⟨aW,g2,t,s⟩:=q _ _ j;exact⟨aW,g2,de (x_at Rf rfl (.of p) m Ew) t,en.trans ⟨j,Fr.app.trans (.set (by simp)),.inr (alf _),by rw[alS,alb];omega⟩ s⟩
theorem MD{ms:cP}(h:dz S i g a)(b:bH)(m:J k U=pure (.v (.ref i)))(n:ay S (ms U) [.v (eG x)])(e:b.aX g=a.aX g)(p:b.b1=a.b1++[x])(z:a.b1.length<1000)(q:∀S1,dz S1 i g b->d1 S1 i g (bd U) aS c):d1 S i g (bF (mI kM (bg (bX "Asker" "grants") (J k)) ms) bd U) aS c:=by
 have j:dz (S.set g (.l (a.b1.map eG++[eG x]))) i g b:=⟨by rw[ale h.ne.symm,e];exact h.ba,by rw[get_set h.ls,p,amw];rfl⟩;obtain⟨aW,g2,t,s⟩:=q _ j;exact⟨aW,g2,de (GW (c5 h m rfl) n h.ls (by rw[ala];exact gb (by omega))) t,en.trans ⟨j,.set (by simp),.inl rfl,by rw[alS];exact alf _⟩ s⟩
def BO(h:dz S i g a)(e:J k U=pure (.v (.ref i))):ay S (dq (bg (bX "Asker" "grants") (J k)) U) (.mv (a.b1.map eG)):=f9 h.ls (c5 h e rfl)
def nq{m:aM}(h:dz S i g a)(e:ay S (m U) aS):d1 S i g (bU m U) aS a:=⟨S,g,e,.refl h⟩
theorem hP{t:aG->M Bool}(e:ay S (t U) false)(q:d1 S i g (bd U) aS c):d1 S i g (bF (bU (b8 t m bQ)) bd U) aS c:=by
 obtain⟨aW,g2,t,s⟩:=q;exact⟨aW,g2,sH e t,s⟩
theorem k'{t:aG->M Bool}(e:ay S (t U) false)(q:d1 S i g (bd U) aS c):d1 S i g (bF (fA (gd t) m (bU bQ)) bd U) aS c:=by
 obtain⟨aW,g2,t,s⟩:=q;exact⟨aW,g2,pR e t,s⟩
def rH{t:aG->M Bool}{m:aM}{r:R}(h:dz S i g a)(e:ay S (t U) true)(aE:ay S (m U) (.b9 r)):d1 S i g (bF (bU (b8 t m bQ)) bd U) (.b9 r) a:=⟨S,g,qZ (qr e aE).to,.refl h⟩
theorem vR{t:aG->M Bool}{m:b0}{r:R}(e:ay S (t U) true)(q:d1 S i g (m U) (.b9 r) c):d1 S i g (bF (fA (gd t) m (bU bQ)) bd U) (.b9 r) c:=by
 obtain⟨aW,g2,t,s⟩:=q;exact⟨aW,g2,qZ (pQ e t),s⟩
theorem y4{m:aM}(e:ay S (m U) (.bA U'))(q:d1 S i g (bd U') aS c):d1 S i g (bF (bU m) bd U) aS c:=by
 obtain⟨aW,g2,t,s⟩:=q;exact⟨aW,g2,de (ay.to e) t,s⟩
theorem rG{ms:gS}{rs:List R}(h:dz S i g a)(q:a.Do mf (rs.map R.arg) ys c)(l:J k U=pure (.v (.ref i)))(e:(a.aX g).lookup m=none)(j:bw S (ms U) rs S)(aw:rs.all R.hk=true):d1 S i g (gN (dF "Asker" m mf (J k) ms) U) (.b9 (.fr ys)) c:=by
 obtain⟨aW,g2,t,s⟩:=q _ _ _ h;exact⟨aW,g2,xS (mJ h.ba (.of l) e j aw t),s⟩
theorem hq{n N:Nat}{bd:b0}{ds j:List D}(h:ds.length+1=n)(q:∀S i g,dz S i g a->d1 S i g (bd (.v (.ref i)::ds.map b7++alp (N-n) .e)) (.b9 (.fr j)) c):a.Do (fnX n N bd) ds j c:=λS i g dh=>by
 obtain⟨aW,g2,t,s⟩:=q S i g dh;exact⟨aW,g2,u5 h t,s⟩
end
def bH.asks(a:bH):bH:={ a with c_:=a.c_+1,st:=(a.c_+1,a.me),bT:="asking",b1:=[] }
def BV{a:bH}{ms:List Nat}(hm:mn [a.h]=pure (.fr (ms.map a')))(hl:ms.length<=6) :
  a.Do wA [] (ms.map (kn a.me a.cv (a.c_+1,a.me))) a.asks:=hq rfl λS i g h=>
 iS h { a with c_:=a.c_+1 } rfl (cA rfl (c5 h rfl rfl) ax) rfl rfl rfl λS h=>
 iS h { a with c_:=a.c_+1,st:=(a.c_+1,a.me) } rfl (nH (bE (c5 h rfl rfl) (bE (c5 h rfl rfl) cq)) rfl (alH rfl)) rfl rfl rfl λS h=>
 iS h { a with c_:=a.c_+1,st:=(a.c_+1,a.me),bT:="asking" } rfl ax rfl rfl rfl λS h=>
 VY h a.asks rfl (λ_=>rfl) rfl λS g h=>
 nq h (zr (El (NS (eQ (bE (c5 h rfl rfl) cq) (.of hm)) rfl) (by rw[ala];exact gb (by omega))
  (zq a' (kn a.me a.cv (a.c_+1,a.me)) ms λk _=>eQ (bE (c5 h rfl rfl) (bE ax (bE (c5 h rfl rfl) (bE (c5 h rfl rfl) cq)))) ax)))
def Q'{S:bG}{mv:bt}{aX:List (Str×D)}{a:b0}(h:S[i]? = some (.ba c aX))(e:mv U=pure (.v d))(b:J 0 U=pure (.v (.ref i)))(hl:aX.length<1000)(q:bw (S.set i (.ba c (ia f d aX))) (a U) o C):bw S (bF (dU c f (J 0) (c6 mv)) a U) o C:=de (x_at (ay.of e).to rfl (.of b) h hl) q
def mj{n:Nat}(h:n.ble 999=true):n<1000:=Nat.lt_succ_of_le (alH h)
def Zu(S:bG)(me:Int)(h:D)(dh:b7 h=.v h):∃b,bw (S++[.ba "Asker" []]) (oX [.ref S.length,.int me,h]) (.v .aH) b/\dz b S.length (S.length+1) (r8 me h)/\b.length=S.length+2/\Fr [] S b:=by
 have ne:S.length+1≠S.length:=by omega
 have ap:∀{o a:ey},(S++[o])++[a]=S++[o,a]:=λ{o a}=>by rw[am6];rfl
 have st:∀{o a:ey}{l:bG},(S++o::l).set S.length a=S++a::l:=λ{o a l}=>by rw[List.set_append_right _ _ (alf _),ang];rfl
 have gt:∀{o:ey}{l:bG},(S++o::l)[S.length]? = some o:=λ{o l}=>by rw[alw (alf _),ang];rfl
 refine⟨S++[.ba "Asker" ((r8 me h).aX (S.length+1)),.l []],GX (U':=[.v (.ref S.length),.v (.int me),.v h]) rfl ?_,⟨gt,?_⟩,by rw[alb];rfl,.app⟩
 .show bw _ (HP [.v (.ref S.length),.v (.int me),b7 h]) _ _
  rw[dh]
  repeat' (refine Q' gt (by rfl) rfl (mj rfl) ?_;rw[st])
  refine de (x_at Rf rfl ax (by rw[ap];exact gt) (mj rfl)) ?_;rw[ap,st,alb];refine Q' gt (by rfl) rfl (mj rfl) ?_;rw[st];have:=x_at (S:=S++[ey.ba "Asker" [("me",D.int me),("epoch",.int 0),("hall",h),("opening",Cs),("over_known",.av false),("greatest_round",.int 0),("last_stamp",d8 (0,0)),("wishes",.int 0),("deed",.aH),("standing",.str "calm"),("last_outcome",.aH),("grants",.ref (S.length+1)),("kept_mask",a' 0)],.l []]) (f:="told_slate") (mv:=c6 (a4 .aH)) (U:=[.v (.ref S.length),.v (.int me),.v h]) (mo:=J 0) (i:=S.length) (d:=.aH) (r:=.v .aH) rfl rfl ax gt (mj rfl);rw[st]at this;exact this
 .rw[alw (by omega),Nat.add_sub_cancel_left];rfl
def jg(b:alx x=true)(a:alx y=true):oEq (.v (.str x)) (.v (.str y))=pure (.v (.av (x==y))):=rv b a
def afH(b:alx x=true)(a:alx y=true):d7 (.v (.str x)) (.v (.str y))=pure (.v (.av (!(x==y)))):=th b a
def O_:alx "calm"=true:=by decide +kernel
def O9:alx "asking"=true:=by decide +kernel
def O':alx "telling"=true:=by decide +kernel
def uz:alx "late"=true:=by decide +kernel
def bH.jL(a:bH):Prop:=a.bT="calm"\/a.bT="asking"\/a.bT="telling"
def uR{a:bH}(h:a.jL):alx a.bT=true:=by rcases h with h|h|h<;>rw[h]<;>decide +kernel
def calm_eq{a:bH}(h:a.jL):oEq (.v (.str a.bT)) (.v (.str "calm"))=pure (.v (.av (a.bT == "calm"))):=jg (uR h) O_
def yD{a:bH}(h:a.jL):d7 (.v (.str a.bT)) (.v (.str "calm"))=pure (.v (.av (!(a.bT == "calm")))):=afH (uR h) O_
structure n_(h:D)(ms:List Nat)(fa fk:Nat->Bool):Prop where
 mem:mn [h]=pure (.fr (ms.map a'))
 len:ms.length<=6
 lt:∀k∈ms,k<6
 ne:ms≠[]
 ex:∃x y,h=.t [x,y]/\b7 x=.v x/\b7 y=.v y/\(∀m:Nat,i' 12 [x,a' m]=pure (.v (.av (fa m))))/\∀m:Nat,i' 12 [y,a' m]=pure (.v (.av (fk m)))
def bH.tells(a:bH)(t:D):bH:={ a with bT:="telling",nI:=0,dJ:=t }
def bH.ends(a:bH)(o:D):bH:={ a with bT:="calm",c1:=o }
def bH.vd(a:bH)(mf:dC)(ds:List D)(b:bH):Prop:=∀(S:bG)(i g:Nat),dz S i g a->∃c g',bw S (mf (.ref i::ds)) (.v .aH) c/\en S c i g g' b
section
variable{S S1 aW:bG}{U U':aG}{i g k:Nat}{a b c:bH}{f:Str}{d:D}{mv:bt}{r:R}{bd:b0}{aS:fR}
def aeF(h:dz S i g a)(b:bH)(j:J k U=pure (.v (.ref i)))(l:ay S (mv U) r)(n:r.dat=pure d)(e:ia f d (a.aX g)=b.aX g)(m:b.b1=a.b1):d1 S i g (dU "Asker" f (J k) (c6 mv) U) (.bA U) b:=
 ⟨_,g,x_at l.to n (.of j) h.ba Ew,⟨by rw[get_set h.ba,e],by rw[ale h.ne,m];exact h.ls⟩,.set (by simp),.inl rfl,by rw[alS];exact alf _⟩
theorem tu{t:aG->M Bool}{m n:b0}(e:ay S (t U) true)(q:d1 S i g (m U) aS c):d1 S i g (fA (gd t) m n U) aS c:=by
 obtain⟨aW,h,t,s⟩:=q;exact⟨aW,h,pQ (ay.to e) t,s⟩
theorem ql{t:aG->M Bool}{m n:b0}(e:ay S (t U) false)(q:d1 S i g (n U) aS c):d1 S i g (fA (gd t) m n U) aS c:=by
 obtain⟨aW,h,t,s⟩:=q;exact⟨aW,h,qY (ay.to e) t,s⟩
theorem tf{ms:gS}{rs:List R}(h:dz S i g a)(q:a.vd mf (rs.map R.arg) c)(l:J k U=pure (.v (.ref i)))(e:(a.aX g).lookup m=none)(j:bw S (ms U) rs S)(aw:rs.all R.hk=true):d1 S i g (lE (dF "Asker" m mf (J k) ms) U) (.bA U) c:=by
 obtain⟨aW,n,t,s⟩:=q _ _ _ h;exact⟨aW,n,ahP (mJ h.ba (.of l) e j aw t),s⟩
theorem Dw{m:b0}(q:d1 S i g (m U) (.bA U') b)(p:∀S1 e,dz S1 i e b->d1 S1 i e (bd U') aS c):d1 S i g (bF m bd U) aS c:=by
 obtain⟨S1,e,n,h⟩:=q;obtain⟨aW,l,j,s2⟩:=p S1 e h.at';exact⟨aW,l,de n j,h.trans s2⟩
theorem CW{n N:Nat}{bd:b0}{ds:List D}(h:ds.length+1=n)(q:∀S i g,dz S i g a->∃U',d1 S i g (bd (.v (.ref i)::ds.map b7++alp (N-n) .e)) (.bA U') c):a.vd (fnX n N bd) ds c:=λS i g dh=>by
 obtain⟨U',aW,j,t,s⟩:=q S i g dh;exact⟨aW,j,GX h t,s⟩
end
def yR{a:bH}(b:b7 o=.v o):a.vd qv [o] (a.ends o):=CW rfl λS i g h=>by
 show ∃U',d1 S i g (HT [.v (.ref i),b7 o]) (.bA U') _;rw[b];exact⟨_,iS h { a with bT:="calm" } rfl ax rfl rfl rfl λS h=>aeF h (a.ends o) rfl ax rfl rfl rfl⟩
def gp:D->Bool
 |.aH=>true|_=>false
def Fh(d:D):j4 (.v d) (.v .aH)=pure (.v (.av (!gp d))):=by cases d<;>rfl
def we(d:D):ja (.v d) (.v .aH)=pure (.v (.av (gp d))):=by cases d<;>rfl
def jw(k:Nat)(a e:Int)(s kp:d2)(w:D):D:=.t [.str "grant",a' k,.int a,.int e,d8 s,.t [d8 kp,w]]
def ht(k:Nat)(a e:Int)(s:d2):D:=.t [.str "kept",a' k,.int a,.int e,d8 s,.t []]
def tS(k:Nat)(a e:Int)(s p:d2):D:=.t [.str "late",a' k,.int a,.int e,d8 s,.t [d8 p]]
def bH.got(a:bH)(k:Nat)(kp:d2)(w:D):bH:={ a with b1:=a.b1++[⟨k,kp,w⟩] }
section
variable{a:bH}{ms:List Nat}{fa fk:Nat->Bool}(H:n_ a.h ms fa fk){k:Nat}{me e:Int}{s kp:d2}{w:D}(aK:∀g∈a.b1,g.k<6)(hl:a.b1.length<60)(ar:k<6)
def Dx{a:bH}{S:bG}{i g:Nat}(h:dz S i g a)(aK:∀g∈a.b1,g.k<6)(hl:a.b1.length<=1000)(U:aG):ay S (bl o5 (aR (dq (bg (bX "Asker" "grants") (J 0)))) (.v (.ref i)::U)) (.v (a' (maskOf (a.b1.map (·.k))))):=
 eQ (bE (BO h rfl) cq) (.of (V5 a.b1 aK hl))
def afi{a:bH}(H:n_ a.h ms fa fk){S:bG}{i g:Nat}(h:dz S i g a)(d:a.b1=p::ps)(aK:∀g∈a.b1,g.k<6)(hl:a.b1.length<=1000){z:Bool}(hw:b7 w=.v w)(hz:ml [w]=pure (.v (.av z))) :
  ay S (wC [.ref i,w]) (.v (.av (!z&&(a.b1.all λg=>decide (g.s=p.s))&&fk (maskOf (a.b1.map (·.k)))))):=by
 obtain⟨x,y,j,m,l,_,f⟩:=H.ex;have c:=R3 ps p (by rw[<-d];exact hl);rw[<-d]at c;have al:ay S (aU (bl wF (aR (dq (bg (bX "Asker" "grants") (J 0))))) [.v (.ref i),.v w]) (a.b1.all λg=>decide (g.s=p.s)):=cH (eQ (bE (BO h rfl) cq) (.of c));refine jD rfl ?_;show ay S (HY [.v (.ref i),b7 w]) _;rw[hw];generalize(a.b1.all λg=>decide (g.s=p.s))=o at *;have b:ay S (aU (bl ml (aR (J 1))) [.v (.ref i),.v w]) z:=.of (iM (call_of (rs:=[.v w]) rfl hz))
 cases z with
 |true=>exact zt (qr (Em b) (iw ax))|false=>
  cases o with
  |false=>exact zt (qr (nG b (iv al)) (iw ax))| true=>exact tN (nE (nG b (iv al)) ax) (iw (eQ (bE (cA (x:=.v (.t [x,y])) (r:=.v y) rfl (c5 h rfl (by show some a.h=_;rw[j])) ax) (bE (Dx h aK hl _) cq)) (.of (f _))))
def bH.yg(a:bH)(w:D)(b:Bool):Prop:=∀S i g,dz S i g a->ay S (wC [.ref i,w]) (.v (.av b))
def V0{a:bH}{s:d2}(hd:a.dG=.aH)(aw:a.yg w true):a.Do tY [.t [d8 s,w]] [] (a.ends (.t [.str "saw",.t [.int a.cv,d8 s,w]])):=hq rfl λS i g h=>
 vR (kD (cH (cA (by rw[we,hd];rfl) (c5 (d:=a.dG) h rfl rfl) ax)) (cH (gX h.ba ax rfl (bE (x:=.v w) ax cq) (aw S i g h))))<|
  Dw (tf (rs:=[.v (.t [.str "saw",.t [.int a.cv,d8 s,w]])]) h (yR rfl) rfl rfl (ay.to (bE (nH (bE ax (bE (nH (bE (c5 h rfl rfl) (bE ax (bE ax cq))) rfl (alH rfl)) cq)) rfl (alH rfl)) cq)) rfl) λS g h=>nq h ax
theorem V1{a:bH}{ms:List Nat}{s:d2}{w:D}(hm:mn [a.h]=pure (.fr (ms.map a')))(hl:ms.length<=6)(hd:gp a.dG=false\/a.yg w false){t:D}
  (c:nN [w,.int a.me,.int a.wi,a.dG]=pure (.v t)) :
  a.Do tY [.t [d8 s,w]] (ms.map (qL a.me a.cv a.st (.t [d8 s,.int a.wi,a.dG,t]))) (a.tells t):=hq rfl λS i g h=>by
 have d:ay S (hX (aU (aj ja (bg (bX "Asker" "deed") (J 0)) (a4 .aH))) (aU (dk "Asker" "sees_at_once" wC (J 0) (aR (a_ 1 1)))) [.v (.ref i),.v (.t [d8 s,w]),.e]) false:=by
  have b:ay S (aU (aj ja (bg (bX "Asker" "deed") (J 0)) (a4 .aH)) [.v (.ref i),.v (.t [d8 s,w]),.e]) (gp a.dG):=cH (cA (we a.dG) (c5 h rfl rfl) ax)
  cases q:gp a.dG with
  |false=>rw[q]at b;exact oR b|true=>
   rw[q]at b;rcases hd with z|z
   .rw[q]at z;cases z
   .exact kD b (cH (gX h.ba ax rfl (bE (x:=.v w) ax cq) (z S i g h)))
 exact k' d<|
  iS h { a with bT:="telling" } rfl ax rfl rfl rfl λS h=>
  iS h { a with bT:="telling",nI:=0 } rfl ax rfl rfl rfl λS h=>
  iS h (a.tells t) rfl (eQ (bE ax (bE (c5 h rfl rfl) (bE (c5 h rfl rfl) (bE (c5 h rfl rfl) cq)))) (.of c)) rfl rfl rfl λS h=>
  y4 (hT (nH (bE ax (bE (c5 h rfl rfl) (bE (c5 h rfl rfl) (bE (c5 h rfl rfl) cq)))) rfl (alH rfl)) rfl)<|
  nq h (zr (El (NS (eQ (bE (c5 h rfl rfl) cq) (.of hm)) rfl) (by rw[ala];exact gb (by omega))
   (zq a' (qL a.me a.cv a.st (.t [d8 s,.int a.wi,a.dG,t])) ms λk _=>eQ (bE (c5 h rfl rfl) (bE ax (bE (c5 h rfl rfl) (bE (c5 h rfl rfl) (bE ax cq))))) ax)))
include aK hl
theorem DU{S:bG}(h:dz S i g a):ay S (aU (bl qx (bz (bl o5 (aR (dq (bg (bX "Asker" "grants") (J 0))))) (a_ 1 1))) [.v (.ref i),.v (jw k me e s kp w)]) (cE (maskOf (a.b1.map (·.k))) k):=
 cH (eQ (bE (Dx h aK (by omega) _) (bE ax cq)) (.of (DD _ k)))
theorem Yh(q:cE (maskOf (a.b1.map (·.k))) k=true):a.Do tZ [jw k me e s kp w] [] a:=hq rfl λS i g h=>
 rH h (by have:=DU (k:=k) (me:=me) (e:=e) (s:=s) (kp:=kp) (w:=w) aK hl h;rw[q]at this;exact this) ax
include H ar
theorem ME{S:bG}(h:dz S i g (a.got k kp w)):ay S (eg (aU (bl (i' 12) (bz (gf (bg (bX "Asker" "hall") (J 0)) 0) (bl o5 (aR (dq (bg (bX "Asker" "grants") (J 0)))))))) [.v (.ref i),.v (jw k me e s kp w)]) (!fa (maskOf ((a.got k kp w).b1.map (·.k)))):=by
 obtain⟨x,y,d,_,_,b,_⟩:=H.ex;have c:=Dx h (λg h=>by
  rcases al6.mp h with h|h
  .exact aK g h
  .rw[alB.mp h];exact ar) (by show(a.b1++[_]).length<=1000;rw[alb];show _+1<=_;omega) [.v (jw k me e s kp w)]
 exact iv (cH (eQ (bE (cA (x:=.v (.t [x,y])) (r:=.v x) rfl (c5 h rfl (by show some a.h=_;rw[d])) ax) (bE c cq)) (.of (b _))))
theorem Yd(q:cE (maskOf (a.b1.map (·.k))) k=false)(bY:fa (maskOf ((a.got k kp w).b1.map (·.k)))=false):a.Do tZ [jw k me e s kp w] [] (a.got k kp w):=hq rfl λS i g h=>
 hP (by have:=DU (k:=k) (me:=me) (e:=e) (s:=s) (kp:=kp) (w:=w) aK hl h;rw[q]at this;exact this)<|
 MD h (a.got k kp w) rfl (bE (x:=.v (eG ⟨k,kp,w⟩)) ax cq) rfl rfl (by omega) λS h=>
 rH h (by have:=ME (me:=me) (e:=e) (s:=s) H aK hl ar h;rw[bY]at this;exact this) ax
theorem Yg{Y:List D}{t:bH}{p:fl}{ps:List fl}(b:(a.got k kp w).b1=p::ps)(c:b7 a.op=.v a.op)(q:cE (maskOf (a.b1.map (·.k))) k=false)(bY:fa (maskOf ((a.got k kp w).b1.map (·.k)))=true)
  (go:(a.got k kp w).Do tY [za a.op (jr p ps)] Y t):a.Do tZ [jw k me e s kp w] Y t:=by
 have hi:=YA p ps a.op c (by rw[<-b];show(a.b1++[_]).length<64;rw[alb];show _+1 < _;omega);rw[<-b]at hi;exact hq rfl λS i g h=>
  hP (by have:=DU (k:=k) (me:=me) (e:=e) (s:=s) (kp:=kp) (w:=w) aK hl h;rw[q]at this;exact this)<|
  MD h (a.got k kp w) rfl (bE (x:=.v (eG ⟨k,kp,w⟩)) ax cq) rfl rfl (by omega) λS h=>
  hP (by have:=ME (me:=me) (e:=e) (s:=s) H aK hl ar h;rw[bY]at this;exact this)<|
  rG (rs:=[.v (za a.op (jr p ps))]) h go rfl rfl (ay.to (bE (eQ (bE (BO h rfl) (bE (c5 h rfl rfl) cq)) (.of hi)) cq)) rfl
end
structure Told(dJ:D)(me n:Int)(dt aY:D)(cp:Bool):Prop where
 qc:∃x,qw [dJ,.int me]=pure (.v (.t [x,.int n,dt]))
 dQ:o_ [dJ]=pure (.v aY)
 is:ml [dJ]=pure (.v (.av (!gp aY)))
 lX:oEq (.v aY) (.v (.str "over"))=pure (.v (.av cp))
 ss:b7 aY=.v aY
def bH.gk(a:bH)(n:Int)(dt aY:D)(cp:Bool):bH:=
 if(!gp a.dG)=true then(if n=a.wi then a.ends (.t [.str "did",dt])else a)
 else if(gp aY)=true then a.ends (.t [.str "saw",.t [.int a.cv,d8 a.st,a.dJ]])
 else if cp=true then a.ends (.t [.str "saw",.t [.int a.cv,.aH,a.dJ]])else a
def U2{a:bH}{n:Int}{dt aY:D}(t:Told a.dJ a.me n dt aY cp):a.vd EO [] (a.gk n dt aY cp):=CW rfl λS i g h=>by
 obtain⟨⟨x,p⟩,l,s,j,_⟩:=t;have q:ay S (aU (aj j4 (bg (bX "Asker" "deed") (J 0)) (a4 .aH)) [.v (.ref i),.v a.dJ,.e]) (!gp a.dG):=cH (cA (Fh a.dG) (c5 h rfl rfl) ax);have is:ay S (eg (aU (bl ml (aR (J 1)))) [.v (.ref i),.v a.dJ,.e]) (!!gp aY):=iv (cH (eQ (rs:=[.v a.dJ]) ax (.of s)));have dQ:ay S (aU (aj oEq (bl o_ (aR (J 1))) (a4 (.str "over"))) [.v (.ref i),.v a.dJ,.e]) cp:=cH (cA j (eQ (rs:=[.v a.dJ]) ax (.of l)) ax);unfold bH.gk;have st:∀{o c},d1 S i g (HS [.v (.ref i),.v a.dJ,.e]) o c->d1 S i g (HR [.v (.ref i),.e,.e]) o c:=λq=>y4 (hT (r:=.v a.dJ) (c5 h rfl rfl) rfl) q
 cases e:gp a.dG with
 |false=>
  rw[e]at q;rw[if_pos (by rfl)];have qc:∀{m:b0}{o c},d1 S i g (m [.v (.ref i),.v a.dJ,.v (.t [x,.int n,dt])]) o c->d1 S i g (bF (bU (ck 2 (bl qw (bz (J 1) (bg (bX "Asker" "me") (J 0)))))) m [.v (.ref i),.v a.dJ,.e]) o c:=λq=>y4 (hT (r:=.v (.t [x,.int n,dt])) (eQ (rs:=[.v a.dJ,.v (.int a.me)]) (bE ax (bE (c5 h rfl rfl) cq)) (.of p)) rfl) q
  have eq:ay S (aU (aj oEq (a_ 2 1) (bg (bX "Asker" "wishes") (J 0))) [.v (.ref i),.v a.dJ,.v (.t [x,.int n,dt])]) (decide (n=a.wi)):=cH (cA C4 ax (c5 (d:=.int a.wi) h rfl rfl))
  by_cases c:n=a.wi
  .rw[if_pos c]
   rw[decide_eq_true c]at eq;exact⟨_,st<|tu q<|qc<|tu eq<|tf (rs:=[.v (.t [.str "did",dt])]) h (yR rfl) rfl rfl (ay.to ax) rfl⟩
  .rw[if_neg c]
   rw[decide_eq_false c]at eq;exact⟨_,st<|tu q<|qc<|ql eq<|nq h ax⟩
 |true=>
  rw[e]at q;rw[if_neg (by simp)];have f:∀{b:bt}{w:D},ay S (b [.v (.ref i),.v a.dJ,.e]) (.v w)->d1 S i g (lE (dF "Asker" "end_wish" qv (J 0) (dE (aR (bO (bz (a4 (.str "saw")) (bO (c4 (bg (bX "Asker" "epoch") (J 0)) b (J 1)))))))) [.v (.ref i),.v a.dJ,.e]) (.bA [.v (.ref i),.v a.dJ,.e]) (a.ends (.t [.str "saw",.t [.int a.cv,w,a.dJ]])):=λ{b w} k=>
   tf (rs:=[.v (.t [.str "saw",.t [.int a.cv,w,a.dJ]])]) h (yR rfl) rfl rfl (ay.to (bE (nH (bE ax (bE (nH (bE (c5 h rfl rfl) (bE k (bE ax cq))) rfl (alH rfl)) cq)) rfl (alH rfl)) cq)) rfl
  cases aE:gp aY with
  |true=>
   rw[aE]at is;rw[if_pos rfl];exact⟨_,st<|ql q<|tu is<|f (c5 h rfl rfl)⟩
  |false=>
   rw[aE]at is;rw[if_neg alg]
   cases cp with
   |true=>rw[if_pos rfl];exact⟨_,st<|ql q<|ql is<|tu dQ<|f ax⟩|false=>rw[if_neg alg];exact⟨_,st<|ql q<|ql is<|ql dQ<|nq h ax⟩
def bH.rW(a:bH):bH:=if(a.bT == "calm")=true then{ a with cp:=true }else{ a with cp:=true,bT:="calm",c1:=.t [.str "over",.aH] }
def aaz{a:bH}(aw:a.jL):a.vd EP [] a.rW:=CW rfl λS i g h=>by
 have ne:∀{S},dz S i g { a with cp:=true }->ay S (aU (aj d7 (bg (bX "Asker" "standing") (J 0)) (a4 (.str "calm"))) [.v (.ref i)]) (!(a.bT == "calm")):=λh=>cH (cA (yD aw) (c5 (d:=.str a.bT) h rfl rfl) ax)
 unfold bH.rW
 by_cases c:(a.bT == "calm")=true
 .rw[if_pos c]
  exact⟨_,iS h { a with cp:=true } rfl ax rfl rfl rfl λS h=>ql (by have:=ne h;rw[c]at this;exact this) (nq h ax)⟩
 .rw[if_neg c]
  exact⟨_,iS h { a with cp:=true } rfl ax rfl rfl rfl λS h=>tu (by have:=ne h;rw[show(a.bT == "calm")=false by simpa using c]at this;exact this) (tf (rs:=[.v (.t [.str "over",.aH])]) h (yR rfl) rfl rfl (ay.to ax) rfl)⟩
def bH.over(a:bH)(h o:D):bH:={ a with cv:=a.cv+1,h:=h,op:=o }
section
variable{a:bH}(aw:a.jL){dh o:D}(hl:b7 dh=.v dh)(a3:uf [a.dJ]=pure (.v o))
include hl a3
theorem Ph{S:bG}(h:dz S i g a)(p:∀b,dz b i g (a.over dh o)->d1 b i g (HV [.v (.ref i),.v dh]) C c):d1 S i g (HU [.v (.ref i),b7 dh]) C c:=by
 rw[hl];exact iS h { a with cv:=a.cv+1 } rfl (cA rfl (c5 h rfl rfl) ax) rfl rfl rfl λS h=>
  iS h { a with cv:=a.cv+1,h:=dh } rfl ax rfl rfl rfl λS h=>
  iS h (a.over dh o) rfl (eQ (rs:=[.v a.dJ]) (bE (c5 h rfl rfl) cq) (.of a3)) rfl rfl rfl p
include aw
theorem V2(c:a.bT="calm"):a.Do r0 [dh] [] (a.over dh o):=hq rfl λS i g h=>Ph hl a3 h λS h=>
 rH h (cH (cA (by rw[calm_eq aw,c,beq_self_eq_true]) (c5 (d:=.str a.bT) h rfl rfl) ax)) ax
theorem V3(c:a.bT≠"calm"){ms:List Nat}(hm:mn [dh]=pure (.fr (ms.map a')))(b:ms.length<=6):a.Do r0 [dh] (ms.map (kn a.me (a.cv+1) (a.c_+1,a.me))) (a.over dh o).asks:=hq rfl λS i g h=>Ph hl a3 h λS h=>
 hP (cH (cA (by rw[calm_eq aw,show(a.bT == "calm")=false by simpa using c]) (c5 (d:=.str a.bT) h rfl rfl) ax))<|rG (rs:=[]) h (BV (a:=a.over dh o) hm b) rfl rfl rfl rfl
end
def vH(a:bH)(n:Int)(dt aY:D)(cp:Bool):(∃o,(o=.t [.str "did",dt]\/∃x y z,o=.t [.str "saw",.t [.int x,y,a.dJ]]/\(y=.aH\/y=d8 z))/\a.gk n dt aY cp=a.ends o)\/a.gk n dt aY cp=a:=by
 unfold bH.gk;split
 .split
  .exact .inl ⟨_,.inl rfl,rfl⟩
  .exact .inr rfl
 .split
  .exact .inl ⟨_,.inr ⟨_,_,a.st,rfl,.inr rfl⟩,rfl⟩
  .split
   .exact .inl ⟨_,.inr ⟨_,_,a.st,rfl,.inl rfl⟩,rfl⟩
   .exact .inr rfl
def L7(a:bH)(n:Int)(dt aY:D)(cp:Bool):(a.gk n dt aY cp).dJ=a.dJ:=by rcases vH a n dt aY cp with⟨o,_,e⟩|e<;>rw[e]<;>rfl
def U4(a:bH)(n:Int)(dt aY:D)(cp:Bool):(a.gk n dt aY cp).cv=a.cv:=by rcases vH a n dt aY cp with⟨o,_,e⟩|e<;>rw[e]<;>rfl
def C2(a:bH)(n:Int)(dt aY:D)(cp:Bool):(a.gk n dt aY cp).wi=a.wi:=by rcases vH a n dt aY cp with⟨o,_,e⟩|e<;>rw[e]<;>rfl
def U6{a:bH}(h:a.jL)(n:Int)(dt aY:D)(cp:Bool):(a.gk n dt aY cp).jL:=by
 rcases vH a n dt aY cp with⟨o,_,e⟩|e<;>rw[e]
 .exact .inl rfl
 .exact h
def or_eq(m n:Nat):uu (.v (a' m)) (.v (a' n))=pure (.v (a' (m ||| n))):=by
 rw[hh,hh,hh,<-FC];rfl
def bH.gF(a:bH)(k:Nat):bH:={ a with nI:=a.nI ||| maskOf [k] }
section
variable{a:bH}{ms:List Nat}{fa fk:Nat->Bool}(H:n_ a.h ms fa fk){k:Nat}{me e:Int}{s:d2}(ar:k<6)
include H ar
theorem NW{S:bG}(h:dz S i g (a.gF k)):ay S (eg (aU (bl (i' 12) (bz (gf (bg (bX "Asker" "hall") (J 0)) 1) (bg (bX "Asker" "kept_mask") (J 0))))) [.v (.ref i),.v (ht k me e s),s2]) (!fk (a.gF k).nI):=by
 obtain⟨x,y,c,_,_,_,b⟩:=H.ex;exact iv (cH (eQ (bE (cA (x:=.v (.t [x,y])) (r:=.v y) rfl (c5 h rfl (by show some a.h=_;rw[c])) ax) (bE (c5 h rfl rfl) cq)) (.of (b _))))
theorem NX{S:bG}(h:dz S i g a)(p:∀b,dz b i g (a.gF k)->d1 b i g (HW [.v (.ref i),.v (ht k me e s),.e]) o c):d1 S i g (B2 [.v (.ref i),.v (ht k me e s),.e]) o c:=
 iS h (a.gF k) rfl (cA (or_eq a.nI (maskOf [k])) (c5 h rfl rfl) (eQ (.of (cons_of (Ow (cons_of (fq rfl rfl rfl) rfl) rfl (alH rfl)) rfl)) (.of (wZ [k] λj d=>by rw[alB.mp d];omega)))) rfl rfl rfl p
theorem Yi(q:fk (a.gF k).nI=false):a.Do r1 [ht k me e s] [] (a.gF k):=hq rfl λS i g h=>
 NX H ar h λS h=>rH h (by have:=NW (me:=me) (e:=e) (s:=s) (s2:=.e) H ar h;rw[q]at this;exact this) ax
variable{n:Int}{dt aY:D}{cp:Bool}(t:Told a.dJ a.me n dt aY cp)(q:fk (a.gF k).nI=true)
include t q
theorem Ep{S:bG}(h:dz S i g a)(p:∀b d,dz b i d ((a.gF k).gk n dt aY cp)->d1 b i d (B3 [.v (.ref i),.v (ht k me e s),.v aY]) o c):d1 S i g (B2 [.v (.ref i),.v (ht k me e s),.e]) o c:=
 NX H ar h λS h=>hP (by have:=NW (me:=me) (e:=e) (s:=s) (s2:=.e) H ar h;rw[q]at this;exact this)<|
 Dw (tf (rs:=[]) h (U2 t) rfl rfl rfl rfl) λS g h=>
 y4 (hT (eQ (bE (c5 h rfl (by show some ((a.gF k).gk n dt aY cp).dJ=_;rw[L7];rfl)) cq) (.of t.dQ)) rfl) (p S g h)
theorem Yl(b:gp aY=true):a.Do r1 [ht k me e s] [] ((a.gF k).gk n dt aY cp):=hq rfl λS i g h=>Ep H ar t q h λS g h=>
 rH h (cH (cA ((we aY).trans (by rw[b])) ax ax)) ax
variable(aB:gp aY=false)
include aB
theorem NY{S:bG}(p:d1 S i g (HX [.v (.ref i),.v (ht k me e s),.v aY]) o c):d1 S i g (B3 [.v (.ref i),.v (ht k me e s),.v aY]) o c:=
 hP (cH (cA ((we aY).trans (by rw[aB])) ax ax)) p
theorem Ym(aw:a.jL)(b:cp=true):a.Do r1 [ht k me e s] [] ((a.gF k).gk n dt aY cp).rW:=hq rfl λS i g h=>Ep H ar t q h λS g h=>NY H ar t q aB<|
 vR (cH (cA (t.lX.trans (by rw[b])) ax ax))<|Dw (U':=[.v (.ref i),.v (ht k me e s),.v aY]) (tf (rs:=[]) h (aaz (U6 (a:=a.gF k) aw _ _ _ _)) rfl rfl rfl rfl) λS g h=>nq h ax
theorem MY(b:cp=false)(lo:((a.gF k).gk n dt aY cp).Do r0 [aY] Y c):a.Do r1 [ht k me e s] Y c:=hq rfl λS i g h=>Ep H ar t q h λS g h=>NY H ar t q aB<|
 k' (cH (cA (t.lX.trans (by rw[b])) ax ax))<|rG (rs:=[.v aY]) h lo rfl rfl (ay.to ax) rfl
end
def Zs(j:Nat)(a:List Nat):kG false (.v (a' j)) (.fr (a.map a'))=pure (.v (.av (a.contains j))):=Zr j a
def OS{a b:Int}:d7 (.v (.int a)) (.v (.int b))=pure (.v (.av (!decide (a=b)))):=rfl
def bH.now(a:bH)(ms:List Nat)(k:Nat)(e:Int)(s:d2):Bool:=decide (e=a.cv)&&decide (s=a.st)&&ms.contains k
def ZE{a:bH}{S:bG}(h:dz S i g a)(H:n_ a.h ms fa fk)(w c:D)(k:Nat)(b e:Int)(s:d2):ay S (zH [.ref i,.t [w,a' k,.int b,.int e,d8 s,c]]) (.v (.av (a.now ms k e s))):=by
 refine jD rfl ?_;have d:ay S (aU (aj d7 (a_ 1 3) (bg (bX "Asker" "epoch") (J 0))) [.v (.ref i),.v (.t [w,a' k,.int b,.int e,d8 s,c])]) (!decide (e=a.cv)):=cH (cA OS ax (c5 h rfl rfl));have f:ay S (aU (aj d7 (a_ 1 4) (bg (bX "Asker" "last_stamp") (J 0))) [.v (.ref i),.v (.t [w,a' k,.int b,.int e,d8 s,c])]) (!decide (s=a.st)):=cH (cA (acs s a.st) ax (c5 h rfl rfl));unfold bH.now;generalize decide (e=a.cv)=o at *;generalize decide (s=a.st)=C at *
 cases o with
 |false=>exact zt (qr (Em d) ax)|true=>
  cases C with
  |false=>exact zt (qr (nG d f) ax)|true=>exact tN (nE (nG d f) ax) (iw (cA (Zs k ms) ax (eQ (bE (c5 h rfl rfl) cq) (.of H.mem))))
def sd:alx "grant"=true:=by decide +kernel
def Fw:alx "kept"=true:=by decide +kernel
def aaG:oEq (.v (.str "late")) (.v (.str "late"))=pure (.v (.av true)):=by rw[jg uz uz,beq_self_eq_true]
def Dv:oEq (.v (.str "grant")) (.v (.str "late"))=pure (.v (.av false)):=by rw[jg sd uz];rfl
def MA:oEq (.v (.str "grant")) (.v (.str "grant"))=pure (.v (.av true)):=by rw[jg sd sd,beq_self_eq_true]
def VX:oEq (.v (.str "grant")) (.v (.str "kept"))=pure (.v (.av false)):=by rw[jg sd Fw];rfl
def bH.zB(a:bH)(r:Int):bH:={ a with c_:=if r > a.c_ then r else a.c_ }
section
variable{a:bH}{ms:List Nat}{fa fk:Nat->Bool}{S:bG}{i g:Nat}(H:n_ a.h ms fa fk){k:Nat}{e:Int}{s kp:d2}{w:D}
def uD(h:dz S i g a)(x b:D)(k:Nat)(e:Int)(s:d2):ay S (aU (aj d7 (a_ 1 2) (bg (bX "Asker" "me") (J 0))) [.v (.ref i),.v (.t [x,a' k,.int a.me,.int e,d8 s,b])]) false:=
 cH (cA (OS.trans (by rw[decide_eq_true rfl];rfl)) ax (c5 (d:=.int a.me) h rfl rfl))
theorem Yn(p:d2):a.Do iV [tS k a.me e s p] [] (a.zB p.1):=hq rfl λS i g h=>
 hP (uD h (.str "late") (.t [d8 p]) k e s)<|vR (cH (cA aaG ax ax))<|
 iS h (a.zB p.1) rfl (mc (r:=.v (.int (a.zB p.1).c_)) rfl (bE (c5 h rfl rfl) (bE ax cq))) rfl rfl rfl λS h=>nq h ax
include H
theorem w8(h:dz S i g a)(x c:D)(k:Nat)(b e:Int)(s:d2):ay S (eg (aU (dk "Asker" "is_for_now" zH (J 0) (aR (J 1)))) [.v (.ref i),.v (.t [x,a' k,.int b,.int e,d8 s,c])]) (!a.now ms k e s):=
 iv (cH (gX h.ba ax rfl (bE ax cq) (ZE h H x c k b e s)))
theorem MZ(x b:D)(c:oEq (.v x) (.v (.str "late"))=pure (.v (.av false)))(q:a.now ms k e s=false):a.Do iV [.t [x,a' k,.int a.me,.int e,d8 s,b]] [] a:=hq rfl λS i g h=>
 hP (uD h x b k e s)<|k' (cH (cA c ax ax))<|rH h (by have:=w8 H h x b k a.me e s;rw[q]at this;exact this) ax
variable(aw:a.jL)
include aw
theorem DK(q:a.now ms k e s=true)(c:a.bT="asking"){t:bH}(g:a.Do tZ [jw k a.me e s kp w] Y t):a.Do iV [jw k a.me e s kp w] Y t:=hq rfl λS i j h=>
 hP (uD h (.str "grant") (.t [d8 kp,w]) k e s)<|k' (cH (cA Dv ax ax))<|
 hP (by have:=w8 H h (.str "grant") (.t [d8 kp,w]) k a.me e s;rw[q]at this;exact this)<|
 vR (kD (cH (cA MA ax ax)) (cH (cA (by rw[jg (uR aw) O9,c,beq_self_eq_true]) (c5 h rfl rfl) ax)))<|
 rG (rs:=[.v (jw k a.me e s kp w)]) h g rfl rfl (ay.to ax) rfl
theorem Ye(q:a.now ms k e s=true)(c:a.bT≠"asking"):a.Do iV [jw k a.me e s kp w] [] a:=hq rfl λS i j h=>
 hP (uD h (.str "grant") (.t [d8 kp,w]) k e s)<|k' (cH (cA Dv ax ax))<|
 hP (by have:=w8 H h (.str "grant") (.t [d8 kp,w]) k a.me e s;rw[q]at this;exact this)<|
 k' (kD (cH (cA MA ax ax)) (cH (cA (by rw[jg (uR aw) O9,show(a.bT == "asking")=false by simpa using c]) (c5 h rfl rfl) ax)))<|
 k' (oR (cH (cA VX ax ax)))<|nq h ax
end
section
variable{a:bH}{ms:List Nat}(hm:mn [a.h]=pure (.fr (ms.map a')))(hl:ms.length<=6)
include hm hl
theorem Tz(aw:a.jL)(c:a.bT≠"calm"):a.Do qu [] (ms.map (kn a.me a.cv (a.c_+1,a.me))) a.asks:=hq rfl λS i g h=>
 hP (cH (cA (by rw[calm_eq aw,show(a.bT == "calm")=false by simpa using c]) (c5 h rfl rfl) ax))<|rG (rs:=[]) h (BV hm hl) rfl rfl rfl rfl
def bH.m9(a:bH)(d:D):bH:={ a with wi:=a.wi+1,dG:=d,c1:=.aH }
theorem Tu(aw:a.bT="calm")(c:a.cp=false)(hd:b7 d=.v d)(b:d=.aH\/nO [d]=pure (.v (.av true))):a.Do oY [d] (ms.map (kn a.me a.cv (a.c_+1,a.me))) (a.m9 d).asks:=hq rfl λS i g h=>by
 show d1 S i g (HQ [.v (.ref i),b7 d]) _ _;rw[hd];have nn:ay S (aU (aj j4 (J 1) (a4 .aH)) [.v (.ref i),.v d]) (!gp d):=cH (cA (Fh d) ax ax);have e:ay S (hX (aU (aj j4 (J 1) (a4 .aH))) (eg (aU (bl nO (aR (J 1))))) [.v (.ref i),.v d]) false:=by
  rcases b with rfl|b
  .exact oR nn
  .cases q:gp d with
   |true=>rw[q]at nn;exact oR nn|false=>rw[q]at nn;exact kD nn (iv (cH (eQ (bE (x:=.v d) ax cq) (.of b))))
 exact hP e<|
  hP (cH (c5 h rfl (by show some (D.av a.cp)=_;rw[c])))<|
  hP (cH (cA (by rw[yD (a:=a) (.inl aw),aw,beq_self_eq_true];rfl) (c5 h rfl rfl) ax))<|
  iS h { a with wi:=a.wi+1 } rfl (cA rfl (c5 h rfl rfl) ax) rfl rfl rfl λS h=>
  iS h { a with wi:=a.wi+1,dG:=d } rfl ax rfl rfl rfl λS h=>
  iS h (a.m9 d) rfl ax rfl rfl rfl λS h=>
  rG (rs:=[]) h (BV (a:=a.m9 d) hm hl) rfl rfl rfl rfl
end
def Tv{a:bH}(c:a.bT="calm"):a.Do qu [] [] a:=hq rfl λS i g h=>
 rH h (cH (cA (by rw[calm_eq (.inl c),c,beq_self_eq_true]) (c5 (d:=.str a.bT) h rfl rfl) ax)) ax
def Ah:alx "kept"=true:=by decide +kernel
def Et:oEq (.v (.str "kept")) (.v (.str "late"))=pure (.v (.av false)):=by rw[jg Ah uz];rfl
def N3:oEq (.v (.str "kept")) (.v (.str "grant"))=pure (.v (.av false)):=by rw[jg Ah sd];rfl
def N4:oEq (.v (.str "kept")) (.v (.str "kept"))=pure (.v (.av true)):=by rw[jg Ah Ah,beq_self_eq_true]
section
variable{a:bH}{ms:List Nat}{fa fk:Nat->Bool}(H:n_ a.h ms fa fk)(aw:a.jL){k:Nat}{e:Int}{s:d2}
include H aw
theorem v7(q:a.now ms k e s=true)(c:a.bT="telling"){t:bH}(g:a.Do r1 [ht k a.me e s] Y t):a.Do iV [ht k a.me e s] Y t:=hq rfl λS i j h=>
 hP (uD h (.str "kept") (.t []) k e s)<|k' (cH (cA Et ax ax))<|
 hP (by have:=w8 H h (.str "kept") (.t []) k a.me e s;rw[q]at this;exact this)<|
 k' (oR (cH (cA N3 ax ax)))<|
 vR (kD (cH (cA N4 ax ax)) (cH (cA (by rw[jg (uR aw) O',c,beq_self_eq_true]) (c5 h rfl rfl) ax)))<|
 rG (rs:=[.v (ht k a.me e s)]) h g rfl rfl (ay.to ax) rfl
theorem Yj(q:a.now ms k e s=true)(c:a.bT≠"telling"):a.Do iV [ht k a.me e s] [] a:=hq rfl λS i j h=>
 hP (uD h (.str "kept") (.t []) k e s)<|k' (cH (cA Et ax ax))<|
 hP (by have:=w8 H h (.str "kept") (.t []) k a.me e s;rw[q]at this;exact this)<|
 k' (oR (cH (cA N3 ax ax)))<|
 k' (kD (cH (cA N4 ax ax)) (cH (cA (by rw[jg (uR aw) O',show(a.bT == "telling")=false by simpa using c]) (c5 h rfl rfl) ax)))<|
 nq h ax
end
structure dc where
 as:List bH
 bs:List D
 ls:List D
 rs:List D
structure iK where
 a:Nat
 b:Nat
 l:Nat
 r:Nat
 q:List (Nat×Nat)
def iK.has(p:iK)(i y:Nat):Prop:=y=i\/y∈[p.a,p.b,p.l,p.r]\/∃x∈p.q,y=x.1\/y=x.2
def iK.aX(p:iK):List (Str×D):=[("askers",.ref p.a),("books",.ref p.b),("letters",.ref p.l),("rows",.ref p.r)]
structure lM(S:bG)(A:Nat)(L:List Nat)(q:List (Nat×Nat))(as:List bH):Prop where
 al:S[A]? = some (.l (q.map λx=>.ref x.1))
 len:q.length=as.length
 as:∀(k:Nat)(x:Nat×Nat)(a:bH),q[k]? = some x->as[k]? = some a->dz S x.1 x.2 a
 nl:(A::L).Nodup
 uq:∀x∈q,x.2∉A::L
 fI:∀(j k:Nat)(x y:Nat×Nat),q[j]? = some x->q[k]? = some y->j≠k->x.1≠y.1/\x.2≠y.2
 tW:∀y∈L,∃xs,S[y]? = some (.l xs)
structure eI(S:bG)(i:Nat)(p:iK)(h:dc):Prop extends lM S p.a [p.b,p.l,p.r] p.q h.as where
 ba:S[i]? = some (.ba "House" p.aX)
 bs:S[p.b]? = some (.l h.bs)
 ls:S[p.l]? = some (.l h.ls)
 rs:S[p.r]? = some (.l h.rs)
structure lL(S ah:bG)(i:Nat)(p gJ:iK)(h:dc):Prop where
 at':eI ah i gJ h
 fr:∀j o,¬p.has i j->S[j]? = some o->ah[j]? = some o
 nw:∀x,gJ.has i x->p.has i x\/S.length<=x
 len:S.length<=ah.length
def dc.Do(h:dc)(mf:dC)(ds:List D)(r:R)(h':dc):Prop:=∀(S:bG)(i:Nat)(p:iK),eI S i p h->∃a b,bw S (mf (.ref i::ds)) r a/\lL S a i p b h'
def dc.put(h:dc)(k:Nat)(a:bH):dc:={ h with as:=h.as.set k a }
def dc.wr(h:dc)(L:List D):dc:={ h with ls:=h.ls++L }
def dc.row(h:dc)(r:D):dc:={ h with rs:=h.rs++[r] }
def dc.bk(h:dc)(k:Nat)(b:D):dc:={ h with bs:=h.bs.set k b }
def r7{S:bG}{x y:Nat}{o b:ey}(a:S[x]? = some o)(c:S[y]? = some b)(n:o≠b):x≠y:=λe=>n (by rw[e,c]at a;exact(alE a).symm)
section
variable{S S1 aW:bG}{i k:Nat}{p p1 cG:iK}{h ab af:dc}{x:Nat×Nat}{a b:bH}{U:aG}
theorem lL.trans(s:lL S S1 i p p1 ab)(t:lL S1 aW i p1 cG af):lL S aW i p cG af:=
 ⟨t.at',λj o c e=>t.fr j o (λz=>(s.nw j z).elim c λz=>by have:=nM e;omega) (s.fr j o c e),λx z=>(t.nw x z).elim (s.nw x) λz=>.inr (alR s.len z),alR s.len t.len⟩
section
variable{A:Nat}{L:List Nat}{q:List (Nat×Nat)}{as:List bH}(Q:lM S A L q as)
include Q
theorem lM.wt(d:y∈A::L\/∃x∈q,y=x.1\/y=x.2):y<S.length:=by
 rcases d with z|⟨x,o,z⟩
 .rcases alj.mp z with rfl|z
  .exact nM Q.al
  .obtain⟨xs,e⟩:=Q.tW y z;exact nM e
 .obtain⟨k,c⟩:=amz.mp o
  have hl:=(ak8.mp c).1;have C:=Q.as k x _ c (aln (by rw[<-Q.len];exact hl));rcases z with rfl|rfl
  .exact nM C.ba
  .exact nM C.ls
theorem lM.ex(e:as[k]? = some a):∃x,q[k]? = some x/\dz S x.1 x.2 a:=by
 have hl:k<q.length:=by rw[Q.len];exact(ak8.mp e).1
 exact⟨_,aln hl,Q.as k _ a (aln hl) e⟩
theorem lM.keep{d:bG}(f:∀y o,(y∈A::L\/∃x∈q,y=x.1\/y=x.2)->S[y]? = some o->d[y]? = some o):lM d A L q as:=
 ⟨f _ _ (.inl alo) Q.al,Q.len,λj x a ex g=>by
  have C:=Q.as j x a ex g;have m:=alF ex;exact⟨f _ _ (.inr ⟨x,m,.inl rfl⟩) C.ba,f _ _ (.inr ⟨x,m,.inr rfl⟩) C.ls⟩,Q.nl,Q.uq,Q.fI,λy c=>by obtain⟨xs,e⟩:=Q.tW y c;exact⟨xs,f _ _ (.inl (alh _ c)) e⟩⟩
theorem lM.step(t:q[k]? = some x)(M:as[k]? = some a)(s:en S S1 x.1 x.2 g' b):lM S1 A L (q.set k (x.1,g')) (as.set k b)/\∀y xs,y∈A::L->S[y]? = some (.l xs)->S1[y]? = some (.l xs):=by
 have C:=Q.as k x a t M;have F:=(ak8.mp t).1;have K:=alF t;have keep:∀y o,S[y]? = some o->y≠x.1->y≠x.2->S1[y]? = some o:=λy o e r g=>s.fr y o (by simp[r,g]) e
 have H:∀y xs,y∈A::L->S[y]? = some (.l xs)->S1[y]? = some (.l xs):=λy xs f e=>keep y _ e (r7 e C.ba (by intro z;cases z)) λz=>Q.uq x K (z▸f)
 have bB:(q.set k (x.1,g')).map (λx=>aC.D.ref x.1)=q.map λx=>aC.D.ref x.1:=by
  rw[List.map_set];refine List.ext_getElem? λj=>?_
  by_cases c:k=j
  .subst c
   rw[alA (by rw[ala];exact F),alr,t];rfl
  .rw[ale c]
 have J:∀y,y<S.length->x.2≠y->g'≠y:=λy f n=>by
  rcases s.nw with z|z
  .rw[z];exact n
  .omega
 have E:∀m w,k≠m->q[m]? = some w->x.1≠w.1/\g'≠w.2:=λm w hm N=>by
  obtain⟨r,g⟩:=Q.fI k m x w t N hm;exact⟨r,J _ (Q.wt (.inr ⟨w,alF N,.inr rfl⟩)) g⟩
 refine⟨⟨by rw[bB];exact H _ _ alo Q.al,by rw[alS,alS];exact Q.len,λj y c u G=>?_,Q.nl,λy f=>?_,λj l y z B el ne=>?_,λy f=>by obtain⟨xs,e⟩:=Q.tW y f;exact⟨xs,H y xs (alh _ f) e⟩⟩,H⟩
 .by_cases d:k=j
  .subst d
   rw[alA F]at u;rw[alA (ak8.mp M).1]at G;cases u;cases G;exact s.at'
  .rw[ale d]at u G
   have D:=Q.as j y c u G;obtain⟨r,g⟩:=Q.fI j k y x u t (anG d);exact⟨keep _ _ D.ba r (r7 D.ba C.ls (by intro z;cases z)),keep _ _ D.ls (r7 D.ls C.ba (by intro z;cases z)) g⟩
 .rcases am8 f with z|rfl
  .exact Q.uq y z
  .exact λz=>J g' (Q.wt (.inl z)) (λe=>Q.uq x K (e▸z)) rfl
 .by_cases bg:k=j
  .subst bg
   rw[alA F]at B;rw[ale ne]at el;cases B;exact E l z ne el
  .rw[ale bg]at B
   by_cases aj:k=l
   .subst aj
    rw[alA F]at el;cases el;obtain⟨r,g⟩:=E j y (anG ne) B;exact⟨r.symm,g.symm⟩
   .rw[ale aj]at el
    exact Q.fI j l y z B el ne
theorem lM.put(d:c∈L):lM (S.set c (.l ys)) A L q as:=by
 obtain⟨xs,hl⟩:=Q.tW c d;have na:c≠A:=λz=>(al7.mp Q.nl).1 (z▸d)
 refine⟨by rw[ale na];exact Q.al,Q.len,λk x a f he=>?_,Q.nl,Q.uq,Q.fI,λy g=>?_⟩
 .have C:=Q.as k x a f he
  exact⟨by rw[ale (r7 hl C.ba (by intro z;cases z))];exact C.ba,by rw[ale λz:c=x.2=>Q.uq x (alF f) (z▸alh _ d)];exact C.ls⟩
 .by_cases e:c=y
  .rw[<-e];exact⟨ys,get_set hl⟩
  .rw[ale e];exact Q.tW y g
end
def eI.lt(H:eI S i p h)(c:p.has i y):y<S.length:=by
 rcases c with rfl|z|z
 .exact nM H.ba
 .exact H.wt (.inl z)
 .exact H.wt (.inr z)
def eI.step(H:eI S i p h)(d:p.q[k]? = some x)(l:h.as[k]? = some a)(s:en S S1 x.1 x.2 g' b):lL S S1 i p { p with q:=p.q.set k (x.1,g') } (h.put k b):=by
 obtain⟨Q,f⟩:=H.tolM.step d l s;have A:=H.as k x a d l;have c:=alF d;refine⟨⟨Q,s.fr i _ (by simp only[alj,alu,or_false,not_or];exact⟨r7 H.ba A.ba (by intro z;injection z with z _;exact absurd z (by decide)),r7 H.ba A.ls (by intro z;cases z)⟩) H.ba,f _ _ (by simp) H.bs,f _ _ (by simp) H.ls,f _ _ (by simp) H.rs⟩,λj o g e=>s.fr j o (by
  simp only[alj,alu,or_false,not_or];exact⟨λz=>g (.inr (.inr ⟨x,c,.inl z⟩)),λz=>g (.inr (.inr ⟨x,c,.inr z⟩))⟩) e,λy m=>?_,s.len⟩
 rcases m with z|z|⟨w,hw,z⟩
 .exact .inl (.inl z)
 .exact .inl (.inr (.inl z))
 .rcases am8 hw with v|rfl
  .exact .inl (.inr (.inr ⟨w,v,z⟩))
  .rcases z with z|z
   .exact .inl (.inr (.inr ⟨x,c,.inl z⟩))
   .rcases s.nw with v|v
    .exact .inl (.inr (.inr ⟨x,c,.inr (z.trans v)⟩))
    .exact .inr (by rw[z];exact v)
def eI.FW{h':dc}(H:eI S i p h)(d:c∈[p.b,p.l,p.r])(g:h'.as=h.as)(aq:(S.set c (.l ys))[p.b]? = some (.l h'.bs))(aE:(S.set c (.l ys))[p.l]? = some (.l h'.ls))(cX:(S.set c (.l ys))[p.r]? = some (.l h'.rs)):lL S (S.set c (.l ys)) i p p h':=by
 obtain⟨xs,hl⟩:=H.tW c d;exact⟨⟨by rw[g];exact H.tolM.put d,by rw[ale (r7 hl H.ba (by intro z;cases z))];exact H.ba,aq,aE,cX⟩,λj m f e=>by rw[ale λz:c=j=>f (z▸.inr (.inl (alh _ d)))];exact e,λ_ z=>.inl z,by rw[alS];exact alf _⟩
def eI.ns(H:eI S i p h):p.b≠p.l/\p.b≠p.r/\p.l≠p.r:=by
 have:=H.nl;simp only[al7,alj,alu,or_false,not_or]at this;exact⟨this.2.1.1,this.2.1.2,this.2.2.1⟩
def eI.wr(H:eI S i p h)(L:List D):lL S (S.set p.l (.l (h.ls++L))) i p p (h.wr L):=by
 obtain⟨c,e,d⟩:=H.ns;exact H.FW (by simp) rfl (by rw[ale c.symm];exact H.bs) (get_set H.ls) (by rw[ale d];exact H.rs)
def eI.row(H:eI S i p h)(r:D):lL S (S.set p.r (.l (h.rs++[r]))) i p p (h.row r):=by
 obtain⟨e,c,d⟩:=H.ns;exact H.FW (by simp) rfl (by rw[ale c.symm];exact H.bs) (by rw[ale d.symm];exact H.ls) (get_set H.rs)
def eI.bk(H:eI S i p h)(j:Nat)(b:D):lL S (S.set p.b (.l (h.bs.set j b))) i p p (h.bk j b):=by
 obtain⟨d,c,e⟩:=H.ns;exact H.FW (by simp) rfl (get_set H.bs) (by rw[ale d];exact H.ls) (by rw[ale c];exact H.rs)
def Ei{f g:R->R->M R}{a b c:bt}{x y w r:R}(ab:ay S (a U) x)(af:ay S (b U) y)(e:f x y=pure (.v (.av true)))(d:ay S (c U) w)(aE:g y w=pure r):ay S (e' f g a b c U) r:=
 ab.bind (af.bind ((ay.of e).bind ((ay.of (m:=R.qM (.v (.av true))) (a:=true) rfl).bind (d.bind (.of aE)))))
def ZZ{n N:Nat}{b:aM}{ds xs:List D}(h:ds.length=n)(e:ay S (b (ds.map b7++alp (N-n) .e)) (.b9 (.fr xs))):ay S (fnOf n N b ds) (.fr xs):=by
 rw[yN,if_pos h];exact e.bind ax
def ll{i:Int}{v:D}(e:d4 xs i=some v):c0 (.mv xs) (.v (.int i))=pure (.v v):=by
 show(match d4 xs i with|some d=>pure (R.v d)|none=>bad)=_;rw[e]
def NO{ms:cP}{a b:Int}(h:ay S (ms U) [.v (.int a),.v (.int b)])(e:tV [.v (.int a),.v (.int b)]=pure (.fr ys)):ay S (vx ms U) (.fr ys):=h.bind (.of e)
theorem Rb{mo:bt}{ms:cP}{xs c:List D}{r:R}(ab:ay S (mo U) (.v (.ref i)))(af:ay S (ms U) [r])(d:r.fz=some c)(h:S[i]? = some (.l xs))(z:xs.length+c.length<=ald):bw S (mI uZ mo ms U) (.bA U) (S.set i (.l (xs++c))):=
 ab.to.bind (af.to.bind ((nF h).to.bind ((ay.to (a:=(R.v .aH,xs++c)) (.of (by show(match r.fz with|some c=>_|none=>_)=_;rw[d];show(hL (xs.length+c.length<=ald) >>= _)=_;rw[JN z];rfl))).bind rfl)))
def ahQ{mo mk:bt}{mv:d3}{xs:List D}{r:R}{d:D}{j:Nat}(c:bw S (mv U) r S1)(e:r.dat=pure d)(ab:ay S1 (mo U) (.v (.ref i)))(af:ay S1 (mk U) (.v (.int j)))(h:S1[i]? = some (.l xs))(f:j<xs.length):bw S (A6 mo mk mv U) (.bA U) (S1.set i (.l (xs.set j d))):=
 c.bind ((ay.of e).to.bind (ab.to.bind (af.to.bind ((nF h).to.bind (by show bw S1 (if 0<=(j:Int)/\(j:Int)<xs.length then _ else _) _ _;rw[if_pos ⟨by omega,by omega⟩];rfl)))))
def GY{mf:dC}{mo:bt}{ms:gS}{aX:List (Str×D)}{rs:List R}{r:R}(h:S[i]? = some (.ba c aX))(ab:ay S (mo U) (.v (.ref i)))(d:aX.lookup m=none)(af:bw S (ms U) rs S1)(aw:rs.all R.hk=true)(e:bw S1 (mf (.ref i::rs.map R.arg)) r aW):bw S (dF c m mf mo ms U) r aW:=ab.to.bind ((nF h).to.bind (by show bw S (if c=c/\aX.lookup m=none then _ else _) _ _;rw[if_pos ⟨rfl,d⟩];exact af.bind (by rw[if_pos aw];exact e)))
def xR{m:d3}{r:R}(h:bw S (m U) r S1):bw S (kQ m b' U) [r] S1:=h.bind rfl
def lg(H:eI S i p h)(c:J k U=pure (.v (.ref i)))(e:p.aX.lookup f=some d):ay S (bg (bX "House" f) (J k) U) (.v d):=NP H.ba (.of c) e
def aaY(H:eI S i p h):ay S (o3 [.ref i]) (.v (.int h.ls.length)):=jD rfl (iw (mc rfl (bE (f9 H.ls (lg H rfl rfl)) cq)))
def tM(H:eI S i p h)(c:J k U=pure (.v (.ref i))):ay S (dk "House" "many" o3 (J k) b' U) (.v (.int h.ls.length)):=gX H.ba (.of c) rfl cq (aaY H)
def Oo(H:eI S i p h)(e:h.ls[k]? = some d):ay S (zL [.ref i,.int k]) (.v d):=by
 have c:=(ak8.mp e).1;exact jD rfl (tN (nE (nG (iv (cH (eQ (rs:=[.v (.int k)]) ax (.of (pP _))))) (iv (cH (Ei (y:=.v (.int k)) ax ax (by show pure (R.v (.av (decide ((0:Int)<=k))))=_;rw[decide_eq_true (by omega)]) (tM H rfl) (r:=.v (.av true)) (by show pure (R.v (.av (decide ((k:Int)<h.ls.length))))=_;rw[decide_eq_true (by omega)]))))) ax)
  (iw (cA (ll (hI k e)) (f9 H.ls (lg H rfl rfl)) ax)))
def Sd(H:eI S i p h)(e:p.q[k]? = some x):ay S (o1 [.ref i,.int k]) (.v (.ref x.1)):=by
 have c:=(ak8.mp e).1;exact jD rfl (tN (nE (nG (iv (cH (eQ (rs:=[.v (.int k)]) ax (.of (pP _))))) (iv (cH (Ei (y:=.v (.int k)) ax ax (by show pure (R.v (.av (decide ((0:Int)<=k))))=_;rw[decide_eq_true (by omega)]) (mc rfl (bE (f9 H.al (lg H rfl rfl)) cq)) (r:=.v (.av true)) (by show pure (R.v (.av (decide ((k:Int)<((p.q.map λx=>aC.D.ref x.1).length:Nat)))))=_;rw[ala,decide_eq_true (by omega)]))))) ax)
  (iw (cA (ll (hI k (by rw[alr,e];rfl))) (f9 H.al (lg H rfl rfl)) ax)))
def tL(H:eI S i p h)(e:p.q[k]? = some x)(c:J j U=pure (.v (.ref i)))(hl:J l U=pure (.v (.int k))):ay S (dk "House" "asker_of" o1 (J j) (aR (J l)) U) (.v (.ref x.1)):=gX H.ba (.of c) rfl (bE (.of hl) cq) (Sd H e)
def FD(A:dz S j g a):ay S (wB [.ref j]) (.v a.c1):=jD rfl (iw (c5 A rfl rfl))
def O1(A:dz S j g a):ay S (zI [.ref j]) (.v (.int a.wi)):=jD rfl (iw (c5 A rfl rfl))
def xw(A:dz S j g a):ay S (oZ [.ref j]) (.v (.str a.bT)):=jD rfl (iw (c5 A rfl rfl))
def FQ(A:dz S j g a):ay S (r2 [.ref j]) (.v (.t [.int a.cv,a.h,a.op])):=jD rfl (iw (nH (bE (c5 A rfl rfl) (bE (c5 A rfl rfl) (bE (c5 A rfl rfl) cq))) rfl (alH rfl)))
def Eu(A:dz S j g a):ay S (t2 [.ref j]) (.v (.av a.cp)):=jD rfl (iw (c5 A rfl rfl))
def qq{mf:bq}{r:R}(A:dz S j g a)(d:J l U=pure (.v (.ref j)))(c:(a.aX g).lookup m=none)(e:ay S (mf [.ref j]) r):ay S (dk "Asker" m mf (J l) b' U) r:=gX A.ba (.of d) c cq e
theorem Y4(H:eI S i p h)(e:h.as[k]? = some a):ay S (EV [.ref i,.int k]) (.v (.str a.bT)):=by
 obtain⟨x,ex,A⟩:=H.ex e;exact jD rfl (iw (gX A.ba (tL H ex rfl rfl) rfl cq (xw A)))
theorem Y3(H:eI S i p h)(e:h.as[k]? = some a):ay S (EU [.ref i,.int k]) (.v (.t [.int a.cv,a.h,a.op])):=by
 obtain⟨x,ex,A⟩:=H.ex e;exact jD rfl (iw (gX A.ba (tL H ex rfl rfl) rfl cq (FQ A)))
theorem Y1(H:eI S i p h)(e:h.as[k]? = some a):ay S (ES [.ref i,.int k]) (.v (.av a.cp)):=by
 obtain⟨x,ex,A⟩:=H.ex e;exact jD rfl (iw (gX A.ba (tL H ex rfl rfl) rfl cq (Eu A)))
end
variable{S:bG}{i k:Nat}{p:iK}{h:dc}
def P'(H:eI S i p h):ay S (zM [.ref i]) (.fr h.ls):=ZZ rfl (zr (mc rfl (bE (f9 H.ls (lg H rfl rfl)) cq)))
def TQ(H:eI S i p h)(e:h.bs[k]? = some d):ay S (ER [.ref i,.int k]) (.v d):=jD rfl (iw (cA (ll (hI k e)) (f9 H.bs (lg H rfl rfl)) ax))
end dW
namespace dW
open PySem PySem.Spec aA aC i2 gh jj
section
variable{h h':dc}{k:Nat}{a b:bH}{Y:List D}{d:D}
def A4(h:dc)(L:List D)(hz:h.ls.length+L.length<=1000000):h.Do t4 [.l L] (.fr (dP h.ls.length L.length)) (h.wr L):=λS i p H=>by
 have W:=H.wr L;have g:(1000000:Int)<2 ^ 62:=by decide
 have j:1000000<=2 ^ 24:=by decide
 have c:∀n,n<=1000000->n<=ald:=λn m=>by rw[alM];omega
 have f:tV [.v (.int (h.ls.length:Nat)),.v (.int ((h.wr L).ls.length:Nat))]=pure (.fr (dP h.ls.length L.length)):=by
  have e:(h.wr L).ls.length=h.ls.length+L.length:=alb;rw[L0,e,show(((h.ls.length+L.length:Nat):Int)-(h.ls.length:Nat)).toNat=L.length by omega,if_pos ⟨⟨by omega,by omega,by omega,by omega⟩,by omega,c _ (by omega)⟩];rfl
 exact⟨_,p,u5 rfl<|de (ay.to (hT (tM H rfl) rfl))<|de (Rb (lg H rfl rfl) (bE (x:=.b5 L) ax cq) rfl H.ls (c _ hz))<|ay.to (zr (NO (bE ax (bE (tM W.at' rfl) cq)) f)),W⟩
def Tw(e:h.as[k]? = some a)(g:a.Do qu [] Y b)(hz:h.ls.length+Y.length<=1000000):h.Do zK [.int k] (.fr (dP h.ls.length Y.length)) ((h.put k b).wr Y):=λS i p H=>by
 obtain⟨x,ex,A⟩:=H.ex e;obtain⟨f,q,n,m⟩:=g S x.1 x.2 A;have c:=H.step ex e m;obtain⟨j,cG,l,s2⟩:=A4 (h.put k b) Y hz f i _ c.at';exact⟨j,cG,u5 rfl (xS (GY (rs:=[.fr Y]) H.ba ax rfl (xR (mJ (rs:=[]) A.ba (tL H ex rfl rfl) rfl rfl rfl n)) rfl l)),c.trans s2⟩
def YX(e:h.as[k]? = some a)(hd:b7 d=.v d)(g:a.Do oY [d] Y b)(hz:h.ls.length+Y.length<=1000000)(s:h.rs.length<=100000) :
  h.Do r3 [.int k,d] (.fr (dP h.ls.length Y.length)) (((h.put k b).row (.t [.str "begin",.int k,.int b.wi,d,.int h.ls.length])).wr Y):=λS i p H=>by
 obtain⟨x,ex,A⟩:=H.ex e;obtain⟨r,u,n,j⟩:=g S x.1 x.2 A;have c:=H.step ex e j;have f:=c.at'.row (.t [.str "begin",.int k,.int b.wi,d,.int h.ls.length]);obtain⟨cC,m,q,s3⟩:=A4 ((h.put k b).row _) Y hz _ i _ f.at';refine⟨cC,m,u5 rfl ?_,(c.trans f).trans s3⟩;show bw S (H0 [.v (.ref i),.v (.int k),b7 d,.e,.e]) _ _;rw[hd];refine de (U':=[.v (.ref i),.v (.int k),.v d,.v (.ref x.1),.e]) (ay.to (hT (tL H ex rfl rfl) rfl)) ?_;refine de (U':=[.v (.ref i),.v (.int k),.v d,.v (.ref x.1),.v (.l Y)]) (A' (mJ (rs:=[.v d]) A.ba ax rfl (ay.to ax) rfl n) rfl) ?_;refine de (GW (lg c.at' rfl rfl) (bE (nH (bE ax (bE ax (bE (qq j.at' rfl rfl (O1 j.at')) (bE (x:=.v d) ax (bE (tM c.at' rfl) cq))))) rfl (alH rfl)) cq) c.at'.rs (by show h.rs.length < _;rw[alM];omega)) ?_;exact xS (mJ (rs:=[.v (.l Y)]) f.at'.ba ax rfl (ay.to ax) rfl q)
theorem agu{w x f b c y e s:D}(l:h.bs[k]? = some b)(g:lp [b,.t [w,x,.int k,e,s,f]]=pure (.v (.t [c,y]))) :
  h.Do wD [.t [w,x,.int k,e,s,f]] (.fr [y]) (h.bk k c):=λS i p H=>
 ⟨_,p,u5 rfl<|de (U':=[.v (.ref i),.v (.t [w,x,.int k,e,s,f]),.v (.t [c,y])]) (ay.to (hT (eQ (rs:=[.v b,.v (.t [w,x,.int k,e,s,f])]) (bE (cA (ll (hI k l)) (f9 H.bs (lg H rfl rfl)) ax) (bE ax cq)) (.of g)) rfl))<|
  de (ahQ (j:=k) (ay.to (a:=.v c) ax) rfl (lg H rfl rfl) ax H.bs (ak8.mp l).1) (ay.to ax),H.bk k c⟩
def ags{w x f e s:D}(r:h.as[k]? = some a)(aw:a.jL)(G:b.jL)(g:a.Do iV [.t [w,x,.int k,e,s,f]] Y b)(K:h.rs.length<=100000) :
  h.Do r4 [.t [w,x,.int k,e,s,f]] (.v (.l Y)) (if(!(a.bT == "calm")&&(b.bT == "calm"))=true then(h.put k b).row (.t [.str "end",.int k,.int b.wi,b.c1,.int h.ls.length])else h.put k b):=λS i p H=>by
 obtain⟨q,ex,A⟩:=H.ex r;obtain⟨n,L,F,u⟩:=g S q.1 q.2 A;have j:=H.step ex r u;have B:=u.at';have pre:∀{m:bG},bw n (H3 [.v (.ref i),.v (.t [w,x,.int k,e,s,f]),.v (.ref q.1),.v (.str a.bT),.v (.l Y)]) (.b9 (.v (.l Y))) m->bw S (r4 [.ref i,.t [w,x,.int k,e,s,f]]) (.v (.l Y)) m:=λt=>by
  refine qX rfl ?_;refine de (U':=[.v (.ref i),.v (.t [w,x,.int k,e,s,f]),.v (.ref q.1),.e,.e]) (ay.to (hT (cA (ll (hI k (by rw[alr,ex];rfl))) (f9 H.al (lg H rfl rfl)) ax) rfl)) ?_;refine de (U':=[.v (.ref i),.v (.t [w,x,.int k,e,s,f]),.v (.ref q.1),.v (.str a.bT),.e]) (ay.to (hT (qq A rfl rfl (xw A)) rfl)) ?_;exact de (U':=[.v (.ref i),.v (.t [w,x,.int k,e,s,f]),.v (.ref q.1),.v (.str a.bT),.v (.l Y)]) (A' (mJ (rs:=[.v (.t [w,x,.int k,e,s,f])]) A.ba ax rfl (ay.to ax) rfl F) rfl) t
 have bg:ay n (aU (aj d7 (J 3) (a4 (.str "calm"))) [.v (.ref i),.v (.t [w,x,.int k,e,s,f]),.v (.ref q.1),.v (.str a.bT),.v (.l Y)]) (!(a.bT == "calm")):=cH (cA (yD aw) ax ax);have aj:ay n (aU (aj oEq (dk "Asker" "stand" oZ (J 2) b') (a4 (.str "calm"))) [.v (.ref i),.v (.t [w,x,.int k,e,s,f]),.v (.ref q.1),.v (.str a.bT),.v (.l Y)]) (b.bT == "calm"):=cH (cA (calm_eq G) (qq B rfl rfl (xw B)) ax);have no:(!(a.bT == "calm")&&(b.bT == "calm"))=false->∃m E,bw S (r4 [.ref i,.t [w,x,.int k,e,s,f]]) (.v (.l Y)) m/\lL S m i p E (h.put k b):=λz=>by
  refine⟨_,_,pre (de (qY (ay.to (a:=false) ?_) rfl) (ay.to ax)),j⟩
  cases aq:(!(a.bT == "calm"))with
  |false=>rw[aq]at bg;exact oR bg|true=>rw[aq]at bg z;rw[Bool.true_and]at z;rw[z]at aj;exact kD bg aj
 by_cases c:(!(a.bT == "calm")&&(b.bT == "calm"))=true
 .rw[if_pos c]
  rw[alC]at c;rw[c.1]at bg;rw[c.2]at aj;have y:=j.at'.row (.t [.str "end",.int k,.int b.wi,b.c1,.int h.ls.length]);exact⟨_,_,pre (de (pQ (ay.to (kD bg aj)) (GW (lg j.at' rfl rfl) (bE (nH (bE ax (bE ax (bE (qq B rfl rfl (O1 B)) (bE (qq B rfl rfl (FD B)) (bE (tM j.at' rfl) cq))))) rfl (alH rfl)) cq) j.at'.rs (by show h.rs.length < _;rw[alM];omega))) (ay.to ax)),j.trans y⟩
 .rw[if_neg c]
  exact no (by simpa using c)
def JC{S c:bG}(H:eI S i p h)(e:h.ls[k]? = some d)(t:bw S (H2 [.v (.ref i),.v (.int k),.v d]) (.b9 (.fr Z)) c):bw S (o2 [.ref i,.int k]) (.fr Z) c:=
 u5 rfl (de (U':=[.v (.ref i),.v (.int k),.v d]) (ay.to (hT (gX H.ba ax rfl (bE (x:=.v (.int k)) ax cq) (Oo H e)) rfl)) t)
def TV(e:h.ls[k]? = some d)(q:o4 [d]=pure (.v (.av true)))(g:h.Do wD [d] (.fr Y) h')(hl:h'.ls=h.ls)(hz:h.ls.length+Y.length<=1000000):h.Do o2 [.int k] (.fr (dP h.ls.length Y.length)) (h'.wr Y):=λS i p H=>by
 obtain⟨f,p1,m,c⟩:=g S i p H;have w:=A4 h' Y (by rw[hl];exact hz);rw[hl]at w;obtain⟨j,cG,l,s2⟩:=w f i p1 c.at';exact⟨j,cG,JC H e (qZ (pQ (ay.to (cH (eQ (rs:=[.v d]) ax (.of q)))) (xS (GY (rs:=[.fr Y]) H.ba ax rfl (xR (mJ (rs:=[.v d]) H.ba ax rfl (ay.to ax) rfl m)) rfl l)))),c.trans s2⟩
def TU(e:h.ls[k]? = some d)(q:o4 [d]=pure (.v (.av false)))(g:h.Do r4 [d] (.v (.l Y)) h')(hl:h'.ls=h.ls)(hz:h.ls.length+Y.length<=1000000):h.Do o2 [.int k] (.fr (dP h.ls.length Y.length)) (h'.wr Y):=λS i p H=>by
 obtain⟨f,p1,n,c⟩:=g S i p H;have w:=A4 h' Y (by rw[hl];exact hz);rw[hl]at w;obtain⟨j,cG,m,s2⟩:=w f i p1 c.at';exact⟨j,cG,JC H e (pR (ay.to (cH (eQ (rs:=[.v d]) ax (.of q)))) (xS (GY (rs:=[.v (.l Y)]) H.ba ax rfl (xR (mJ (rs:=[.v d]) H.ba ax rfl (ay.to ax) rfl n)) rfl m))),c.trans s2⟩
end
def pb(n:Nat)(a:D):dc:=⟨(alD n).map λ(i:Nat)=>r8 (i:Int) a,alp 6 (.t []),[],[]⟩
def iW(T n:Nat):List (Nat×Nat):=(alD n).map λj=>(T+2*j,T+2*j+1)
def nX(e:(iW T n)[k]? = some x):k<n/\x=(T+2*k,T+2*k+1):=by
 unfold iW at e;rw[alr]at e
 by_cases a:k<n
 .rw[amv a]at e;cases e;exact⟨a,rfl⟩
 .rw[anC (by simpa using a)]at e;cases e
theorem E8(dh:b7 hall=.v hall):∀(n m:Nat)(T:bG),∃a,bw T (Ba (kR "Asker" oX (dE (bz (J 0) (J 1)))) [.e,.v hall] ((List.range' m n).map λ(i:Nat)=>D.int (i:Int))) ((iW T.length n).map λx=>.ref x.1) a/\Fr [] T a/\a.length=T.length+2*n/\
  ∀j,j<n->dz a (T.length+2*j) (T.length+2*j+1) (r8 ((m+j:Nat):Int) hall)
 |0,m,T=>⟨T,rfl,.refl,rfl,λj f=>absurd f (amx _)⟩
 |n+1,m,T=>by
  obtain⟨c,l,A,d,h⟩:=Zu T (m:Int) hall dh;obtain⟨k,g,b,p,B⟩:=E8 dh n (m+1) c;have mk:bw T (kR "Asker" oX (dE (bz (J 0) (J 1))) [.v (.int m),.v hall]) (.v (.ref T.length)) c:=Rd (rs:=[.v (.int m),.v hall]) ax rfl l;have eq:iW T.length (n+1)=(T.length,T.length+1)::iW c.length n:=by
   unfold iW;rw[List.range_succ_eq_map,alv,amZ,d];refine List.cons_eq_cons.mpr ⟨rfl,anJ λj _=>?_⟩;show(T.length+2*(j+1),T.length+2*(j+1)+1)=_;rw[show T.length+2*(j+1)=T.length+2+2*j by omega]
  refine⟨k,?_,h.trans b,by omega,λj f=>?_⟩
  .rw[eq,List.range'_succ]
   exact mk.bind (g.bind rfl)
  .cases j with
   |zero=>exact⟨b _ _ alu A.ba,b _ _ alu A.ls⟩|succ j=>
    have:=B j (by omega);rw[d,show m+1+j=m+(j+1)by omega,show T.length+2+2*j=T.length+2*(j+1)by omega]at this;exact this
def Aq{σ a:bG}{aX:List (Str×D)}{m:d3}(hm:bw σ (m U) (.fr xs) a)(hi:a[i]? = some (.ba "House" aX))(g:J 0 U=pure (.v (.ref i)))(hl:aX.length<1000):∃b,bw σ (dU "House" f (J 0) (ie m) U) (.bA U) b/\b[i]? = some (.ba "House" (ia f (.ref a.length) aX))/\b[a.length]? = some (.l xs)/\(∀y o,y≠i->a[y]? = some o->b[y]? = some o)/\b.length=a.length+1:=by
 have c:(a++[ey.l xs])[i]? = some (.ba "House" aX):=Fr.app (W:=[]) _ _ alu hi;have d:bw σ (ie m U) (.v (.ref a.length)) (a++[ey.l xs]):=bw.bind hm (show bw a (do let S <-y3;putN (S++[ey.l xs]);pure (R.v (D.ref S.length))) _ _ from rfl);refine⟨_,x_at d rfl (.of g) c hl,get_set c,?_,λy o h e=>?_,by rw[alS,alb];rfl⟩
 .rw[ale (alQ (nM hi)),rE]
 .rw[ale (anG h)]
  exact Fr.app (W:=[]) _ _ alu e
def Y0(S:bG){n:Nat}(ab:1<=n)(fZ:n<=6){b:D}(dh:b7 b=.v b)(q:o6 [b]=pure (.v (.av true))):∃h p,bw (S++[.ba "House" []]) (zJ [.ref S.length,b,.int n]) (.v .aH) h/\eI h S.length p (pb n b)/\Fr [] S h/\S.length<=h.length/\∀y,p.has S.length y->S.length<=y:=by
 have X:(S++[ey.ba "House" []])[S.length]? = some (.ba "House" []):=rE;have rV:(S++[ey.ba "House" []]).length=S.length+1:=by rw[alb];rfl
 obtain⟨u,M,P,b2,A⟩:=E8 dh n 0 (S++[.ba "House" []]);rw[rV]at M b2 A;have bg:bw (S++[ey.ba "House" []]) (qV 1 [1] (gV (aR (J 2))) (kR "Asker" oX (dE (bz (J 0) (J 1)))) [.v (.ref S.length),.v b,.v (.int n)]) (.fr ((iW (S.length+1) n).map λx=>.ref x.1)) u:=by
  have pn:-4611686018427387904<=(n:Int)/\(n:Int)<4611686018427387904:=by omega
  have ju:((List.range' 0 n).map λ(i:Nat)=>D.int (i:Int))=dP 0 n:=by
   rw[<-List.range_eq_range'];exact anJ λi _=>by rw[aou]
  rw[ju]at M;refine bw.bind (a:=dP 0 n) (ay.to (.of (by simp[pn]))) ?_;rw[if_pos (by rw[nY,alM];omega)];exact M.bind rfl
 obtain⟨L,ec,gD,a2,eA,cn⟩:=Aq (f:="askers") bg (P _ _ alu X) rfl (mj rfl);have e':ay L (fb 1 [] (gV (aR (aL 6))) fL (bO b') [.v (.ref S.length),.v b,.v (.int n)]) (.fr (alp 6 (.t []))):=.of (yH (ds:=dP 0 6) rfl (by rw[nY,alM];omega) rfl);obtain⟨F,t3,V,gy,T,tQ⟩:=Aq (f:="books") (m:=c6 (fb 1 [] (gV (aR (aL 6))) fL (bO b'))) e'.to gD rfl (mj rfl);obtain⟨N,Y,Z,h1,E,I⟩:=Aq (σ:=F) (U:=[.v (.ref S.length),.v b,.v (.int n)]) (f:="letters") (m:=c6 (d5 b')) (xs:=[]) rfl V rfl (mj rfl);obtain⟨O,G,C,i4,d,akD⟩:=Aq (σ:=N) (U:=[.v (.ref S.length),.v b,.v (.int n)]) (f:="rows") (m:=c6 (d5 b')) (xs:=[]) rfl Z rfl (mj rfl);have up:∀y o,y≠S.length->u[y]? = some o->O[y]? = some o:=λy o w e=>d y o w (E y o w (T y o w (eA y o w e)))
 have K:u.length≠S.length:=by omega
 have s:L.length≠S.length:=by omega
 have Q:F.length≠S.length:=by omega
 refine⟨O,⟨u.length,L.length,F.length,N.length,iW (S.length+1) n⟩,GX (U':=[.v (.ref S.length),.v b,.v (.int n)]) rfl ?_,⟨⟨d _ _ K (E _ _ K (T _ _ K a2)),?_,λk x a ex l=>?_,?_,λx H=>?_,λj k x y jt jS ne=>?_,λy g=>?_⟩,C,d _ _ s (E _ _ s gy),d _ _ Q h1,i4⟩,λj o bj e=>up j o (by have:=nM e;omega) (P _ _ alu (Fr.app (W:=[]) _ _ alu e)),by omega,λy g=>?_⟩
 .show bw _ (HZ [.v (.ref S.length),b7 b,.v (.int n)]) _ _
  rw[dh];refine sH (iv (cH (eQ (rs:=[.v b]) ax (.of q)))) ?_;refine sH (nG (iv (cH (eQ (rs:=[.v (.int n)]) ax (.of (pP _))))) (iv (cH (Ei (y:=.v (.int n)) ax ax (by show pure (R.v (.av (decide ((1:Int)<=n))))=_;rw[decide_eq_true (by omega)]) ax (r:=.v (.av true)) (by show pure (R.v (.av (decide ((n:Int)<=6))))=_;rw[decide_eq_true (by omega)]))))) ?_;exact de ec (de t3 (de Y G))
 .unfold iW pb;simp
 .obtain⟨c,rfl⟩:=nX ex
  have l:((alD n).map λ(i:Nat)=>r8 (i:Int) b)[k]? = some a:=l;rw[alr,amv c]at l;cases l;have B:=A k c;rw[anS]at B;exact⟨up _ _ (by show _+1+2*k≠_;omega) B.ba,up _ _ (by show _+1+2*k+1≠_;omega) B.ls⟩
 .simp only[al7,alj,alu,or_false,not_or,not_false_eq_true,anZ,and_true]
  omega
 .obtain⟨k,c⟩:=amz.mp H
  obtain⟨c,rfl⟩:=nX c;simp only[alj,alu,or_false,not_or];omega
 .obtain⟨_,rfl⟩:=nX jt
  obtain⟨_,rfl⟩:=nX jS;constructor<;>dsimp only<;>omega
 .simp only[alj,alu,or_false]at g
  rcases g with rfl|rfl|rfl
  .exact⟨_,d _ _ s (E _ _ s gy)⟩
  .exact⟨_,d _ _ Q h1⟩
  .exact⟨_,i4⟩
 .rcases g with z|z|⟨x,H,z⟩
  .omega
  .simp only[alj,alu,or_false]at z
   omega
  .obtain⟨k,c⟩:=amz.mp H
   obtain⟨c,rfl⟩:=nX c;rcases z with z|z<;>rw[z]<;>dsimp only<;>omega
abbrev mX:=fy.κ.toKeyOrd
structure c8 where
 cs:sV
 ds:List (Int×D)
 f:Int
 t:D
 aY:D
def c8.D(s:c8):aC.D:=.t [.t (s.cs.map (·.2)),.t (s.ds.map (·.2)),.t [.int s.f,s.t],s.aY]
inductive cW where
 |put (a:List Nat) (n:Int)|add (a:List Nat) (n:Int)|swap (a:List Nat) (o n:Int)|take (g:Int)|renew (g:Int)|free (g:Int)|sure (g:Int) (a:List Nat) (n:Int)|move (h:D)|fin
def cW.D:cW->aC.D
 |.put a n=>.t [.str "put",.str (bo a),.int n]|.add a n=>.t [.str "add",.str (bo a),.int n]|.swap a o n=>.t [.str "swap",.str (bo a),.int o,.int n]|.take g=>.t [.str "take",.int g]|.renew g=>.t [.str "renew",.int g]|.free g=>.t [.str "free",.int g]|.sure g a n=>.t [.str "sure",.int g,.str (bo a),.int n]|.move h=>.t [.str "move",h]|.fin=>.t [.str "end"]
def eh:Option cW->aC.D
 |none=>.aH|some d=>d.D
def c8.cell(s:c8)(a:List Nat):Int:=k7 (ft (Q:=e8) s.cs a)
def c8.put(s:c8)(a:List Nat)(n:Int):c8:={ s with cs:=kN s.cs a n }
def c8.uh(s:c8)(g i:Int):Bool:=s.f==g&&eB s.t (.int i)
def eM(s:c8)(i:Int):cW->c8×aC.D
 |.put a n=>(s.put a n,.int (s.cell a))
 |.add a n=>(s.put a (s.cell a+n),.int (s.cell a+n))
 |.swap a o n=>if s.cell a=o then(s.put a n,.int 1)else(s,.int 0)
 |.take g=>if s.f=g then({ s with f:=g+1,t:=.int i },.t [.int 1,.int (g+1),.int i])else(s,.t [.int 0,.int s.f,s.t])
 |.renew g=>if s.uh g i=true then({ s with f:=g+1,t:=.int i },.t [.int 1,.int (g+1),.int i])else(s,.t [.int 0,.int s.f,s.t])
 |.free g=>if s.uh g i=true then({ s with f:=g+1,t:=.aH },.t [.int 1,.int (g+1),.aH])else(s,.t [.int 0,.int s.f,s.t])
 |.sure g a n=>if s.uh g i=true then(s.put a n,.int 1)else(s,.int 0)
 |.move h=>({ s with aY:=h },.int 1)
 |.fin=>({ s with aY:=.str "over" },.int 1)
structure fU(G:aC.D->Prop)(W:List (List Nat))(s:c8):Prop where
 row:∀x∈s.cs,lI x
 rise:k1 e8 s.cs
 nm:∀x∈s.cs,x.1∈W
 num:∀x∈s.ds,q5 x
 ox:k1 mX s.ds
 dT:∀x∈s.ds,0<=x.1/\x.1<6
 e5:s.t=.aH\/∃i:Int,s.t=.int i
 aY:s.aY=.aH\/s.aY=.str "over"\/(∃xs,s.aY=.t xs)/\G s.aY
 rr:∀x∈s.ds,aC.Ok 2 x.2
def lJ(G:aC.D->Prop)(W:List (List Nat)):cW->Prop
 |.put a _=>lP a/\a∈W|.add a _=>lP a/\a∈W|.swap a _ _=>lP a/\a∈W|.sure _ a _=>lP a/\a∈W|.move h=>(∃xs,h=.t xs)/\G h|_=>True
def afo{z:Int}(b:0<=z)(a:z<6):z∈([0,1,2,3,4,5]:List Int):=by
 have e:z=0\/z=1\/z=2\/z=3\/z=4\/z=5:=by omega
 rcases e with e|e|e|e|e|e<;>rw[e]<;>simp
section
variable{G:aC.D->Prop}{W:List (List Nat)}{s:c8}(h:fU G W s)
include h
theorem fU.cl:s.cs.length<=W.length:=by
 have:=amy h.rise.nodup λx b=>by
  obtain⟨y,a,rfl⟩:=alK.mp b;exact h.nm y a
 rwa[ala]at this
theorem fU.dl:s.ds.length<=6:=by
 have:=amy h.ox.nodup λx b=>by
  obtain⟨y,a,rfl⟩:=alK.mp b;exact afo (h.dT y a).1 (h.dT y a).2
 rw[ala]at this;exact this
theorem fU.cg:s.t.b4 63=true:=by rcases h.e5 with e|⟨i,e⟩<;>rw[e]<;>rfl
theorem fU.ss:b7 s.aY=.v s.aY:=by rcases h.aY with e|e|⟨⟨xs,e⟩,_⟩<;>rw[e]<;>rfl
theorem adt(b:W.length<63)(i:Int)(hd:lJ G W d):fe [s.D,.int i,d.D]=pure (.v (.t [(eM s i d).1.D,(eM s i d).2])):=by
 have hl:s.cs.length<63:=by have:=h.cl;omega
 have cg:=h.cg;obtain⟨cs,ds,f,t,aY⟩:=s
 cases d with
 |put a n=>exact adI h.row h.rise hl _ _ _ hd.1 n i|add a n=>exact adE h.row h.rise hl _ _ _ hd.1 n i|swap a o n=>
  refine(adL h.row h.rise hl _ _ _ hd.1 n i o).trans ?_;unfold eM c8.cell;dsimp only
  by_cases c:k7 (ft (Q:=e8) cs a)=o
  .rw[if_pos c,if_pos c];rfl
  .rw[if_neg c,if_neg c];rfl
 |take g=>
  refine(adM _ _ _ i f g t).trans ?_;unfold eM;dsimp only
  by_cases c:f=g
  .rw[if_pos c,if_pos c];rfl
  .rw[if_neg c,if_neg c];rfl
 |renew g=>
  refine(adJ _ _ _ i f g t cg).trans ?_;unfold eM c8.uh;dsimp only
  by_cases c:(f==g&&eB t (.int i))=true
  .rw[if_pos c,if_pos c];rfl
  .rw[if_neg c,if_neg c];rfl
 |free g=>
  refine(adG _ _ _ i f g t cg).trans ?_;unfold eM c8.uh;dsimp only
  by_cases c:(f==g&&eB t (.int i))=true
  .rw[if_pos c,if_pos c];rfl
  .rw[if_neg c,if_neg c];rfl
 |sure g a n=>
  refine(adK h.row h.rise hl _ _ hd.1 n i f g t cg).trans ?_;unfold eM c8.uh;dsimp only
  by_cases c:(f==g&&eB t (.int i))=true
  .rw[if_pos c,if_pos c];rfl
  .rw[if_neg c,if_neg c];rfl
 |move z=>
  obtain⟨⟨xs,rfl⟩,_⟩:=hd;exact adH _ _ _ _ i _ rfl
 |fin=>exact adF _ _ _ _ i
end
def c8.last(s:c8)(i:Int):Int:=r9 (ft (Q:=mX) s.ds i)
def qd(s:c8)(i n:Int):Option cW->c8
 |none=>s|some d=>if(gp s.aY)=true/\s.last i<n then{ (eM s i d).1 with ds:=j7 (Q:=mX) s.ds (i,.t [.int i,.int n,(eM s i d).2]) }else s
def adq(s:c8)(i:Int)(d:cW):(eM s i d).1.ds=s.ds:=by
 cases d<;>unfold eM<;>first|rfl|(dsimp only;split<;>rfl)
section
variable{G:aC.D->Prop}{W:List (List Nat)}{s:c8}(h:fU G W s)
include h
theorem adz(i:Int)(d:cW):b7 (eM s i d).2=.v (eM s i d).2:=by
 cases d<;>unfold eM<;>first|rfl|(dsimp only;split<;>rfl)
theorem UU(m:W.length<63)(i n:Int)(hd:∀x,d=some x->lJ G W x):nN [s.D,.int i,.int n,eh d]=pure (.v (qd s i n d).D):=by
 cases d with
 |none=>exact LU h.num _ _ _ i n .aH rfl (.inl rfl)|some d=>
  unfold qd;dsimp only;have rq:∃xs,d.D=.t xs:=by cases d<;>exact⟨_,rfl⟩
  obtain⟨xs,rq⟩:=rq
  by_cases c:(gp s.aY)=true/\s.last i<n
  .rw[if_pos c]
   have a:=adt h m i (hd d rfl);have b:=adq s i d;have os:=adz h i d;have g:s.aY=.aH:=by
    rcases h.aY with e|e|⟨⟨xs,e⟩,_⟩
    .exact e
    .rw[e]at c;cases c.1
    .rw[e]at c;cases c.1
   have j:=h.dl;generalize eM s i d=o at *;obtain⟨⟨k,l,p,t',sh'⟩,v⟩:=o;obtain⟨cs,ds,f,t,aY⟩:=s;dsimp only at b os g a j ⊢;subst b g;show nN [_,_,_,d.D]=_;unfold c8.D at a ⊢;rw[rq]at a ⊢;have aq:=UT h.num (.t (cs.map (·.2))) (.t [.int f,t]) i n xs c.2 (show l.length<63 by omega) h.ox.nodup (c':=.t (k.map (·.2))) (le':=.t [.int p,t']) (sh':=sh') (v:=v);exact aq a os
  .rw[if_neg c]
   show nN [_,_,_,d.D]=_;rw[rq];refine LU h.num _ _ _ i n (.t xs) rfl (.inr ⟨⟨_,rfl⟩,?_⟩);rcases h.aY with e|e|⟨⟨zs,e⟩,_⟩
   .refine .inr (.inr ⟨e,?_⟩)
    rw[e]at c;have:¬s.last i<n:=λz=>c ⟨rfl,z⟩
    unfold c8.last at this;omega
   .exact .inl e
   .exact .inr (.inl ⟨zs,e⟩)
end
section
variable{G:aC.D->Prop}{W:List (List Nat)}{s:c8}(h:fU G W s)
include h
theorem fU.put(c:lP a)(hw:a∈W)(n:Int):fU G W (s.put a n) where
 row:=agY h.row c n
 rise:=agX h.rise a n
 nm:=λx b=>by
  have b:x∈kN s.cs a n:=b;unfold kN at b;split at b
  .exact h.nm x ((vF (Q:=e8)).mp b).1
  .rcases(uH (Q:=e8)).mp b with⟨b,_⟩|rfl
   .exact h.nm x b
   .exact hw
 num:=h.num
 ox:=h.ox
 dT:=h.dT
 e5:=h.e5
 aY:=h.aY
 rr:=h.rr
theorem fU.lease(f:Int){t:aC.D}(a:t=.aH\/∃i:Int,t=.int i):fU G W { s with f:=f,t:=t }:=⟨h.row,h.rise,h.nm,h.num,h.ox,h.dT,a,h.aY,h.rr⟩
theorem fU.shut{z:aC.D}(hz:z=.aH\/z=.str "over"\/(∃xs,z=.t xs)/\G z):fU G W { s with aY:=z }:=⟨h.row,h.rise,h.nm,h.num,h.ox,h.dT,h.e5,hz,h.rr⟩
theorem adw(i:Int)(hd:lJ G W d):fU G W (eM s i d).1:=by
 cases d with
 |put a n=>exact h.put hd.1 hd.2 n|add a n=>exact h.put hd.1 hd.2 _|swap a o n=>
  unfold eM;dsimp only;split
  .exact h.put hd.1 hd.2 n
  .exact h
 |take g=>
  unfold eM;dsimp only;split
  .exact h.lease _ (.inr ⟨_,rfl⟩)
  .exact h
 |renew g=>
  unfold eM;dsimp only;split
  .exact h.lease _ (.inr ⟨_,rfl⟩)
  .exact h
 |free g=>
  unfold eM;dsimp only;split
  .exact h.lease _ (.inl rfl)
  .exact h
 |sure g a n=>
  unfold eM;dsimp only;split
  .exact h.put hd.1 hd.2 n
  .exact h
 |move z=>exact h.shut (.inr (.inr hd))|fin=>exact h.shut (.inr (.inl rfl))
theorem adp(i:Int)(d:cW):aC.Ok 1 (eM s i d).2:=by
 have b:aC.Ok 0 s.t:=by
  rcases h.e5 with e|⟨i,e⟩
  .rw[e];exact mw
  .rw[e];exact cR
 cases d with
 |put a n=>exact cR|add a n=>exact cR|swap a o n=>
  unfold eM;dsimp only;split<;>exact cR
 |take g=>
  unfold eM;dsimp only;split
  .exact mu cR cR cR
  .exact mu cR cR b
 |renew g=>
  unfold eM;dsimp only;split
  .exact mu cR cR cR
  .exact mu cR cR b
 |free g=>
  unfold eM;dsimp only;split
  .exact mu cR cR mw
  .exact mu cR cR b
 |sure g a n=>
  unfold eM;dsimp only;split<;>exact cR
 |move z=>exact cR|fin=>exact cR
theorem LS{i:Int}(c:0<=i)(b:i<6)(n:Int)(hd:∀x,d=some x->lJ G W x):fU G W (qd s i n d):=by
 cases d with
 |none=>exact h|some d=>
  have o:=adw h i (hd d rfl);unfold qd;dsimp only;split
  .refine⟨o.row,o.rise,o.nm,?_,?_,?_,o.e5,o.aY,?_⟩
   .exact acU h.num i n _
   .exact FZ _ h.ox.nodup
   .intro x a
    rcases(uH (Q:=mX)).mp a with⟨a,_⟩|rfl
    .exact h.dT x a
    .exact⟨c,b⟩
   .intro x a
    rcases(uH (Q:=mX)).mp a with⟨a,_⟩|rfl
    .exact h.rr x a
    .exact mu cR cR (adp h i d)
  .exact h
def c8.dt(s:c8)(i:Int):aC.D:=match ft (Q:=mX) s.ds i with
 |some (.t [_,_,z])=>z|_=>.aH
def c8.jb(s:c8):Bool:=match s.aY with
 |.str _=>true|_=>false
theorem US(i:Int):qw [s.D,.int i]=pure (.v (.t [.int i,.int (s.last i),s.dt i])):=by
 have e:=CV (λx a=>(h.num x a).qc) (.t (s.cs.map (·.2))) (.t [.int s.f,s.t]) s.aY i;refine e.trans ?_;unfold c8.last c8.dt
 cases q:ft (Q:=fy.κ.toKeyOrd) s.ds i with
 |none=>rfl|some d=>
  obtain⟨n,z,e⟩:=h.num _ (vQ q);have e:d=.t [.int i,.int n,z]:=e;subst e;rfl
omit h in
theorem afn(s:c8):o_ [s.D]=pure (.v s.aY):=by unfold c8.D;simp[o_,Cn]
omit h in
theorem NF(s:c8):ml [s.D]=pure (.v (.av (!gp s.aY))):=by
 exact(wg (.t (s.cs.map (·.2))) (.t (s.ds.map (·.2))) (.t [.int s.f,s.t]) s.aY).trans (Fh s.aY)
def c8.j6(s:c8):c8:={ s with aY:=.aH }
omit h in
theorem adl(s:c8):uf [s.D]=pure (.v s.j6.D):=by
 unfold c8.D c8.j6;simp[uf,Je,(GO (.t (s.cs.map (·.2))) (.t (s.ds.map (·.2))) (.t [.int s.f,s.t]) s.aY .aH rfl)]
theorem fU.j6:fU G W s.j6:=h.shut (.inl rfl)
theorem fU.ok(f:W.length<=1000)(c:∀z,G z->aC.Ok 9 z):aC.Ok 10 s.D:=by
 have d:=h.cl;have hd:=h.dl;refine xb (lx (nV (n:=2) (by rw[ala];omega) λx b=>?_) (by decide)) (lx (nV (n:=2) (by rw[ala];omega) λx b=>?_) (by decide)) (lx (n:=1) (j5 cR ?_) (by decide)) ?_
 .obtain⟨y,a,rfl⟩:=alK.mp b
  obtain⟨w,n,_,e⟩:=h.row y a;rw[e];exact lx (n:=1) (j5 (f_ w.1) cR) (by decide)
 .obtain⟨y,a,rfl⟩:=alK.mp b
  exact h.rr y a
 .rcases h.e5 with e|⟨i,e⟩
  .rw[e];exact mw
  .rw[e];exact cR
 .rcases h.aY with e|e|⟨_,g⟩
  .rw[e];exact mw
  .rw[e];exact f_ (by decide +kernel)
  .exact c _ g
end
end dW
namespace dW
open PySem PySem.Spec aA aC
def Pl(bk:List dv)(e:Int):wX [.t (bk.map dH),.int e]=pure (.v (.t [bM (ff bk e).p1 (ff bk e).cG,bM (ff bk e).e1 (ff bk e).eA,(ff bk e).bc])):=by
 have cut:∀g:dv,nU (.v (dH g)) (some 1) none=pure (.v (.t [bM g.p1 g.cG,bM g.e1 g.eA,g.bc])):=λg=>by
  unfold dH;rw[L1,if_neg (by simp only[alP,amm];decide)];rfl
 have L:=tn (b:=λd U=>zy (U.set 2 (.v d))) dH (λg=>g.e==e) (λg=>.v (.t [bM g.p1 g.cG,bM g.e1 g.eA,g.bc])) (λU=>∃s2,U=[.v (.t (bk.map dH)),.v (.int e),s2]) bk [.v (.t (bk.map dH)),.v (.int e),.e] ⟨_,rfl⟩
  (λg U _ ⟨s2,a⟩=>by
   subst a;have ea:c0 (.v (dH g)) (.v (.int 0))=pure (.v (.int g.e)):=by unfold dH;simp
   refine⟨λh=>?_,λh=>⟨[.v (.t (bk.map dH)),.v (.int e),.v (dH g)],?_,_,rfl⟩⟩
   .simp only[zy]
    simp[ea,cut,eq_of_beq h]
   .have h':¬g.e=e:=by simpa using h
    simp only[zy];simp[ea,h'])
 simp only[wX,Jf,Jg];unfold ff
 cases h:bk.find? (λg=>g.e==e)with
 |some g=>
  have:=L.1 g h;simp[this]
 |none=>
  obtain⟨U',c,s2,rfl⟩:=L.2 h;simp[c,blank,bM]
def aap(g:dv):fnOf 1 1 (aZ (a_ 0 0)) [dH g]=pure (.v (.int g.e)):=by
 unfold dH;simp
def Q5{bk:List dv}(g:dv)(f:(bk.map dv.e).Nodup)(hl:bk.length<63)(aw:b7 g.bc=.v g.bc):wY [.t (bk.map dH),.int g.e,bM g.p1 g.cG,bM g.e1 g.eA,g.bc]=pure (.v (.t (pB (putL bk g)))):=by
 have c:gE (aU (aj d7 (a_ 0 0) (J 1))) (J 0) [.e,.v (.int g.e)] (bk.map dH)=pure ((bk.filter λh=>!(h.e==g.e)).map dH):=
  ov dH (λh=>!(h.e==g.e)) dH bk (λh _=>by
   have ea:c0 (.v (dH h)) (.v (.int 0))=pure (.v (.int h.e)):=by unfold dH;simp
   simp[ea]) λh _ _=>by simp
 have j:bk.length<ald:=gb (by omega);have l:=amM (λh:dv=>!(h.e==g.e)) bk;have i:(bk.filter λh=>!(h.e==g.e)).length<ald:=gb (by omega);have pl:=PM bk g;have dQ:oC fy (fnOf 1 1 (aZ (a_ 0 0))) (.mv ((bk.filter λh=>!(h.e==g.e)).map dH++[dH g]))=pure (.fr (pB (putL bk g))):=
  afz aap (by show some _=some _;unfold putL;rw[amw];rfl) (PN f) (by omega)
 have d:dH g=.t [.int g.e,bM g.p1 g.cG,bM g.e1 g.eA,g.bc]:=rfl;have k:∀a b,b7 (bM a b)=.v (bM a b):=λ_ _=>rfl
 simp only[wY,Cq,Jp,Jq];rw[d]at dQ;simp[k,aw,c,j,i,dQ]
def yl(w:Str)(a b e s l:D)(d:D)(c:D)(f:b7 d=.v d)(g:b7 c=.v c):wG [.t [.str w,a,b,e,s,l],d,c]=pure (.v (.t [d,b,a,e,s,c])):=by
 exact h3 rfl (jf (by simp[f,g]))
def Yp{bk:List dv}(j:lN bk)(hl:bk.length<63)(m:∀g∈bk,b7 g.bc=.v g.bc)(e b s2:Int)(a k:D)(l:D) :
  lp [.t (bk.map dH),.t [.str "ask",a,k,.int e,bM b s2,l]]=pure (.v (if lexLe [b,s2] [(ff bk e).p1,(ff bk e).cG]=true then .t [.t (bk.map dH),.t [.str "late",k,a,.int e,bM b s2,.t [bM (ff bk e).p1 (ff bk e).cG]]]
   else .t [.t (pB (putL bk ⟨e,b,s2,(ff bk e).e1,(ff bk e).eA,(ff bk e).bc⟩)),.t [.str "grant",k,a,.int e,bM b s2,.t [bM (ff bk e).e1 (ff bk e).eA,(ff bk e).bc]]])):=by
 have kH:=Pl bk e;have c:b7 (ff bk e).bc=.v (ff bk e).bc:=by
  unfold ff
  cases q:bk.find? (λx=>x.e==e)with
  |none=>rfl|some g=>exact m g (find_eq q).2
 generalize ff bk e=g at kH c ⊢;have n:=Q5 (bk:=bk) ⟨e,b,s2,g.e1,g.eA,g.bc⟩ j.nodup hl c;have cut:nU (.v (.t [bM g.p1 g.cG,bM g.e1 g.eA,g.bc])) (some 1) none=pure (.v (.t [bM g.e1 g.eA,g.bc])):=by
  rw[L1,if_neg (by simp only[alP,amm];decide)];rfl
 have f:=yl "ask" a k (.int e) (bM b s2) l (.str "late") (.t [bM g.p1 g.cG]) rfl rfl;have i:=yl "ask" a k (.int e) (bM b s2) l (.str "grant") (.t [bM g.e1 g.eA,g.bc]) rfl rfl;have bB:oEq (.v (.str "ask")) (.v (.str "ask"))=pure (.v (.av true)):=eq_str (by decide +kernel);have pre:∀{d},Im [.v (.t (bk.map dH)),.v (.t [.str "ask",a,k,.int e,bM b s2,l]),.v (bM b s2),.v (.t [bM g.p1 g.cG,bM g.e1 g.eA,g.bc])]=pure (.b9 (.v d))->lp [.t (bk.map dH),.t [.str "ask",a,k,.int e,bM b s2,l]]=pure (.v d):=λh=>
  h3 rfl (st (iM (fq bB rfl rfl)) (jf (call_of rfl (h3 rfl (cT rfl (cT (j_ (call_of rfl kH)) h))))))
 cases hle:lexLe [b,s2] [g.p1,g.cG]with
 |true=>exact pre (st (congrArg pure hle) (jf (call_of rfl (h3 rfl (jf (su rfl (call_of rfl f)))))))|false=>exact pre (fJ (congrArg pure hle) (jf (su (call_of rfl n) (call_of (cons_of rfl (cons_of rfl (cons_of cut rfl))) i))))
end dW
namespace dW
open PySem PySem.Spec aA aC i2 gh jj
structure hD(h:aC.D):Prop where
 ex:∃ms fa fk,n_ h ms fa fk
 no:oEq (.v h) (.v (.str "over"))=pure (.v (.av false))
 ok:aC.Ok 9 h
structure fj where
 W:List (List Nat)
 na:Nat
 m2:Int->Int->Option cW->Prop
 E:Int->c8->Prop
structure fj.Ok(Γ:fj):Prop where
 w:Γ.W.length<63
 n:Γ.na<=6
 done:∀{e s i n d},fU hD Γ.W s->Γ.E e s->Γ.m2 i n d->Γ.E e (qd s i n d)
 j6:∀{e s},fU hD Γ.W s->Γ.E e s->(∃xs,s.aY=.t xs)->Γ.E (e+1) s.j6
 hK:∀{e s},Γ.E e s->0<=e/\e<=60
 fh:∀{i n d x},Γ.m2 i n d->d=some x->lJ hD Γ.W x
def fj.S(a:fj)(e:Int)(w:aC.D):Prop:=∃s,fU hD a.W s/\a.E e s/\w=s.D
def c8.slot(s:c8):b7 s.D=.v s.D:=rfl
def GK(d:Option cW):b7 (eh d)=.v (eh d):=by
 cases d with
 |none=>rfl|some d=>cases d<;>rfl
structure fi(Γ:fj)(a:bH)(k:Nat):Prop where
 me:a.me=k
 lt:k < Γ.na
 bT:a.jL
 hl:hD a.h
 op:Γ.S a.cv a.op
 dG:∃d,a.dG=eh d/\(a.bT≠"calm"->Γ.m2 k a.wi d)
 b1:a.bT="asking"->(∀g∈a.b1,g.k<6/\(g.s=(0,0)\/Γ.S a.cv g.w)/\b7 g.w=.v g.w)/\(a.b1.map (·.k)).Nodup
 dJ:a.bT="telling"->Γ.S a.cv a.dJ
 c1:aC.Ok 12 a.c1
inductive ji(Γ:fj):aC.D->Prop
 |ask {me k:Nat}{e:Int}{s:d2}(ab:me < Γ.na) (af:k<6) (bI:0<=e/\e<=60):ji Γ (kn me e s k)
 |tell {me k:Nat}{e:Int}{s p:d2}{n:Int}{d:Option cW}{w:aC.D}(ab:me < Γ.na) (af:k<6) (bI:Γ.S e w) (cJ:∀x,d=some x->lJ hD Γ.W x):ji Γ (qL me e s (.t [d8 p,.int n,eh d,w]) k)
 |grant {k a:Nat}{e:Int}{s kp:d2}{w:aC.D}(ab:a < Γ.na) (af:k<6) (bI:kp=(0,0)\/Γ.S e w) (cJ:b7 w=.v w) (ez:aC.Ok 10 w):ji Γ (jw k a e s kp w)
 |kept {k a:Nat}{e:Int}{s:d2}(ab:a < Γ.na) (af:k<6):ji Γ (ht k a e s)
 |late {k a:Nat}{e:Int}{s p:d2}(ab:a < Γ.na) (af:k<6):ji Γ (tS k a e s p)
def RB(k:Nat)(y:aC.D):Prop:=(∃e s j,y=kn k e s j)\/∃e s l j,y=qL k e s l j
structure lQ(Γ:fj)(k:Nat)(Y:List aC.D):Prop where
 ok:∀y∈Y,ji Γ y
 fr:∀y∈Y,RB k y
 len:Y.length<=6
def lQ.nil:lQ Γ k []:=⟨by simp,by simp,by simp⟩
section
variable{Γ:fj}(O:Γ.Ok){a:bH}{k:Nat}(h:fi Γ a k)
include O h
theorem GQ{ms:List Nat}{e:Int}{s:d2}(H:n_ dh ms fa fk)(he:0<=e/\e<=60):lQ Γ k (ms.map (kn a.me e s)):=by
 rw[h.me];refine⟨λy b=>?_,λy b=>?_,by rw[ala];exact H.len⟩
 .obtain⟨j,c,rfl⟩:=alK.mp b
  exact .ask h.lt (H.lt j c) he
 .obtain⟨j,c,rfl⟩:=alK.mp b
  exact .inl ⟨_,_,_,rfl⟩
theorem HF(b:∃d,a.dG=eh d/\Γ.m2 k a.wi d):fi Γ a.asks k where
 me:=h.me
 lt:=h.lt
 bT:=.inr (.inl rfl)
 hl:=h.hl
 op:=h.op
 dG:=by obtain⟨d,aq,aE⟩:=b;exact⟨d,aq,λ_=>aE⟩
 b1:=λ_=>⟨λg c=>(nomatch c),anZ⟩
 dJ:=λz=>by cases z
 c1:=h.c1
theorem Tx:∃Y b,a.Do qu [] Y b/\fi Γ b k/\lQ Γ k Y/\b.wi=a.wi:=by
 obtain⟨ms,fa,fk,H⟩:=h.hl.ex
 by_cases c:a.bT="calm"
 .exact⟨_,a,Tv c,h,.nil,rfl⟩
 .obtain⟨d,aq,aE⟩:=h.dG
  obtain⟨s,_,s2,_⟩:=h.op;exact⟨_,_,Tz H.mem H.len h.bT c,HF O h ⟨d,aq,aE c⟩,GQ O h H (O.hK s2),rfl⟩
theorem aar(r:Int):fi Γ (a.zB r) k:=⟨h.me,h.lt,h.bT,h.hl,h.op,h.dG,h.b1,h.dJ,h.c1⟩
end
def pj(n:Nat)(s:d2):aC.Ok (n+1) (d8 s):=j5 cR cR
def Qq{a:fj}(O:a.Ok){s:c8}(h:fU hD a.W s){x:Int}{y:aC.D}{z:d2}(b:y=.aH\/y=d8 z):aC.Ok 12 (.t [.str "saw",.t [.int x,y,s.D]]):=
 j5 (f_ (by decide +kernel)) (mu cR (by rcases b with rfl|rfl;exact mw;exact pj _ z) (h.ok (by have:=O.w;omega) λz hz=>hz.ok))
def R_{s:c8}(h:fU hD W s)(i:Int):aC.Ok 11 (s.dt i):=by
 unfold c8.dt;split
 .rename_i a b z e
  have:=h.rr _ (vQ e);have w:=this.2;have w:(decide ([a,b,z].length<=1000)&&mG [a,b,z])=true:=w;rw[alC]at w;exact lx (n:=1) ⟨k_.mp this.1 z (by simp),u4.mp w.2 z (by simp)⟩ (by decide)
 .exact mw
def Pa{c:fj}{d:Option cW}(h:∀x,d=some x->lJ hD c.W x):aC.Ok 10 (eh d):=by
 cases d with
 |none=>exact mw|some x=>
  have b:=h x rfl
  cases x with
  |put a n=>exact mu (f_ (by decide +kernel)) (f_ b.1.1) cR| add a n=>exact mu (f_ (by decide +kernel)) (f_ b.1.1) cR| swap a o n=>exact xb (f_ (by decide +kernel)) (f_ b.1.1) cR cR| take g=>exact j5 (f_ (by decide +kernel)) cR| renew g=>exact j5 (f_ (by decide +kernel)) cR| free g=>exact j5 (f_ (by decide +kernel)) cR| sure g a n=>exact xb (f_ (by decide +kernel)) cR (f_ b.1.1) cR| move z=>exact j5 (f_ (by decide +kernel)) b.2.ok| fin=>exact O7 (f_ (by decide +kernel))
def O8(f:aC.Ok n a)(g:aC.Ok n b)(i:aC.Ok n c)(j:aC.Ok n d)(k:aC.Ok n e):aC.Ok (n+1) (.t [a,b,c,d,e]):=nV (by simp) (by simp only[alT];exact⟨f,g,i,j,k,λ_ h=>nomatch h⟩)
def s':¬("calm":Str)="asking":=by decide
def ta:¬("calm":Str)="telling":=by decide
def ago:¬("telling":Str)="asking":=by decide
def TG{a:List Nat}(b:∀k∈a,k<6)(c:j<6):cE (maskOf a) j=a.contains j:=by
 rw[zY a b];exact z4 _ j c
def TY(p:fl):∀(ps:List fl),jr p ps∈p::ps:=by
 have key:∀(ps:List fl)(b:fl),jr b ps=b\/jr b ps∈ps:=by
  intro ps
  induction ps with
  |nil=>intro b;exact .inl rfl|cons q ps a=>
   intro b;have e:jr b (q::ps)=jr (w1 b q) ps:=rfl;rw[e];rcases a (w1 b q)with z|z
   .rw[z]
    unfold w1;split
    .exact .inr alo
    .exact .inl rfl
   .exact .inr (alh _ z)
 intro ps;rcases key ps p with z|z
 .rw[z];exact alo
 .exact alh _ z
section
variable{Γ:fj}(O:Γ.Ok){a:bH}{k:Nat}(h:fi Γ a k)
include O h
theorem VZ(H:n_ a.h ms fa fk)(c:a.bT="asking")(R:a.b1=p::ps){s2:d2}(hw:Γ.S a.cv w) :
  ∃Y b,a.Do tY [.t [d8 s2,w]] Y b/\fi Γ b k/\lQ Γ k Y/\b.wi=a.wi:=by
 obtain⟨s,m,K,rfl⟩:=hw;obtain⟨d,l,f⟩:=h.dG;have Q:a.bT≠"calm":=by rw[c];decide
 have f:=f Q;have G:=h.b1 c;have V:a.b1.length<=6:=by
  have:=amy (l₂:=alD 6) G.2 λx e=>by
   obtain⟨g,B,rfl⟩:=alK.mp e;exact alZ.mpr (G.1 g B).1
  rw[ala,amt]at this;exact this
 have r:a.yg s.D (!!gp s.aY&&(a.b1.all λg=>decide (g.s=p.s))&&fk (maskOf (a.b1.map (·.k)))):=λS i g A=>afi H A R (λg B=>(G.1 g B).1) (by omega) s.slot (NF s)
 generalize T:(!!gp s.aY&&(a.b1.all λg=>decide (g.s=p.s))&&fk (maskOf (a.b1.map (·.k))))=b at r
 by_cases q:d=none/\b=true
 .obtain⟨rfl,rfl⟩:=q
  refine⟨_,_,V0 l r,?_,.nil,rfl⟩;exact⟨h.me,h.lt,.inl rfl,h.hl,h.op,⟨none,l,λz=>absurd rfl z⟩,(λz=>absurd z s'),(λz=>absurd z ta),Qq O m (.inr rfl)⟩
 .have P:=UU m O.w a.me a.wi (d:=d) λx e=>O.fh f e
  have hd:gp a.dG=false\/a.yg s.D false:=by
   cases d with
   |some x=>left;rw[l];cases x<;>rfl
   |none=>
    right;have:b=false:=by cases b with|false=>rfl|true=>exact absurd ⟨rfl,rfl⟩ q
    rw[this]at r;exact r
  have M:=l;refine⟨_,_,V1 H.mem H.len hd (by rw[l];exact P),?_,?_,rfl⟩
  .have N:=h.lt
   have L:=O.n;have ok:=LS m (i:=a.me) (by rw[h.me];omega) (by rw[h.me];omega) a.wi (d:=d) λx e=>O.fh f e
   have u:Γ.E a.cv (qd s a.me a.wi d):=O.done m K (by rw[h.me];exact f);exact⟨h.me,h.lt,.inr (.inr rfl),h.hl,h.op,⟨d,l,λ_=>f⟩,(λz=>absurd z ago),(λ_=>⟨_,ok,u,rfl⟩),h.c1⟩
  .have N:=h.lt
   have L:=O.n;have ok:=LS m (i:=a.me) (by rw[h.me];omega) (by rw[h.me];omega) a.wi (d:=d) λx e=>O.fh f e
   have u:Γ.E a.cv (qd s a.me a.wi d):=O.done m K (by rw[h.me];exact f);refine⟨λy F=>?_,λy F=>?_,by rw[ala];exact H.len⟩
   .obtain⟨j,J,rfl⟩:=alK.mp F
    rw[h.me,l];rw[h.me]at ok u;exact .tell h.lt (H.lt j J) ⟨_,ok,u,rfl⟩ λx e=>O.fh f e
   .obtain⟨j,J,rfl⟩:=alK.mp F
    rw[h.me];exact .inr ⟨_,_,_,_,rfl⟩
end
section
variable{Γ:fj}(O:Γ.Ok){a:bH}{k:Nat}(h:fi Γ a k)
include O h
theorem Yf{e:Int}{s kp:d2}(i:j<6)(A:kp=(0,0)\/Γ.S e w)(hw:b7 w=.v w) :
  ∃Y b,a.Do iV [jw j k e s kp w] Y b/\fi Γ b k/\lQ Γ k Y/\b.wi=a.wi:=by
 rw[<-h.me];obtain⟨ms,fa,fk,H⟩:=h.hl.ex
 cases q:a.now ms j e s with
 |false=>exact⟨_,a,MZ H (.str "grant") (.t [d8 kp,w]) Dv q,h,.nil,rfl⟩|true=>
  by_cases c:a.bT="asking"
  .have l:=h.b1 c
   have nk:∀g∈a.b1,g.k<6:=λg d=>(l.1 g d).1
   have E:a.b1.length<=6:=by
    have:=amy (l₂:=alD 6) l.2 λx f=>by
     obtain⟨g,d,rfl⟩:=alK.mp f;exact alZ.mpr (nk g d)
    rw[ala,amt]at this;exact this
   have D:∀x∈a.b1.map (·.k),x<6:=λx f=>by
    obtain⟨g,d,rfl⟩:=alK.mp f;exact nk g d
   cases bY:cE (maskOf (a.b1.map (·.k))) j with
   | true=>exact⟨_,a,DK H h.bT q c (Yh nk (by omega) bY),h,.nil,rfl⟩|false=>
    have r:j∉a.b1.map (·.k):=λz=>by
     rw[TG D i,List.contains_iff_mem.mpr z]at bY;cases bY
    have he:e=a.cv:=by
     unfold bH.now at q;rw[alC,alC]at q;exact of_decide_eq_true q.1.1
    have n:fi Γ (a.got j kp w) k:=by
     refine⟨h.me,h.lt,h.bT,h.hl,h.op,h.dG,λz=>⟨λg d=>?_,?_⟩,h.dJ,h.c1⟩
     .rcases al6.mp d with d|d
      .exact l.1 g d
      .rw[alB]at d
       subst d;subst he;exact⟨i,A,hw⟩
     .unfold bH.got
      dsimp only;rw[amw];refine an1.mpr ⟨l.2,by simp,λx f y m=>?_⟩;have m:y=j:=by simpa using m
      subst m;rintro rfl;exact r f
    cases o:fa (maskOf ((a.got j kp w).b1.map (·.k)))with
    | false=>exact⟨_,_,DK H h.bT q c (Yd H nk (by omega) i bY o),n,.nil,rfl⟩|true=>
     have ne:(a.got j kp w).b1≠[]:=by unfold bH.got;simp
     obtain⟨p,ps,u⟩:=List.exists_cons_of_ne_nil ne;have bm:=TY p ps;rw[<-u]at bm;have B:Γ.S (a.got j kp w).cv (if(jr p ps).s=(0,0)then a.op else(jr p ps).w):=by
      split
      .exact h.op
      .rename_i z
       exact((n.b1 c).1 _ bm).2.1.resolve_left z
     obtain⟨Y,b,aq,aE,cX,eO⟩:=VZ O n (ms:=ms) (fa:=fa) (fk:=fk) H c u (s2:=(jr p ps).s) B;obtain⟨dQ,_,_,lX⟩:=h.op;exact⟨Y,b,DK H h.bT q c (Yg H nk (by omega) i u (by rw[lX];rfl) bY o aq),aE,cX,eO⟩
  .exact⟨_,a,Ye H h.bT q c,h,.nil,rfl⟩
end
def adN:oEq (.v (.str "over")) (.v (.str "over"))=pure (.v (.av true)):=by rw[jg (by decide +kernel) (by decide +kernel),beq_self_eq_true]
def aaA(a:bH):a.rW.wi=a.wi:=by unfold bH.rW;split<;>rfl
def agx{a:fj}{s:c8}(h:fU hD a.W s)(i:Int):Told s.D i (s.last i) (s.dt i) s.aY s.jb:=by
 refine⟨⟨_,US h i⟩,afn s,NF s,?_,h.ss⟩;unfold c8.jb;rcases h.aY with e|e|⟨⟨xs,e⟩,g⟩
 .rw[e,rv (x:=.v .aH) (y:=.v (.str "over")) rfl (by decide +kernel)];rfl
 .rw[e];exact adN
 .have:=g.no
  rw[e]at this ⊢;exact this
section
variable{Γ:fj}(O:Γ.Ok){a:bH}{k:Nat}(h:fi Γ a k)
include O h
theorem aag(j:Nat):fi Γ (a.gF j) k:=⟨h.me,h.lt,h.bT,h.hl,h.op,h.dG,h.b1,h.dJ,h.c1⟩
theorem U3(b:aC.Ok 12 o):fi Γ (a.ends o) k:=by
 obtain⟨d,c,_⟩:=h.dG;exact⟨h.me,h.lt,.inl rfl,h.hl,h.op,⟨d,c,λz=>absurd rfl z⟩,(λz=>absurd z s'),(λz=>absurd z ta),b⟩
theorem U5{bc:c8}(b:fU hD Γ.W bc)(c:a.dJ=bc.D)(n:Int)(aY:aC.D)(cp:Bool):fi Γ (a.gk n (bc.dt a.me) aY cp) k:=by
 rcases vH a n (bc.dt a.me) aY cp with⟨o,z,e⟩|e<;>rw[e]
 .refine U3 O h ?_
  rcases z with rfl|⟨x,y,z,rfl,C⟩
  .exact j5 (f_ (by decide +kernel)) (R_ b _)
  .rw[c]
   exact Qq O b C
 .exact h
theorem aay:fi Γ a.rW k:=by
 unfold bH.rW;split
 .exact⟨h.me,h.lt,h.bT,h.hl,h.op,h.dG,h.b1,h.dJ,h.c1⟩
 .obtain⟨d,b,_⟩:=h.dG
  exact⟨h.me,h.lt,.inl rfl,h.hl,h.op,⟨d,b,λz=>absurd rfl z⟩,(λz=>absurd z s'),(λz=>absurd z ta),lx (n:=1) (j5 (f_ (by decide +kernel)) mw) (by decide)⟩
theorem Yk{e:Int}{s:d2}(l:j<6) :
  ∃Y b,a.Do iV [ht j k e s] Y b/\fi Γ b k/\lQ Γ k Y/\b.wi=a.wi:=by
 rw[<-h.me];obtain⟨ms,fa,fk,H⟩:=h.hl.ex
 cases q:a.now ms j e s with
 |false=>exact⟨_,a,MZ H (.str "kept") (.t []) Et q,h,.nil,rfl⟩|true=>
  by_cases c:a.bT="telling"
  .obtain⟨bc,i,F,r⟩:=h.dJ c
   have T:Told a.dJ a.me (bc.last a.me) (bc.dt a.me) bc.aY bc.jb:=by rw[r];exact agx i a.me
   have B:=aag O h j;have f:fi Γ ((a.gF j).gk (bc.last a.me) (bc.dt a.me) bc.aY bc.jb) k:=U5 O B i r (bc.last a.me) bc.aY bc.jb
   cases bY:fk (a.nI ||| maskOf [j])with
   |false=>exact⟨_,_,v7 H h.bT q c (Yi H l bY),B,.nil,rfl⟩|true=>
    cases o:gp bc.aY with
    |true=>exact⟨_,_,v7 H h.bT q c (Yl H l T bY o),f,.nil,C2 _ _ _ _ _⟩|false=>
     cases C:bc.jb with
     |true=>
      refine⟨_,_,v7 H h.bT q c (Ym H l T bY o h.bT C),?_,.nil,(aaA _).trans (C2 _ _ _ _ _)⟩;exact aay O f
     |false=>
      have m:(∃xs,bc.aY=.t xs)/\hD bc.aY:=by
       rcases i.aY with e|e|e
       .rw[e]at o;cases o
       .unfold c8.jb at C;rw[e]at C;cases C
       .exact e
      obtain⟨P,K,L,n⟩:=m.2.ex;have G:((a.gF j).gk (bc.last a.me) (bc.dt a.me) bc.aY bc.jb).dJ=bc.D:=(L7 _ _ _ _ _).trans r;have y:uf [((a.gF j).gk (bc.last a.me) (bc.dt a.me) bc.aY bc.jb).dJ]=pure (.v bc.j6.D):=by rw[G];exact adl bc
      have u:((a.gF j).gk (bc.last a.me) (bc.dt a.me) bc.aY bc.jb).cv=a.cv:=U4 _ _ _ _ _;have x:Γ.S (((a.gF j).gk (bc.last a.me) (bc.dt a.me) bc.aY bc.jb).cv+1) bc.j6.D:=by rw[u];exact⟨_,i.j6,O.j6 i F m.1,rfl⟩
      have Q:fi Γ (((a.gF j).gk (bc.last a.me) (bc.dt a.me) bc.aY bc.jb)) k:=f;have w:((a.gF j).gk (bc.last a.me) (bc.dt a.me) bc.aY bc.jb).wi=a.wi:=C2 _ _ _ _ _;generalize E:(a.gF j).gk (bc.last a.me) (bc.dt a.me) bc.aY bc.jb=A at *
      by_cases aj:A.bT="calm"
      .have g:=V2 f.bT i.ss y aj
       have lo:((a.gF j).gk (bc.last a.me) (bc.dt a.me) bc.aY bc.jb).Do r0 [bc.aY] [] (A.over bc.aY bc.j6.D):=by rw[E];exact g
       refine⟨_,_,v7 H h.bT q c (MY H l T bY o C lo),?_,.nil,w⟩;obtain⟨d,p,_⟩:=f.dG;refine⟨f.me,f.lt,f.bT,m.2,x,⟨d,p,λz=>absurd aj z⟩,λz=>?_,λz=>?_,f.c1⟩
       .have z:A.bT="asking":=z
        rw[aj]at z;exact absurd z s'
       .have z:A.bT="telling":=z
        rw[aj]at z;exact absurd z ta
      .have g:=V3 f.bT i.ss y aj n.mem n.len
       have lo:((a.gF j).gk (bc.last a.me) (bc.dt a.me) bc.aY bc.jb).Do r0 [bc.aY] (P.map (kn A.me (A.cv+1) (A.c_+1,A.me))) (A.over bc.aY bc.j6.D).asks:=by rw[E];exact g
       obtain⟨d,p,M⟩:=f.dG;have N:=O.hK (O.j6 i F m.1);refine⟨_,_,v7 H h.bT q c (MY H l T bY o C lo),?_,GQ O f n (by rw[u];exact N),w⟩;exact⟨f.me,f.lt,.inr (.inl rfl),m.2,x,⟨d,p,λ_=>M aj⟩,(λ_=>⟨λg J=>(nomatch J),anZ⟩),(λz=>by cases z),f.c1⟩
  .exact⟨_,a,Yj H h.bT q c,h,.nil,rfl⟩
theorem Yo{e:Int}{s p:d2}:∃Y b,a.Do iV [tS j k e s p] Y b/\fi Γ b k/\lQ Γ k Y/\b.wi=a.wi:=by
 rw[<-h.me];exact⟨_,_,Yn p,aar O h p.1,.nil,rfl⟩
end
end dW
namespace dW
open PySem PySem.Spec aA aC
def agn:oEq (.v (.str "tell")) (.v (.str "ask"))=pure (.v (.av false)):=by
 have a:alx "tell"=true:=by decide +kernel
 have b:alx "ask"=true:=by decide +kernel
 have c:(("tell":Str) == "ask")=false:=by decide +kernel
 rw[rv (x:=.v (.str "tell")) (y:=.v (.str "ask")) a b];show pure (R.v (D.av (("tell":Str) == "ask")))=_;rw[c]
def Yr{bk:List dv}(m:lN bk)(hl:bk.length<63)(e b s2:Int)(a k i c f x:D)(n:b7 x=.v x) :
  lp [.t (bk.map dH),.t [.str "tell",a,k,.int e,bM b s2,.t [i,c,f,x]]]=pure (.v (if aA.lexLt [b,s2] [(ff bk e).p1,(ff bk e).cG]=true then .t [.t (bk.map dH),.t [.str "late",k,a,.int e,bM b s2,.t [bM (ff bk e).p1 (ff bk e).cG]]]
   else .t [.t (pB (putL bk ⟨e,b,s2,b,s2,x⟩)),.t [.str "kept",k,a,.int e,bM b s2,.t []]])):=by
 have kH:=Pl bk e;generalize ff bk e=g at kH ⊢;have p:=Q5 (bk:=bk) ⟨e,b,s2,b,s2,x⟩ m.nodup hl n;have j:=yl "tell" a k (.int e) (bM b s2) (.t [i,c,f,x]) (.str "late") (.t [bM g.p1 g.cG]) rfl rfl;have l:=yl "tell" a k (.int e) (bM b s2) (.t [i,c,f,x]) (.str "kept") (.t []) rfl rfl;have pre:∀{d},Io [.v (.t (bk.map dH)),.v (.t [.str "tell",a,k,.int e,bM b s2,.t [i,c,f,x]]),.v (bM b s2),.v (bM g.p1 g.cG)]=pure (.b9 (.v d))->lp [.t (bk.map dH),.t [.str "tell",a,k,.int e,bM b s2,.t [i,c,f,x]]]=pure (.v d):=λh=>
  h3 rfl (fJ (iM (fq agn rfl rfl)) (jf (call_of rfl (h3 rfl (cT rfl (cT (j_ (fq rfl (call_of rfl kH) rfl)) h))))))
 cases hle:aA.lexLt [b,s2] [g.p1,g.cG]with
 |true=>exact pre (st (congrArg pure hle) (jf (call_of rfl (h3 rfl (jf (su rfl (call_of rfl j)))))))|false=>exact pre (fJ (congrArg pure hle) (jf (su (call_of rfl p) (call_of rfl l))))
end dW
namespace dW
open PySem PySem.Spec aA aC i2 gh jj
structure sT(Γ:fj)(g:dv):Prop where
 e:0<=g.e/\g.e<=60
 s:(g.e1,g.eA)=((0,0):d2)\/Γ.S g.e g.bc
 bc:b7 g.bc=.v g.bc
 ok:aC.Ok 10 g.bc
def n9(a:fj)(b:aC.D):Prop:=∃bk:List dv,b=.t (bk.map dH)/\lN bk/\∀g∈bk,sT a g
def Jy{bk:List dv}(a:lN bk)(h:∀g∈bk,sT Γ g):bk.length<63:=by
 have:=amy (l₂:=(alD 61).map λ(i:Nat)=>(i:Int)) a.nodup λx c=>by
  obtain⟨g,b,rfl⟩:=alK.mp c;have:=(h g b).e;exact alK.mpr ⟨g.e.toNat,alZ.mpr (by omega),by omega⟩
 rw[ala,ala,amt]at this;omega
def adQ{bk:List dv}(h:∀g∈bk,sT Γ g){e:Int}(he:0<=e/\e<=60):sT Γ (ff bk e):=by
 unfold ff
 cases q:bk.find? (λx=>x.e==e)with
 |none=>exact⟨he,.inl rfl,rfl,mw⟩|some g=>exact h g (find_eq q).2
def PQ{bk:List dv}(a:lN bk)(h:∀g∈bk,sT Γ g)(b:sT Γ g):n9 Γ (.t (pB (putL bk g))):=by
 obtain⟨i,d,e,f,_⟩:=aeE a g;refine⟨i,by rw[e],d,λx c=>?_⟩;rcases aeD ((f x).mp c)with z|rfl
 .exact h x z
 .exact b
def Yq(O:Γ.Ok)(J:n9 Γ b){e:Int}{s:d2}(M:ji Γ L)(x:L=kn me e s j\/∃l,L=qL me e s l j) :
  ∃B y,lp [b,L]=pure (.v (.t [B,y]))/\n9 Γ B/\ji Γ y:=by
 obtain⟨bk,rfl,f,h⟩:=J;have hl:=Jy f h
 cases M with
 |@ask u r c a k m A=>
  have i:=adQ h A;have E:=Pk bk c;have eq:=Yp f hl (λg H=>(h g H).bc) c a.1 a.2 (.int u) (a' r) (.t []);have eq:lp [.t (bk.map dH),kn u c a r]=_:=eq;generalize ff bk c=g at *
  cases q:lexLe [a.1,a.2] [g.p1,g.cG]with
  |true=>
   rw[if_pos q]at eq;exact⟨_,_,eq,⟨bk,rfl,f,h⟩,.late (p:=(g.p1,g.cG)) k m⟩
  |false=>
   rw[if_neg (by rw[q];decide)]at eq;subst E;exact⟨_,_,eq,PQ f h ⟨i.e,i.s,i.bc,i.ok⟩,.grant (kp:=(g.e1,g.eA)) k m i.s i.bc i.ok⟩
 |@tell u r c a p n d w k m A N=>
  obtain⟨bc,G,F,rfl⟩:=A;have K:=O.hK F;have E:=Pk bk c;have eq:=Yr f hl c a.1 a.2 (.int u) (a' r) (d8 p) (.int n) (eh d) bc.D rfl;have eq:lp [.t (bk.map dH),qL u c a (.t [d8 p,.int n,eh d,bc.D]) r]=_:=eq;generalize ff bk c=g at *
  cases q:aA.lexLt [a.1,a.2] [g.p1,g.cG]with
  |true=>
   rw[if_pos q]at eq;exact⟨_,_,eq,⟨bk,rfl,f,h⟩,.late (p:=(g.p1,g.cG)) k m⟩
  |false=>
   rw[if_neg (by rw[q];decide)]at eq;exact⟨_,_,eq,PQ f h ⟨K,.inr ⟨bc,G,F,rfl⟩,rfl,G.ok (by have:=O.w;omega) λz hz=>hz.ok⟩,.kept k m⟩
 |grant _ _ _ _ _=>rcases x with z|⟨l,z⟩<;>exact absurd z (by unfold jw;intro z;injection z with z;injection z with z _;injection z with z;exact absurd z (by decide))
 |kept _ _=>rcases x with z|⟨l,z⟩<;>exact absurd z (by unfold ht;intro z;injection z with z;injection z with z _;injection z with z;exact absurd z (by decide))
 |late _ _=>rcases x with z|⟨l,z⟩<;>exact absurd z (by unfold tS;intro z;injection z with z;injection z with z _;injection z with z;exact absurd z (by decide))
def Zt(w:Str)(hw:alx w=true):kG false (.v (.str w)) (.v (.t [.str "ask",.str "tell"]))=pure (.v (.av (w == "ask" || w == "tell"))):=by
 have fa:([D.str "ask",D.str "tell"]).all D.flat=true:=by decide +kernel
 have b:(D.str w).flat=true:=by simpa[D.flat]using hw
 show(if(D.str w).flat=true/\([D.str "ask",D.str "tell"]).all D.flat=true then pure (R.v (D.av (if false=true then !inD (D.str w) [D.str "ask",D.str "tell"]else inD (D.str w) [D.str "ask",D.str "tell"])))else bad)=_;rw[if_pos ⟨b,fa⟩,if_neg alg]
 congr 3
 show(eB (D.str "ask") (D.str w)||(eB (D.str "tell") (D.str w)||false))=_;rw[Bool.or_false,show eB (D.str "ask") (D.str w)=(("ask":Str)==w)from rfl,show eB (D.str "tell") (D.str w)=(("tell":Str)==w)from rfl,BEq.comm (a:=("ask":Str)),BEq.comm (a:=("tell":Str))]
def V4(w:Str)(hw:alx w=true)(ds:List aC.D):o4 [.t (.str w::ds)]=pure (.v (.av (w == "ask" || w == "tell"))):=by
 have e:=Zt w hw;have a:d4 (D.str w::ds) 0=some (.str w):=m5 _ _;simp only[o4,Ij];generalize kG=F at *;simp[e,a]
structure fS(Γ:fj)(h:dc):Prop where
 na:h.as.length=Γ.na
 as:∀(k:Nat)(a:bH),h.as[k]? = some a->fi Γ a k
 nb:h.bs.length=6
 bs:∀b∈h.bs,n9 Γ b
 ls:∀l∈h.ls,ji Γ l
 rs:∀r∈h.rs,aC.Ok 13 r
def Fv:alx "ask"=true:=by decide +kernel
def Fy:alx "tell"=true:=by decide +kernel
def dc.k2(h h':dc):Prop:=∀i:Nat,(h'.as[i]?).map bH.wi=(h.as[i]?).map bH.wi
def F0{h:dc}{a b:bH}(d:h.as[k]? = some a)(e:b.wi=a.wi):h.k2 (h.put k b):=λi=>by
 unfold dc.put;dsimp only
 by_cases c:k=i
 .subst c
  rw[alA (ak8.mp d).1,d];exact congrArg some e
 .rw[ale c]
inductive vb(h:dc)(L:aC.D)(Y:List aC.D)(h':dc):Prop
 |keeper {me j:Nat}{e:Int}{s:d2}{b eN y:aC.D}(gT:L=kn me e s j\/∃l,L=qL me e s l j) (bj:j<6) (dg:h.bs[j]? = some b) (g:lp [b,L]=pure (.v (.t [eN,y]))) (LZ:Y=[y]) (bL:h'.bs=h.bs.set j eN) (cu:h'.as=h.as):vb h L Y h'
 |asker {a j:Nat}{e:Int}{s:d2}(gT:(∃kp w,L=jw j a e s kp w)\/L=ht j a e s\/∃p,L=tS j a e s p) {A B:bH}(qf:h.as[a]? = some A) (nd:A.Do iV [L] Y B) (cu:h'.as=h.as.set a B) (bL:h'.bs=h.bs):vb h L Y h'
section
variable{Γ:fj}{h:dc}(H:fS Γ h)
include H
theorem fS.wr(a:∀y∈Y,ji Γ y):fS Γ (h.wr Y):=⟨H.na,H.as,H.nb,H.bs,(λl hl=>(al6.mp hl).elim (H.ls l) (a l)),H.rs⟩
theorem fS.put(f:k<h.as.length)(d:fi Γ b k):fS Γ (h.put k b):=by
 refine⟨by unfold dc.put;dsimp only;rw[alS];exact H.na,λi a e=>?_,H.nb,H.bs,H.ls,H.rs⟩;have e:(h.as.set k b)[i]? = some a:=e
 by_cases c:k=i
 .subst c
  rw[alA f]at e;cases e;exact d
 .rw[ale c]at e
  exact H.as i a e
theorem fS.row{r:aC.D}(a:aC.Ok 13 r):fS Γ (h.row r):=⟨H.na,H.as,H.nb,H.bs,H.ls,λx b=>(al6.mp b).elim (H.rs x) λz=>by rw[alB.mp z];exact a⟩
theorem fS.bk(a:n9 Γ b):fS Γ (h.bk k b):=by
 refine⟨H.na,H.as,by unfold dc.bk;dsimp only;rw[alS];exact H.nb,λx c=>?_,H.ls,H.rs⟩;rcases am8 c with z|rfl
 .exact H.bs x z
 .exact a
theorem fS.asker{k:Nat}(b:k < Γ.na):∃a,h.as[k]? = some a/\fi Γ a k:=by
 have e:h.as[k]? = some (h.as[k]'(by rw[H.na];exact b)):=aln _;exact⟨_,e,H.as k _ e⟩
theorem agt(O:Γ.Ok){k:Nat}(m:k < Γ.na){L w x e s n:aC.D}(p:L=.t [w,x,.int k,e,s,n])(j:h.rs.length<=100000)
  (g:∀a,fi Γ a k->∃Y b,a.Do iV [L] Y b/\fi Γ b k/\lQ Γ k Y/\b.wi=a.wi) :
  ∃Y h',h.Do r4 [L] (.v (.l Y)) h'/\fS Γ h'/\lQ Γ k Y/\h'.ls=h.ls/\h'.bs=h.bs/\h'.rs.length<=h.rs.length+1/\h.k2 h'/\∃a b,h.as[k]? = some a/\a.Do iV [L] Y b/\h'.as=h.as.set k b:=by
 obtain⟨a,c,d⟩:=H.asker m;obtain⟨Y,b,aq,aE,cX,f⟩:=g a d;subst p;have i:k<h.as.length:=(ak8.mp c).1;have eO:=ags c d.bT aE.bT aq j;refine⟨Y,_,eO,?_,cX,?_,?_,?_,?_,a,b,c,aq,?_⟩
 .split
  .exact(H.put i aE).row (O8 (f_ (by decide +kernel)) cR cR aE.c1 cR)
  .exact H.put i aE
 .split<;>rfl
 .split<;>rfl
 .split
  .unfold dc.row dc.put;dsimp only;rw[alb];exact alf _
  .exact aoE _
 .split
  .exact F0 c f
  .exact F0 c f
 .split<;>rfl
theorem vT(hw:alx w=true)(a:(w == "ask" || w == "tell")=b):o4 [.t (.str w::ds)]=pure (.v (.av b)):=by rw[V4 w hw,a]
theorem TX(O:Γ.Ok)(S:k<h.ls.length)(hz:h.ls.length<=900000)(M:h.rs.length<=100000) :
  ∃Y h',h.Do o2 [.int k] (.fr (dP h.ls.length Y.length)) h'/\fS Γ h'/\h'.ls=h.ls++Y/\Y.length<=6/\h'.rs.length<=h.rs.length+1/\h.k2 h'/\vb h h.ls[k] Y h':=by
 have e:h.ls[k]? = some h.ls[k]:=aln _;have J:=H.ls _ (amH S);generalize h.ls[k]=L at *;have key:∀(me j:Nat)(c:Int)(s:d2),j<6->(L=kn me c s j\/∃l,L=qL me c s l j)->b7 L=.v L->o4 [L]=pure (.v (.av true))->(∃w x e s q,L=.t [w,x,.int j,e,s,q])->
   ∃Y h',h.Do o2 [.int k] (.fr (dP h.ls.length Y.length)) h'/\fS Γ h'/\h'.ls=h.ls++Y/\Y.length<=6/\h'.rs.length<=h.rs.length+1/\h.k2 h'/\vb h L Y h':=λme j c s r F bc go ⟨w,x,I,ss,q,E⟩=>by
  have G:h.bs[j]? = some (h.bs[j]'(by rw[H.nb];exact r)):=aln _;have P:=H.bs _ (amH (by rw[H.nb];exact r:j<h.bs.length));generalize h.bs[j]'(by rw[H.nb];exact r)=b at *;obtain⟨V,y,g,Z,N⟩:=Yq O P J F;have y0:=g;have tk:h.Do wD [L] (.fr [y]) (h.bk j V):=by rw[E]at g ⊢;exact agu G g
  refine⟨[y],_,TV e go tk rfl (by simp;omega),(H.bk Z).wr (by intro z hz;rw[alB]at hz;subst hz;exact N),rfl,by simp,aoE _,(λ_=>rfl),.keeper F r G g rfl rfl rfl⟩
 have u:∀(a:Nat),a < Γ.na->(∃(j:Nat)(e:Int)(s:d2),(∃kp w,L=jw j a e s kp w)\/L=ht j a e s\/∃p,L=tS j a e s p)->b7 L=.v L->o4 [L]=pure (.v (.av false))->(∃w x e s q,L=.t [w,x,.int a,e,s,q])->(∀A,fi Γ A a->∃Y b,A.Do iV [L] Y b/\fi Γ b a/\lQ Γ a Y/\b.wi=A.wi)->
   ∃Y h',h.Do o2 [.int k] (.fr (dP h.ls.length Y.length)) h'/\fS Γ h'/\h'.ls=h.ls++Y/\Y.length<=6/\h'.rs.length<=h.rs.length+1/\h.k2 h'/\vb h L Y h':=λa R ⟨Q,CZ,Aw,K⟩ bc go ⟨w,x,I,ss,q,E⟩ g=>by
  obtain⟨Y,h',aq,aE,cX,eO,k8,oy,U,A,B,C,X,W⟩:=agt H O R E M g;have o:=cX.len;refine⟨Y,_,TU e go aq eO (by omega),aE.wr cX.ok,?_,o,oy,U,.asker K C X W k8⟩;unfold dc.wr;dsimp only;rw[eO]
 cases J with
 |@ask me j c s i f D=>exact key me j c s f (.inl rfl) rfl (vT H Fv rfl) ⟨_,_,_,_,_,rfl⟩|@tell me j c s p n d w i f D _=>exact key me j c s f (.inr ⟨_,rfl⟩) rfl (vT H Fy rfl) ⟨_,_,_,_,_,rfl⟩|@grant j a c s kp w i f D T _=>exact u a i ⟨_,_,_,.inl ⟨_,_,rfl⟩⟩ rfl (vT H sd rfl) ⟨_,_,_,_,_,rfl⟩ λA m=>Yf O m f D T
 |@kept j a c s i f=>exact u a i ⟨_,_,_,.inr (.inl rfl)⟩ rfl (vT H Fw rfl) ⟨_,_,_,_,_,rfl⟩ λA m=>Yk O m f
 |@late j a c s p i f=>exact u a i ⟨_,_,_,.inr (.inr ⟨_,rfl⟩)⟩ rfl (vT H uz rfl) ⟨_,_,_,_,_,rfl⟩ λA m=>Yo O m
end
structure fj.Bx(Γ mL:fj):Prop where
 w:mL.W=Γ.W
 n:mL.na=Γ.na
 wi:∀{i n d},Γ.m2 i n d->mL.m2 i n d
 e:∀{e s},Γ.E e s->mL.E e s
section
variable{Γ mL:fj}(le:Γ.Bx mL)
include le
theorem fj.Bx.s{e:Int}{w:aC.D}(h:Γ.S e w):mL.S e w:=by
 obtain⟨s,a,b,c⟩:=h;exact⟨s,by rw[le.w];exact a,le.e b,c⟩
theorem fi.mono(h:fi Γ a k):fi mL a k:=by
 refine⟨h.me,by rw[le.n];exact h.lt,h.bT,h.hl,le.s h.op,?_,λc=>⟨λg b=>?_,(h.b1 c).2⟩,λc=>le.s (h.dJ c),h.c1⟩
 .obtain⟨d,f,e⟩:=h.dG
  exact⟨d,f,λz=>le.wi (e z)⟩
 .obtain⟨x,y,z⟩:=(h.b1 c).1 g b
  exact⟨x,y.imp id le.s,z⟩
theorem ji.mono(h:ji Γ l):ji mL l:=by
 cases h with
 |ask a b c=>exact .ask (by rw[le.n];exact a) b c| tell a b c d=>exact .tell (by rw[le.n];exact a) b (le.s c) λx e=>by have:=d x e;rw[le.w];exact this
 |grant a b c d f=>exact .grant (by rw[le.n];exact a) b (c.imp id le.s) d f| kept a b=>exact .kept (by rw[le.n];exact a) b| late a b=>exact .late (by rw[le.n];exact a) b
theorem n9.mono(h:n9 Γ b):n9 mL b:=by
 obtain⟨bk,e,r,p⟩:=h;exact⟨bk,e,r,λg a=>⟨(p g a).e,(p g a).s.imp id le.s,(p g a).bc,(p g a).ok⟩⟩
theorem fS.mono(H:fS Γ h):fS mL h:=⟨by rw[le.n];exact H.na,λk a e=>(H.as k a e).mono le,H.nb,λb c=>(H.bs b c).mono le,λl hl=>(H.ls l hl).mono le,H.rs⟩
end
section
variable{Γ:fj}(O:Γ.Ok){h:dc}(H:fS Γ h)
include O H
theorem YZ(e:k < Γ.na)(hz:h.ls.length<=900000):∃Y h',h.Do zK [.int k] (.fr (dP h.ls.length Y.length)) h'/\fS Γ h'/\h'.ls=h.ls++Y/\Y.length<=6/\h'.rs=h.rs/\h.k2 h'/\h'.bs=h.bs/\∃a b,h.as[k]? = some a/\a.Do qu [] Y b/\h'.as=h.as.set k b:=by
 obtain⟨a,c,d⟩:=H.asker e;have g:k<h.as.length:=(ak8.mp c).1;obtain⟨Y,b,aq,aE,cX,f⟩:=Tx O d;have i:=cX.len;exact⟨Y,_,Tw c aq (by omega),(H.put g aE).wr cX.ok,rfl,i,rfl,F0 c f,rfl,a,b,c,aq,rfl⟩
theorem YY{k:Nat}{a:bH}(e:h.as[k]? = some a)(aw:a.bT="calm")(g:a.cp=false){d:Option cW}(hd:d=none\/nO [eh d]=pure (.v (.av true)))(hw:Γ.m2 k (a.wi+1) d)(hz:h.ls.length<=900000)(j:h.rs.length<=100000) :
  ∃Y h',h.Do r3 [.int k,eh d] (.fr (dP h.ls.length Y.length)) h'/\fS Γ h'/\h'.ls=h.ls++Y/\Y.length<=6/\h'.rs.length=h.rs.length+1/\h'.as=h.as.set k (a.m9 (eh d)).asks/\h'.bs=h.bs/\a.Do oY [eh d] Y (a.m9 (eh d)).asks:=by
 have b:=H.as k a e;have p:k<h.as.length:=(ak8.mp e).1;obtain⟨ms,fa,fk,c⟩:=b.hl.ex;have i:eh d=.aH\/nO [eh d]=pure (.v (.av true)):=hd.imp (λz=>by rw[z];rfl) id;have aq:=Tu (a:=a) c.mem c.len aw g (GK d) i;obtain⟨dQ,r,s2,s3⟩:=b.op;have l:fi Γ (a.m9 (eh d)) k:=⟨b.me,b.lt,b.bT,b.hl,b.op,⟨d,rfl,λ_=>hw⟩,(λz=>by rw[show(a.m9 (eh d)).bT=a.bT from rfl,aw]at z;exact absurd z s'),(λz=>by rw[show(a.m9 (eh d)).bT=a.bT from rfl,aw]at z;exact absurd z ta),mw⟩;have n:=HF O l ⟨d,rfl,hw⟩;have f:=GQ O b (s:=(a.c_+1,a.me)) c (O.hK s2);have q:=f.len;refine⟨_,_,YX e (GK d) aq (by omega) j,((H.put p n).row (O8 (f_ (by decide +kernel)) cR cR (lx (Pa λx m=>O.fh hw m) (by decide)) cR)).wr f.ok,rfl,q,?_,rfl,rfl,aq⟩;unfold dc.wr dc.row dc.put;dsimp only;rw[alb];rfl
end
def tJ:Option cW->Bool
 |some (.move _)=>true|_=>false
def hV(l:List (Option cW))(n:Nat):Nat:=((l.take n).filter tJ).length
def um(l:List (Option cW))(n:Nat):hV l n<=l.length:=alR (amM _ _) (by rw[ama];omega)
def abg(l:List (Option cW))(h:m<=n):hV l m<=hV l n:=by
 unfold hV;have:l.take m=(l.take n).take m:=by rw[List.take_take,anN h]
 rw[this];exact((List.take_sublist m (l.take n)).filter tJ).length_le
def abh{l:List (Option cW)}(e:l[n]? = some d):hV l (n+1)=hV l n+if tJ d=true then 1 else 0:=by
 unfold hV;rw[aoW,e,List.filter_append,alb];cases q:tJ d<;>simp[q]
def my(w:Nat->List (Option cW))(s:c8):Nat:=hV (w 0) (s.last (0:Nat)).toNat+hV (w 1) (s.last (1:Nat)).toNat+hV (w 2) (s.last (2:Nat)).toNat+hV (w 3) (s.last (3:Nat)).toNat+hV (w 4) (s.last (4:Nat)).toNat+hV (w 5) (s.last (5:Nat)).toNat
def GC:aC.D->Bool
 |.t _=>true|_=>false
def many(w:Nat->List (Option cW)):Nat:=(w 0).length+(w 1).length+(w 2).length+(w 3).length+(w 4).length+(w 5).length
def qk(W:List (List Nat))(na:Nat)(w:Nat->List (Option cW)):fj where
 W:=W
 na:=na
 m2:=λi n d=>∃(k m:Nat),k<6/\i=k/\n=(m:Int)+1/\(w k)[m]? = some d
 E:=λe s=>0<=e/\e.toNat+(if GC s.aY=true then 1 else 0)<=my w s
def aaq{G:aC.D->Prop}{s:c8}(h:fU G W s)(t:c8)(i n:Int)(v:aC.D)(a:t.ds=j7 (Q:=mX) s.ds (i,.t [.int i,.int n,v]))(j:Int):t.last j=if j=i then n else s.last j:=by
 unfold c8.last;rw[a,VS (Q:=mX) _ h.ox.nodup j]
 by_cases c:j=i
 .rw[if_pos c,if_pos c];rfl
 .rw[if_neg c,if_neg c]
def adD{s:c8}(aw:s.aY=.aH)(i:Int)(x:cW):GC (eM s i x).1.aY=true->tJ (some x)=true:=by
 cases x<;>unfold eM<;>dsimp only<;>(try split)<;>(try unfold c8.put)<;>(try dsimp only)<;>(try rw[aw])<;>intro z<;>first|rfl|cases z
def aet{w:Nat->List (Option cW)}{s t:c8}(d:k<6)(a:∀j:Nat,j≠k->t.last (j:Nat)=s.last (j:Nat))(aw:hV (w k) (s.last (k:Nat)).toNat+c<=hV (w k) (t.last (k:Nat)).toNat):my w s+c<=my w t:=by
 have key:∀j:Nat,j≠k->hV (w j) (t.last (j:Nat)).toNat=hV (w j) (s.last (j:Nat)).toNat:=λj b=>by rw[a j b]
 unfold my;have e:k=0\/k=1\/k=2\/k=3\/k=4\/k=5:=by omega
 rcases e with rfl|rfl|rfl|rfl|rfl|rfl
 .rw[key 1 (by decide),key 2 (by decide),key 3 (by decide),key 4 (by decide),key 5 (by decide)];omega
 .rw[key 0 (by decide),key 2 (by decide),key 3 (by decide),key 4 (by decide),key 5 (by decide)];omega
 .rw[key 0 (by decide),key 1 (by decide),key 3 (by decide),key 4 (by decide),key 5 (by decide)];omega
 .rw[key 0 (by decide),key 1 (by decide),key 2 (by decide),key 4 (by decide),key 5 (by decide)];omega
 .rw[key 0 (by decide),key 1 (by decide),key 2 (by decide),key 3 (by decide),key 5 (by decide)];omega
 .rw[key 0 (by decide),key 1 (by decide),key 2 (by decide),key 3 (by decide),key 4 (by decide)];omega
def ts{W:List (List Nat)}{w:Nat->List (Option cW)}(E:W.length<63)(y:na<=6)(hm:many w<=60)(hd:∀(k:Nat)(d:Option cW)(x:cW),d∈w k->d=some x->lJ hD W x):(qk W na w).Ok where
 w:=E
 n:=y
 done:=λ{e s i n d} h a hw=>by
  obtain⟨k,m,A,rfl,rfl,g⟩:=hw
  cases d with
  |none=>exact a|some x=>
   unfold qd;dsimp only
   by_cases c:(gp s.aY)=true/\s.last (k:Nat)<(m:Int)+1
   .rw[if_pos c]
    have q:s.aY=.aH:=by
     rcases h.aY with e|e|⟨⟨xs,e⟩,_⟩
     .exact e
     .rw[e]at c;cases c.1
     .rw[e]at c;cases c.1
    have l:=aaq h { (eM s (k:Nat) x).1 with ds:=j7 (Q:=mX) s.ds ((k:Nat),.t [.int (k:Nat),.int ((m:Int)+1),(eM s (k:Nat) x).2]) } (k:Nat) ((m:Int)+1) _ rfl;have B:=adD q (k:Nat) x;refine⟨a.1,?_⟩;have b:=a.2;rw[q]at b;have b:e.toNat<=my w s:=b;generalize D:({ (eM s (k:Nat) x).1 with ds:=j7 (Q:=mX) s.ds ((k:Nat),.t [.int (k:Nat),.int ((m:Int)+1),(eM s (k:Nat) x).2]) }:c8)=T at l ⊢;have u:T.aY=(eM s (k:Nat) x).1.aY:=by rw[<-D]
    have r:=l (k:Nat);rw[if_pos rfl]at r;have st:=abh g;have mo:=abg (w k) (m:=(s.last (k:Nat)).toNat) (n:=m) (by omega);have e5:(T.last (k:Nat)).toNat=m+1:=by rw[r];omega
    have ps:=aet (w:=w) (s:=s) (t:=T) (c:=if tJ (some x)=true then 1 else 0) A (λj G=>by rw[l (j:Nat),if_neg (by omega)]) (by rw[e5,st];omega);rw[u]
    by_cases z:GC (eM s (k:Nat) x).1.aY=true
    .rw[if_pos z]
     rw[if_pos (B z)]at ps;omega
    .rw[if_neg z]
     omega
   .rw[if_neg c];exact a
 j6:=λ{e s} h a ⟨xs,f⟩=>by
  have b:=a.2;rw[f]at b;have b:e.toNat+1<=my w s:=b;have p:=a.1;refine⟨by omega,?_⟩;show(e+1).toNat+0<=my w s;omega
 hK:=λ{e s} a=>by
  have b:=a.2;have p:=a.1;have F:my w s<=many w:=by
   unfold my many;have H:=um (w 0) (s.last (0:Nat)).toNat;have a1:=um (w 1) (s.last (1:Nat)).toNat;have a2:=um (w 2) (s.last (2:Nat)).toNat;have gy:=um (w 3) (s.last (3:Nat)).toNat;have h1:=um (w 4) (s.last (4:Nat)).toNat;have i4:=um (w 5) (s.last (5:Nat)).toNat;omega
  refine⟨p,?_⟩;have:e.toNat<=my w s:=alR (anh _ _) b;omega
 fh:=λ{i n d x} ⟨k,m,_,_,_,g⟩ f=>hd k d x (alF g) f
def uo(h:l <+: o)(n:Nat):hV l n<=hV o n:=by
 obtain⟨r,rfl⟩:=h;unfold hV;rw[List.take_append,List.filter_append,alb];omega
def VV{w f:Nat->List (Option cW)}(h:∀k,w k <+: f k):(qk W na w).Bx (qk W na f) where
 w:=rfl
 n:=rfl
 wi:=λ{i n d} ⟨k,m,a,b,c,e⟩=>⟨k,m,a,b,c,by
  obtain⟨r,j⟩:=h k;rw[<-j,alz (ak8.mp e).1];exact e⟩
 e:=λ{e s} g=>⟨g.1,alR g.2 (by
  unfold my;have l:=uo (h 0) (s.last (0:Nat)).toNat;have a1:=uo (h 1) (s.last (1:Nat)).toNat;have a2:=uo (h 2) (s.last (2:Nat)).toNat;have gy:=uo (h 3) (s.last (3:Nat)).toNat;have h1:=uo (h 4) (s.last (4:Nat)).toNat;have i4:=uo (h 5) (s.last (5:Nat)).toNat;omega)⟩
def addW(w:Nat->List (Option cW))(k:Nat)(d:Option cW):Nat->List (Option cW):=λj=>if j=k then w k++[d]else w j
def RZ(w:Nat->List (Option cW))(k:Nat)(d:Option cW)(j:Nat):w j <+: addW w k d j:=by
 unfold addW;split
 .rename_i e;subst e;exact anT _ _
 .exact aof _
def RX(a:k<6)(d:Option cW):many (addW w k d)=many w+1:=by
 unfold many addW;have e:k=0\/k=1\/k=2\/k=3\/k=4\/k=5:=by omega
 rcases e with rfl|rfl|rfl|rfl|rfl|rfl<;>simp<;>omega
def RY{w:Nat->List (Option cW)}(a:k<6)(d:Option cW):(qk W na (addW w k d)).m2 k ((w k).length+1) d:=
 ⟨k,(w k).length,a,rfl,rfl,by unfold addW;rw[if_pos rfl];simp⟩
def lT:c8:=⟨[],[],0,.aH,.aH⟩
def TJ:lT.D=Cs:=rfl
def TK(G:aC.D->Prop)(W:List (List Nat)):fU G W lT:=⟨by simp[lT],.nil,by simp[lT],by simp[lT],.nil,by simp[lT],.inl rfl,.inl rfl,by simp[lT]⟩
def acK{a:fj}(c:a.E 0 lT)(b:k < a.na)(dh:hD hall):fi a (r8 k hall) k:=
 ⟨rfl,b,.inl rfl,dh,⟨lT,TK _ _,c,TJ.symm⟩,⟨none,rfl,λz=>absurd rfl z⟩,(λz=>absurd z s'),(λz=>absurd z ta),mw⟩
def VW(W:List (List Nat))(na:Nat)(w:Nat->List (Option cW)):(qk W na w).E 0 lT:=⟨Int.le_refl _,alX _⟩
def acH{c:fj}(i:c.E 0 lT)(dh:hD hall):fS c (pb c.na hall) where
 na:=by unfold pb;simp
 as:=λk a e=>by
  unfold pb at e;dsimp only at e;rw[alr]at e
  by_cases d:k < c.na
  .rw[amv d]at e
   cases e;exact acK i d dh
  .rw[anC (by simpa using d)]at e
   cases e
 nb:=by unfold pb;simp
 bs:=λb h=>by
  have:b=.t []:=by
   have:=List.eq_of_mem_replicate h;exact this
  subst this;exact⟨[],rfl,.nil,λg f=>(nomatch f)⟩
 ls:=λl hl=>nomatch hl
 rs:=λl hl=>nomatch hl
def AR{α:Type}(xs:List α):m_ (xs.map λ_=>.av true)=some (xs.map λ_=>true)/\(xs.map λ_=>true).all id=true:=⟨yx (λ_=>true) xs,alW.mpr λx h=>by obtain⟨_,_,rfl⟩:=alK.mp h;rfl⟩
def R6{α:Type}(xs:List α):oB [.fr (xs.map λ_=>.av true)]=pure (.v (.av true)):=by
 show(match m_ (xs.map λ_=>D.av true)with|some bs=>pure (R.v (.av (bs.all id)))|none=>bad)=_;rw[(AR xs).1];show pure (R.v (.av ((xs.map λ_=>true).all id)))=_;rw[(AR xs).2]
def Z4{k:Nat}(h:k<6):wM [.int (k:Nat)]=pure (.v (.av true)):=by
 have:(k:Int)<=5:=by omega
 simp[wM,IC,pP,this]
def Z5(xs:List D):wM [.t xs]=pure (.v (.av false)):=by kernel_rfl
def Pm(x y:D):zP [.t [x,y]]=pure (.v (.av true)):=by kernel_rfl
def Uv{k:Nat}{ps:List D}(a:1<=k)(b:k<=ps.length)(c:ps.length<=6):EX [.t [.int (k:Nat),.t ps]]=pure (.v (.av true)):=by
 refine h3 rfl ((pz (oP ((xe (z_ (iM (Pm (.int (k:Nat)) (.t ps))))).trans ((xe (z_ (iM (pP k)))).trans rfl)))).trans ((pz (U':=[.v (.t [.int (k:Nat),.t ps]),.v (.int ps.length)]) rfl).trans ?_));have:(1:Int)<=k:=by omega
 have:(k:Int)<=ps.length:=by omega
 have:(ps.length:Int)<=6:=by omega
 unfold It;simp[*]
theorem JF:∀(n m:Nat)(r:a8),m<n->r.deep<=m->r.wf->r5 n [enc r,.int (m:Nat)]=pure (.v (.av true))
 |0,m,r,h,_,_=>absurd h (amx _)| n+1,m,.kp k,_,_,hw=>by rw[yQ];exact h3 rfl (Gh ((tG (iM (Z4 hw))).trans rfl))|n+1,0,.ch k ps,_,hd,_=>absurd hd (Nat.not_succ_le_zero _)|n+1,m+1,.ch k ps,h,hd,hw=>by
  have aq:((m+1:Nat):Int)-1=(m:Nat):=by omega
  have dl:=qb (ps:=ps) (n:=m+1) hd;rw[rz];refine h3 rfl ((pz (oP (iM (Z5 [.int (k:Nat),.t (ps.map enc)])))).trans ((pz (oP ((xe (iM rfl)).trans (z_ (iM (Uv hw.1 (by rw[ala];exact hw.2.1) (by rw[ala];exact hw.2.2.1))))))).trans (jf (m' (R6 ps) (cons_of (yH rfl (by rw[ala];exact gb (by have:=hw.2.2.1;omega)) (rm enc _ ps λq a=>UQ (call_of (rs:=[.v (enc q),.v (.int (((m+1:Nat):Int)-1))]) rfl ?_))) rfl)))));show r5 n [enc q,.int (((m+1:Nat):Int)-1)]=_;rw[aq];exact JF n m q (Nat.lt_of_succ_lt_succ h) (Nat.le_of_lt_succ (dl q a)) (u3.mp hw.2.2.2 q a)
theorem OP:∀(n:Nat)(r:a8),r.deep<n->r.names.length<=12->mq n [enc r]=pure (.fr (r.names.map a'))
 |0,r,h,_=>absurd h (amx _)| n+1,.kp k,_,_=>by rw[yQ];exact Dh rfl (Gh ((tG (iM (pP k))).trans rfl))|n+1,.ch k ps,h,c=>by
  have dl:=qb (ps:=ps) (n:=n) (Nat.lt_of_succ_lt_succ h);have c:(a8.eX ps).length<=12:=c;rw[rz];obtain⟨U',e,s,rfl⟩:=vO (b:=λd U=>wm (mq n) (U.set 2 (.v d))) (ds:=ps.map enc) (U:=[.v (.t [.int (k:Nat),.t (ps.map enc)]),.dO false [],.e]) (λi U=>∃s,U=[.v (.t [.int (k:Nat),.t (ps.map enc)]),.dO false ((a8.eX (ps.take i)).map a'),s]) ⟨_,rfl⟩ (λi d U hd ⟨s,j⟩=>by
   subst j;obtain⟨q,a,rfl⟩:=zX hd;have f:a8.eX (ps.take (i+1))=a8.eX (ps.take i)++q.names:=by rw[take_snoc a,w3];exact congrArg _ (aml _)
   have hl:(a8.eX (ps.take (i+1))).length<=12:=by
    have:=congrArg (λz=>(a8.eX z).length) (List.take_append_drop (i+1) ps);simp only[w3,alb]at this;omega
   rw[f,alb]at hl;have g:=OP n q (dl q (alF a)) (by omega);refine⟨_,.inl (?_:_=pure (fR.bA [.v (.t [.int (k:Nat),.t (ps.map enc)]),.dO false ((a8.eX (ps.take (i+1))).map a'),.v (enc q)])),_,rfl⟩;rw[f,amw];have z:(a8.eX (ps.take i)).length+q.names.length<=ald:=amP (gb (by omega));unfold wm;simp[g,z])
  rw[ala,List.take_length]at e;exact Dh rfl ((pz (oP (iM (GN [.int (k:Nat),.t (ps.map enc)])))).trans ((pz (adO (U:=[.v (.t [.int (k:Nat),.t (ps.map enc)]),.e,.e]))).trans ((pz (Mn (it:=lh (a_ 0 1)) rfl e)).trans rfl)))
def Ql{r:a8}(h:Good r):wR [enc r]=pure (.v (.av true)):=by
 have b:r5 12 [enc r,.int 4]=_:=JF 12 4 r (by decide) h.2.1 h.1;have a:=OP 12 r (by have:=h.2.1;omega) h.2.2;have aE:(r.names.length:Int)<=12:=by have:=h.2.2;omega
 simp only[wR,II];simp[b,a,aE]
def yP:Option Nat->D
 |some o=>a' o|none=>.aH
def Vi(m:Nat)(os:List Nat):wL [a' m,.l (os.map a')]=pure (.v (yP (os.find? (lR m)))):=by
 have step:∀(o:Nat)(s2:Slot),zx [.v (a' m),.b5 (os.map a'),.v (a' o)]=if lR m o=true then pure (.b9 (.v (a' o)))else pure (.bA [.v (a' m),.b5 (os.map a'),.v (a' o)]):=λo s2=>by
  have e:(((m&&& o:Nat):Int)==0)=lR m o:=by
   unfold lR;rw[amB,beq_iff_eq,beq_iff_eq];omega
  have a:m&&& o=0↔lR m o=true:=by unfold lR;rw[beq_iff_eq]
  simp only[zx,hh];simp only[b8,aU,aj,J,UX];simp[R8,a]
 have L:=tn (b:=λd U=>zx (U.set 2 (.v d))) a' (lR m) (λo=>.v (a' o)) (λU=>∃s2,U=[.v (a' m),.b5 (os.map a'),s2]) os [.v (a' m),.b5 (os.map a'),.e] ⟨_,rfl⟩
  (λo U _ ⟨s2,c⟩=>by
   subst c;refine⟨λh=>?_,λh=>⟨[.v (a' m),.b5 (os.map a'),.v (a' o)],?_,_,rfl⟩⟩
   .have:=step o s2
    rw[if_pos h]at this;exact this
   .have:=step o s2
    rw[if_neg (by rw[h];exact alg)]at this;exact this)
 simp only[wL,Ig,Ih];simp only[hh m]at L ⊢
 cases e:os.find? (lR m)with
 |some o=>
  have:=L.1 o e;simp[this,yP]
 |none=>
  obtain⟨U',a,s2,rfl⟩:=L.2 e;simp[a,yP]
def ry(k:a8):Option Nat->D
 |some m=>.t [a' m,a' (((least k).find? (lR m)).getD 0)]|none=>.aH
def adR(g:Good a)(i:Good k):zU [enc a,enc k]=pure (.v (ry k ((least a).find? (kz k)))):=by
 have j:=Ol (r:=a) g.1 (by have:=g.2.1;omega) (by have:=g.2.2;omega);have n:=Ol (r:=k) i.1 (by have:=i.2.1;omega) (by have:=i.2.2;omega);have step:∀(m:Nat)(c:Slot),zz [.v (enc a),.v (enc k),.v (.l ((least k).map a')),.v (a' m),c]=if kz k m=true then pure (.b9 (.v (ry k (some m))))else pure (.bA [.v (enc a),.v (enc k),.v (.l ((least k).map a')),.v (a' m),.v .aH]):=λm c=>by
  have f:=Vi m (least k);unfold kz;simp only[zz]
  cases e:(least k).find? (lR m)with
  |none=>
   rw[e]at f;simp[f,yP]
  |some o=>
   rw[e]at f;have f:wL [a' m,.l ((least k).map a')]=pure (.v (a' o)):=f;simp only[hh o]at f;simp[f,ry,e,hh o]
 have L:=tn (b:=λd U=>zz (U.set 3 (.v d))) a' (kz k) (λm=>.v (ry k (some m))) (λU=>∃s3 c,U=[.v (enc a),.v (enc k),.v (.l ((least k).map a')),s3,c]) (least a) [.v (enc a),.v (enc k),.v (.l ((least k).map a')),.e,.e] ⟨_,_,rfl⟩
  (λm U _ ⟨s3,c,p⟩=>by
   subst p;refine⟨λh=>?_,λh=>⟨[.v (enc a),.v (enc k),.v (.l ((least k).map a')),.v (a' m),.v .aH],?_,_,_,rfl⟩⟩
   .have:=step m c
    rw[if_pos h]at this;exact this
   .have:=step m c
    rw[if_neg (by rw[h];exact alg)]at this;exact this)
 simp only[zU,Jh,Ji,Jj]
 cases e:(least a).find? (kz k)with
 |some m=>
  have:=L.1 m e;simp[j,n,this,ry]
 |none=>
  obtain⟨U',q,s3,c,rfl⟩:=L.2 e;simp[j,n,q,ry]
def Wm{a k:a8}(b:Good a)(c:Good k)(e:(least a).find? (kz k)=none):o6 [.t [enc a,enc k]]=pure (.v (.av true)):=by
 have pt:=adR b c;rw[e]at pt;simp only[o6,IA,IB];simp[Pm,Ql b,Ql c,pt,ry]
def oW(c:Nat):Bool:=decide (97<=c/\c<=122)
def BN:("abcdefghijklmnopqrstuvwxyz":Str).cps.toList=(alD 26).map λk=>97+k:=by decide +kernel
def Zq{c:Nat}(h:oW c=true):uY (ch c) "abcdefghijklmnopqrstuvwxyz"=true:=by
 unfold uY;have h:=of_decide_eq_true h;rw[show ch c=⟨#[c]⟩from rfl,StrLaws.found_one,BN,decide_eq_true_eq];simp only[alK,alZ];exact⟨c-97,by omega,by omega⟩
def Gj{n:Nat}(h:n<=1000):n<=ald:=by rw[alM];omega
def abn{l:List Nat}(f:1<=l.length)(d:l.length<=8)(b:l.all oW=true):wO [.str (bo l)]=pure (.v (.av true)):=by
 have a:gE fL (aj (sb false) (J 0) (a4 (.str "abcdefghijklmnopqrstuvwxyz"))) [.e] (l.map λc=>D.str (ch c))=pure (l.map λ_=>D.av true):=
  rm (λc=>D.str (ch c)) (λ_=>D.av true) l λc a=>by simp[Zq (alW.mp b c a)]
 have h:yG (bo l)=l.map λc=>D.str (ch c):=rfl
 obtain⟨j,g⟩:=AR l;have z:=Gj (n:=l.length) (by omega);have i:l.length<ald:=gb (by omega);have:(1:Int)<=l.length:=by omega
 have:(l.length:Int)<=8:=by omega
 simp only[wO,IE,IF];simp[*,pI]
def O2{n:Int}(b:-1000000000000000000000<n)(a:n<10000000000000000000000000000000000000000):wQ [.int n]=pure (.v (.av true)):=by
 have e:(if n<0 then -n else n)<1000000000000000000000000000000000000000000000000000000000000:=by split<;>omega
 simp only[wQ,IG];simp[pP,e]
def Vf{n:Int}(a:0<=n)(b:n<4):zO [.int n]=pure (.v (.av true)):=by
 simp only[zO,Iz];simp[O2 (show -1000000000000000000000<n by omega) (by omega),a]
def e7(k:Str)(d:D):Prop:=o7 [.str k,d]=pure (.v (.av true))
def jT(a b:Str)(c:Bool):Prop:=oEq (.v (.str a)) (.v (.str b))=pure (.v (.av c))
def yM:jT "name" "name" true/\jT "number" "name" false/\jT "number" "number" true/\jT "fence" "name" false/\jT "fence" "number" false/\jT "fence" "fence" true/\jT "hall" "name" false/\jT "hall" "number" false/\jT "hall" "fence" false:=by
 unfold jT;exact⟨by kernel_rfl,by kernel_rfl,by kernel_rfl,by kernel_rfl,by kernel_rfl,by kernel_rfl,by kernel_rfl,by kernel_rfl,by kernel_rfl⟩
def aeC{a:List Nat}(h:wO [.str (bo a)]=pure (.v (.av true))):e7 "name" (.str (bo a)):=by
 have q:=yM.1;unfold jT at q;simp only[e7,o7,vr];simp[q,h]
def Ap{n:Int}(b:-1000000000000000000000<n)(a:n<10000000000000000000000000000000000000000):e7 "number" (.int n):=by
 obtain⟨_,bB,bY,_⟩:=yM;unfold jT at *;simp only[e7,o7,vr,yr];simp[bB,bY,O2 b a]
def aeA{n:Int}(c:0<=n)(a:n<4):e7 "fence" (.int n):=by
 obtain⟨_,_,_,bB,bY,b,_⟩:=yM;unfold jT at *;simp only[e7,o7,vr,yr,Cg];simp[bB,bY,b,Vf c a]
def aeB{xs:List D}(h:o6 [.t xs]=pure (.v (.av true))):e7 "hall" (.t xs):=by
 obtain⟨_,_,_,_,_,_,bB,bY,a⟩:=yM;unfold jT at *;simp only[e7,o7,vr,yr,Cg,IH];simp[bB,bY,a,h]
theorem JV{el:bt}{U:aG}:∀xs:List (D×D),(∀x∈xs,(el ((U.set 0 (.v x.1)).set 1 (.v x.2)) >>= R.dat)=pure (.av true))->rU fL el U xs=pure (xs.map λ_=>.av true)
 |[],_=>rfl|x::xs,h=>by
  show(pure true >>= _)=_;rw[pure_bind,if_pos rfl,<-bind_assoc,h x alo,pure_bind,JV xs λy a=>h y (alh _ a),pure_bind];rfl
def UL(x:D)(ps:List D):cutD (x::ps) (some 1) none=ps:=UM (x::ps) 1
def ow{w:Str}{s:List Str}{ps:List D}(f:zu.lookup w=some (.t (s.map .str)))(c:ps.length=s.length)(s3:s.length<=3)(b:∀x∈s.zip ps,e7 x.1 x.2):nO [.t (.str w::ps)]=pure (.v (.av true)):=by
 have ne:¬((s.length:Int)+1=0):=by omega
 have h:rU fL (bl o7 (bz (J 0) (J 1))) [.e,.e] ((s.map D.str).zip ps)=pure (((s.map D.str).zip ps).map λ_=>.av true):=JV _ λx a=>by
  rw[List.zip_map_left]at a;obtain⟨y,d,rfl⟩:=alK.mp a;have e:o7 [.str y.1,y.2]=_:=b y d;simp[e]
 obtain⟨i,g⟩:=AR ((s.map D.str).zip ps);have u9:s.length<ald:=gb (by omega);simp only[nO,Iu,Iv,Iw,Iy,EW,Ii];simp[f,c,UL,h,i,g,u9,xW,R.walk,ne]
theorem y1:∀(m:Nat)(r:a8),r.deep<m->∀n,2*r.deep<=n->(enc r).b4 n=true
 |0,r,h,_,_=>absurd h (amx _)| m+1,.kp k,_,n,_=>by cases n<;>rfl
 |m+1,.ch k ps,h,n,o=>by
  simp only[a8.deep]at h o;rw[rz];obtain⟨a,rfl⟩:∃a,n=a+2:=⟨n-2,by omega⟩;have hz:=k_.mpr λp c=>by
   obtain⟨q,b,rfl⟩:=alK.mp c;have:=(qb (ps:=ps) (n:=a8.lW ps+1) (by omega)) q b;exact y1 m q (by omega) a (by omega)
  simp[D.b4,hO,hz]
theorem Q4:∀(m:Nat)(r:a8),r.deep<m->r.wf->(enc r).A2=true
 |0,r,h,_=>absurd h (amx _)| m+1,.kp k,_,_=>by rfl|m+1,.ch k ps,h,hw=>by
  simp only[a8.deep]at h;rw[rz];have hl:=hw.2.2.1;have hz:=u4.mpr λp b=>by
   obtain⟨q,a,rfl⟩:=alK.mp b;have:=(qb (ps:=ps) (n:=a8.lW ps+1) (by omega)) q a;exact Q4 m q (by omega) (u3.mp hw.2.2.2 q a)
  show(decide (2<=1000)&&(true&&((decide ((ps.map enc).length<=1000)&&mG (ps.map enc))&&true)))=true;rw[hz,ala,decide_eq_true (show ps.length<=1000 by omega)];rfl
def L5{r:a8}(h:Good r):aC.Ok 8 (enc r):=⟨y1 12 r (by have:=h.2.1;omega) 8 (by have:=h.2.1;omega),Q4 12 r (by have:=h.2.1;omega) h.1⟩
theorem OM:∀(m:Nat)(r:a8),r.deep<m->r.wf->∃j∈r.names,j<6
 |0,_,h,_=>absurd h (amx _)|m+1,.kp k,_,hw=>⟨k,alB.mpr rfl,hw⟩
 |m+1,.ch k [],_,hw=>by
  have c:=hw.1;have d:k<=0:=hw.2.1;omega
 |m+1,.ch k (p::ps),h,hw=>by
  simp only[a8.deep]at h;have dl:=qb (ps:=p::ps) (n:=a8.lW (p::ps)+1) (by omega) p alo;obtain⟨j,a,b⟩:=OM m p (by omega) (u3.mp hw.2.2.2 p alo);exact⟨j,al6.mpr (.inl a),b⟩
def L6(r:a8):b7 (enc r)=.v (enc r):=by cases r<;>rfl
def MB(b:Good a)(c:Good k):hD (jy a k) where
 ex:=⟨_,λm=>a.fills (cE m),λm=>k.fills (cE m),aa7 b c,(by
   exact(amM (λj=>(a.names++k.names).contains j) (alD 6))),(λj d=>alZ.mp (amk.mp d).1),(by
   obtain⟨j,d,e⟩:=OM 12 a (by have:=b.2.1;omega) b.1;intro z;exact(List.filter_eq_nil_iff.mp z j (alZ.mpr e)) (by simpa using amK d)),enc a,enc k,rfl,L6 a,L6 k,
   (λm=>yV m 12 a (by have:=b.2.1;omega) b.1),λm=>yV m 12 k (by have:=c.2.1;omega) c.1⟩
 no:=by
  have ga:=y1 12 a (by have:=b.2.1;omega) 63 (by have:=b.2.1;omega);have nk:=y1 12 k (by have:=c.2.1;omega) 63 (by have:=c.2.1;omega);unfold jy;rw[rv (x:=.v (.t [enc a,enc k])) (k_.mpr (by simp only[alT];exact⟨ga,nk,λ_ h=>nomatch h⟩)) (by decide +kernel)];rfl
 ok:=j5 (L5 b) (L5 c)
def mS:cW->Prop
 |.put a n=>e7 "name" (.str (bo a))/\e7 "number" (.int n)|.add a n=>e7 "name" (.str (bo a))/\e7 "number" (.int n)|.swap a o n=>e7 "name" (.str (bo a))/\e7 "number" (.int o)/\e7 "number" (.int n)|.take g=>e7 "fence" (.int g)|.renew g=>e7 "fence" (.int g)|.free g=>e7 "fence" (.int g)|.sure g a n=>e7 "fence" (.int g)/\e7 "name" (.str (bo a))/\e7 "number" (.int n)|.move h=>e7 "hall" h|.fin=>True
def ZD{d:cW}(h:mS d):nO [d.D]=pure (.v (.av true)):=by
 cases d with
 |put a n=>exact ow (s:=["name","number"]) (by kernel_rfl) rfl (by decide) (by simpa[mS]using h)| add a n=>exact ow (s:=["name","number"]) (by kernel_rfl) rfl (by decide) (by simpa[mS]using h)| swap a o n=>exact ow (s:=["name","number","number"]) (by kernel_rfl) rfl (by decide) (by simpa[mS]using h)| take g=>exact ow (s:=["fence"]) (by kernel_rfl) rfl (by decide) (by simpa[mS]using h)| renew g=>exact ow (s:=["fence"]) (by kernel_rfl) rfl (by decide) (by simpa[mS]using h)| free g=>exact ow (s:=["fence"]) (by kernel_rfl) rfl (by decide) (by simpa[mS]using h)| sure g a n=>exact ow (s:=["fence","name","number"]) (by kernel_rfl) rfl (by decide) (by simpa[mS]using h)| move z=>exact ow (s:=["hall"]) (by kernel_rfl) rfl (by decide) (by simpa[mS]using h)| fin=>exact ow (s:=[]) (by kernel_rfl) rfl (by decide) (by simp)
def kJ(s n:Nat):List Nat:=(alD n).map λk=>(s+k) % 6
def pv(s n:Nat):List D:=(kJ s n).map a'
def n3(q s n:Nat):a8:=.ch q ((kJ s n).map .kp)
theorem JT(p:Nat->Bool):∀a:List Nat,a8.cnt p (a.map .kp)=(a.filter p).length
 |[]=>rfl|k::a=>by
  show(if p k then 1 else 0)+a8.cnt p (a.map .kp)=_;rw[JT p a,aog];cases p k<;>simp<;>omega
theorem ON:∀a:List Nat,a8.eX (a.map .kp)=a
 |[]=>rfl| k::a=>by show[k]++a8.eX (a.map .kp)=_;rw[ON a];rfl
theorem LN:∀a:List Nat,a8.lW (a.map .kp)=0
 |[]=>rfl| k::a=>by show max 0 (a8.lW (a.map .kp))=0;rw[LN a];rfl
def AO{q s n:Nat}(b:1<=q)(d:q<=n)(e:n<=6):Good (n3 q s n):=by
 have hl:((kJ s n).map a8.kp).length=n:=by simp[kJ]
 refine⟨⟨b,by omega,by omega,u3.mpr λr a=>?_⟩,?_,?_⟩
 .obtain⟨k,c,rfl⟩:=alK.mp a
  obtain⟨j,_,rfl⟩:=alK.mp c;exact Nat.mod_lt _ (by decide)
 .show a8.lW _+1<=4;rw[LN];omega
 .show(a8.eX _).length<=12
  rw[ON];simp[kJ];omega
def QK(q s n:Nat):enc (n3 q s n)=.t [.int (q:Nat),.t (pv s n)]:=by
 unfold n3 pv;rw[rz,amZ];rfl
theorem Mi(p:Nat->Bool):∀a:List Nat,(a.filter p).length+(a.filter λk=>!p k).length=a.length
 |[]=>rfl|k::a=>by
  have:=Mi p a;rw[aog,aog,alP];cases p k<;>simp<;>omega
def agp(p:Nat->Bool)(q s n:Nat):(n3 q s n).fills p=decide (q<=((kJ s n).filter p).length):=by
 show decide (q<=a8.cnt p _)=_;rw[JT]
def Wn{q r s n:Nat}(h:1<=q)(i:q<=n)(l:1<=r)(p:r<=n)(c:n<=6)(t:n<q+r):(least (n3 q s n)).find? (kz (n3 r s n))=none:=by
 have d:(kJ s n).length=n:=by simp[kJ]
 cases C:(least (n3 q s n)).find? (kz (n3 r s n))with
 |none=>rfl|some m=>
  have f:=anM C;obtain⟨a,mf,_⟩:=zC _ (AO h i c).1 (amN C);obtain⟨o,lX⟩:=ao6.mp f;obtain⟨b,of,_⟩:=zC _ (AO l p c).1 (amN lX);have g:=anM lX;rw[agp,decide_eq_true_eq]at mf of;have sp:=Mi (cE m) (kJ s n);have le:((kJ s n).filter (cE o)).length<=((kJ s n).filter λk=>!cE m k).length:=by
   rw[<-aoD,<-aoD];refine List.countP_mono_left λk _ j=>?_
   cases e:cE m k with
   |false=>rfl|true=>exact(((R' a b).mp g) k e j).elim
  omega
structure BA(a k:a8):Prop where
 ga:Good a
 nk:Good k
 is:o6 [jy a k]=pure (.v (.av true))
def xd(b:Good a)(c:Good k)(h:(least a).find? (kz k)=none):BA a k:=⟨b,c,Wm b c h⟩
def Qj(n d:Int)(m:Nat)(hd:pW n d):gE fL (aj oMod (aj eR (aj eY (J 1) (a4 (.int d))) (J 0)) (aL 6)) [.e,.v (.int n)] (dP 0 m)=pure (pv (n / d % 6).toNat m):=by
 rw[F'];have e:pv (n / d % 6).toNat m=(alD m).map λk=>a' (((n / d % 6).toNat+k) % 6):=by
  unfold pv kJ;rw[amZ];rfl
 rw[e];refine rm a' (λk=>a' (((n / d % 6).toNat+k) % 6)) (alD m) λk _=>?_
 have:(n / d+(k:Nat)) % 6=(((((n / d % 6).toNat+k) % 6:Nat)):Int):=by
  omega
 rw[hh,hh];simp[this,hd]
def akF(s m:Nat):(pv s m).length=m:=by simp[pv,kJ]
def aau(c:Int):∃a k,E2 [.int c]=pure (.v (jy a k))/\BA a k:=by
 obtain⟨m,n,w,g⟩:∃m:Nat,1+c % 4+c / 4 % 2*(c / 8 % 3)=(m:Nat)/\1<=m/\m<=6:=by
  have d:c / 4 % 2=0\/c / 4 % 2=1:=by omega
  rcases d with d|d<;>rw[d]
  .exact⟨(1+c % 4).toNat,by omega,by omega,by omega⟩
  .exact⟨(1+c % 4+c / 8 % 3).toNat,by omega,by omega,by omega⟩
 have mp:(0:Int)<(m:Int):=by omega
 obtain⟨q,eq,bB,bY⟩:∃q:Nat,1+c / 144 % (m:Int)=(q:Nat)/\1<=q/\q<=m:=⟨(1+c / 144 % (m:Int)).toNat,by have:=mod_lt (a:=c / 144) mp;omega⟩;have h:(0:Int)<(q:Int):=by omega
 obtain⟨r,t,i,j,p⟩:∃r:Nat,(m:Int)+1-(q:Int)+c / 864 % (q:Int)=(r:Nat)/\1<=r/\r<=m/\m<q+r:=⟨((m:Int)+1-(q:Int)+c / 864 % (q:Int)).toNat,by have:=mod_lt (a:=c / 864) h;omega⟩;have l:=Qj c 24 m (CU (by decide) (by decide));generalize aw:(c / 24 % 6).toNat=s at l;refine⟨n3 q s m,n3 r s m,?_,xd (AO bB bY g) (AO i j g) (Wn bB bY i j g p)⟩;unfold jy;rw[QK,QK];have u:-4611686018427387904<=(m:Int)/\(m:Int)<4611686018427387904:=by omega
 have f:(dP 0 m).length<ald:=by rw[nY,alM];omega
 have b:iC (c / 4 % 2) (c / 8 % 3):=E_ (by omega) (by omega);generalize pv s m=row at *;refine h3 rfl (cT (U':=[.v (.int c),.v (.int m),.e,.e]) (j_ ?_) (cT (j_ (m' ?_ (cons_of (yH ?_ f l) rfl))) (cT (j_ ?_) (jf (su rfl (su ?_ rfl))))))
 .rw[<-n];exact fq rfl rfl (fq (abd b) rfl rfl)
 .simp
 .simp[u]
 .rw[<-eq];exact fq rfl rfl (fq (ui mp) rfl rfl)
 .rw[<-t];exact fq rfl rfl (fq (ui h) rfl rfl)
def fG(s k:Nat):Nat:=(s+k) % 6
def uL(s:Nat):a8:=.ch 2 [.ch 2 [.kp (fG s 0),.kp (fG s 1),.kp (fG s 2)],.ch 2 [.kp (fG s 2),.kp (fG s 3),.kp (fG s 4)],.kp (fG s 0)]
def uM(s:Nat):a8:=.ch 2 [.kp (fG s 0),.kp (fG s 0),.kp (fG s 1)]
def uN(s:Nat):a8:=.ch 1 [.ch 2 [.kp (fG s 0),.kp (fG s 1)],.ch 2 [.kp (fG s 2),.kp (fG s 3)]]
def uO(s:Nat):a8:=.ch 2 [.ch 1 [.kp (fG s 0),.kp (fG s 1)],.ch 1 [.kp (fG s 2),.kp (fG s 3)]]
def aah(s k:Nat):fG s k<6:=Nat.mod_lt _ (by decide)
def ae5(s:Nat):Good (uL s)/\Good (uM s)/\Good (uN s)/\Good (uO s):=by
 unfold uL uM uN uO Good;simp[a8.wf,a8.n4,a8.deep,a8.lW,a8.names,a8.eX,(aah s)]
def ae6:∀s,s<6->((least (uL s)).find? (kz (uL s)))=none/\((least (uM s)).find? (kz (uM s)))=none/\((least (uN s)).find? (kz (uO s)))=none/\((least (uO s)).find? (kz (uN s)))=none:=by
 decide +kernel
def akR(s:Nat):pv s 5=[a' (fG s 0),a' (fG s 1),a' (fG s 2),a' (fG s 3),a' (fG s 4)]:=rfl
def Oi(c:Int):∃a k,wV [.int c]=pure (.v (jy a k))/\BA a k:=by
 by_cases j:c % 5<3
 .obtain⟨a,k,e,o⟩:=aau (c / 5)
  exact⟨a,k,h3 rfl (st (fY j) (jf (call_of rfl e))),o⟩
 .have u:=Qj c 5 5 (CU (by decide) (by decide))
  have i:(dP 0 5).length<ald:=by rw[nY,alM];omega
  have t:(c / 5 % 6).toNat<6:=by omega
  generalize(c / 5 % 6).toNat=s at *;obtain⟨m,n,p,q⟩:=ae5 s;obtain⟨ax,r,g,h⟩:=ae6 s t;have pre:∀{d},IU [.v (.int c),.v (.l [a' (fG s 0),a' (fG s 1),a' (fG s 2),a' (fG s 3),a' (fG s 4)]),.e,.e,.e]=pure (.b9 (.v d))->wV [.int c]=pure (.v d):=λe=>h3 rfl (fJ (hM j) (cT (afk (yH rfl i u) rfl) e))
  by_cases f:c % 5=4
  .by_cases b:c / 30 % 3=0
   .exact⟨uM s,uM s,pre (st (fY f) (cT rfl (cT (tG (fY b)) rfl))),xd n n r⟩
   .exact⟨uL s,uL s,pre (st (fY f) (cT rfl (cT (oP (hM b)) rfl))),xd m m ax⟩
  .by_cases b:c / 30 % 2=0
   .exact⟨uN s,uO s,pre (fJ (hM f) (cT rfl (cT rfl (st (fY b) rfl)))),xd p q g⟩
   .exact⟨uO s,uN s,pre (fJ (hM f) (cT rfl (cT rfl (fJ (hM b) rfl)))),xd q p h⟩
end dW
namespace dW
open PySem PySem.Spec aA aC
@[simp] theorem akf:vz c b U=sC c b pM U:=rfl
theorem Q3{c:aG->M Bool}{b:aM}(I:aG->Prop)(a:aG->Nat)(f:aG->Prop)(step:∀U,I U->(c U=pure false/\f U)\/(c U=pure true/\∃U',(b U=pure (.bA U')\/b U=pure (.cz U'))/\I U'/\a U' < a U)) :
  ∀(n:Nat)(U:aG),I U->a U<n->∃U',sC c b n U=pure (.bA U')/\f U'
 |0,U,_,h=>absurd h (amx _)|n+1,U,jx,h=>by
  rcases step U jx with⟨e,d⟩|⟨e,C,aq,o,hm⟩
  .refine⟨U,?_,d⟩
   show(c U >>= _)=_;rw[e];rfl
  .obtain⟨g,aE,d⟩:=Q3 I a f step n C o (by omega)
   refine⟨g,?_,d⟩;show(c U >>= _)=_;rw[e,pure_bind,if_pos rfl];rcases aq with aq|aq<;>rw[aq,pure_bind]<;>exact aE
def QY(h:n<16777216):n<pM:=by unfold pM;omega
def J1{α:Type}{xs:List α}{lo hi:Option Int}{v:α}(h:v∈cutD xs lo hi):v∈xs:=List.mem_of_mem_drop (List.mem_of_mem_take h)
end dW
namespace dW
open PySem PySem.Spec aA aC i2 gh jj
structure gi(l:List Nat):Prop where
 p1:1<=l.length
 xf:l.length<=8
 al:l.all oW=true
def gi.ok(h:gi l):alx (bo l)=true:=afJ.mpr λc a=>by
 have:=alW.mp h.al c a;simp[oW]at this;omega
def gi.fh(h:gi l):lP l:=⟨h.ok,h.p1,h.xf⟩
def gi.nb(h:gi l):e7 "name" (.str (bo l)):=aeC (abn h.p1 h.xf h.al)
def Hx{i:Int}(b:0<=i)(h:i<26):∃c,c0 (.v (.str "abcdefghijklmnopqrstuvwxyz")) (.v (.int i))=pure (.v (.str (bo [c])))/\oW c=true:=by
 obtain⟨c,e⟩:=BX (xs:=("abcdefghijklmnopqrstuvwxyz":Str).cps.toList) b (by rw[BN];simpa using h);refine⟨c,?_,?_⟩
 .show(match d4 ("abcdefghijklmnopqrstuvwxyz":Str).cps.toList i with
   |some c=>if("abcdefghijklmnopqrstuvwxyz":Str).length<=ald then(pure (R.v (.str ⟨#[c]⟩)):M R)else bad| none=>bad)=_
  rw[e];dsimp only;rfl
 .have:=HH e
  rw[BN]at this;obtain⟨k,a,rfl⟩:=alK.mp this;have:=alZ.mp a;simp[oW];omega
def agG{a:List Nat}(d:a.length<=8){i:Int}(b:0<=i)(h:i<(a.length:Int)):∃c,c0 (.v (.str (bo a))) (.v (.int i))=pure (.v (.str (bo [c]))):=by
 obtain⟨c,e⟩:=BX (xs:=(bo a).cps.toList) b h;refine⟨c,?_⟩;show(match d4 (bo a).cps.toList i with
  |some c=>if(bo a).length<=ald then(pure (R.v (.str ⟨#[c]⟩)):M R)else bad| none=>bad)=_
 rw[e];dsimp only;rw[if_pos (Gj (by rw[pI];omega))];rfl
def UY:("":Str)=bo []:=by decide +kernel
def ahT:("x":Str)=bo [120]:=by decide +kernel
def aav(c:Int):∃a,E3 [.int c]=pure (.v (.str (bo a)))/\gi a:=by
 obtain⟨z,hz,g⟩:∃z:Nat,1+c % 8=(z:Nat)/\1<=z/\z<=8:=⟨(1+c % 8).toNat,by omega,by omega,by omega⟩;obtain⟨U',e,c',a,rfl,d⟩:=Q3 (b:=Oa) (c:=aU (aj oLt (cF nh (aR (J 2))) (J 1)))
  (λU=>∃(c':Int)(a:List Nat),U=[.v (.int c'),.v (.int (z:Nat)),.v (.str (bo a))]/\a.all oW=true/\a.length<=z)
  (λU=>match U[(2:Nat)]? with|some (.v (.str s))=>8-s.length|_=>0)
  (λU=>∃(c':Int)(a:List Nat),U=[.v (.int c'),.v (.int (z:Nat)),.v (.str (bo a))]/\gi a)
  (λU ⟨c',a,h,d,hl⟩=>by
   subst h
   by_cases i:a.length<z
   .refine .inr ⟨(iM (fq rfl (m' (wo (by omega)) rfl) rfl)).trans (fY (by omega)),?_⟩
    have f:=mod_lt (a:=c' / 8) (b:=26) (by decide);obtain⟨ch,aq,j⟩:=Hx f.1 f.2;refine⟨[.v (.int (c' / 3)),.v (.int (z:Nat)),.v (.str (bo (a++[ch])))],.inl ?_,⟨_,_,rfl,by rw[aov,d];simpa using j,by rw[alb];exact i⟩,?_⟩
    .exact cT (j_ (fq (yE (by simp;omega)) rfl (fq aq rfl rfl))) rfl
    .show 8-(bo (a++[ch])).length<8-(bo a).length
     rw[pI,pI,alb,amj];omega
   .exact .inl ⟨(iM (fq rfl (m' (wo (by omega)) rfl) rfl)).trans (hM (by omega)),c',a,rfl,by omega,by omega,d⟩) pM [.v (.int c),.v (.int (z:Nat)),.v (.str (bo []))] ⟨_,_,rfl,rfl,alX _⟩ (QY (by show 8-(bo []).length<16777216;omega))
 refine⟨a,?_,d⟩;refine h3 rfl (cT (j_ (by rw[<-hz];rfl)) (cT (j_ (congrArg (λz=>pure (R.v (.str z))) UY)) (cT e rfl)))
def BP{a:List Nat}(h:a.all oW=true)(lo hi:Option Int):(cutD a lo hi).all oW=true:=alW.mpr λx b=>alW.mp h x (J1 b)
def aaw(c:Int):∃a b d,zQ [.int c]=pure (.fr [.str (bo a),.str (bo b),.str (bo d)])/\gi a/\gi b/\gi d:=by
 obtain⟨a,w,g⟩:=aav c;have xf:=g.xf;have r:(0:Int)<(a.length:Int):=by have:=g.p1;omega
 have B:a.length<=ald:=Gj (by omega);obtain⟨t,A,E⟩:∃t:Nat,c / 5 % (a.length:Int)=(t:Nat)/\t<a.length:=⟨(c / 5 % (a.length:Int)).toNat,by have:=mod_lt (a:=c / 5) r;omega⟩;obtain⟨x,ex⟩:=agG xf (i:=(t:Int)) (by omega) (by omega);generalize q:(apb "abcdefghijklmnopqrstuvwxyz" (bo [x])+1+c / 7 % 25) % 26=f at *;have p:0<=f/\f<26:=by subst q;exact mod_lt (by decide)
 obtain⟨o,lX,u⟩:=Hx p.1 p.2;have bg:cutD a none (some (t:Int))=a.take t:=UN _ _ (by omega);have n:cutD a (some ((t:Int)+1)) none=a.drop (t+1):=UO a (t+1) (by omega);have e':cutD a none (some 7)=a.take 7:=CK a 7;have k:(a.take t).length+[o].length<=1000:=by simp;omega
 have m:(a.take t).length+[o].length+(a.drop (t+1)).length<=1000:=by simp;omega
 have y:gi (a.take t++[o]++a.drop (t+1)):=⟨by simp;omega,by simp;omega,by
  rw[aov,aov,<-bg,<-n,BP g.al,BP g.al];simpa using u⟩
 generalize a.take t=T at *;generalize a.drop (t+1)=σ at *;have bc:∀{U:aG}{i:Nat}{lo hi:kZ}{l h:Option Int},J i U=pure (.v (.str (bo a)))->lo U=pure l->hi U=pure h->s9 (J i) lo hi U=pure (.v (.str (bo (cutD a l h)))):=λaq aE cX=>by
  show(J _ _ >>= _)=_;rw[aq];rw[aE];rw[cX];simp[pI,B,UJ]
 have pre:∀{d},gi d->IV [.v (.int c),.v (.str "abcdefghijklmnopqrstuvwxyz"),.v (.str (bo a)),.v (.int t),.v (.str (bo [o])),.v (.str (bo (a++[120])))]=IW [.v (.int c),.v (.str "abcdefghijklmnopqrstuvwxyz"),.v (.str (bo a)),.v (.int t),.v (.str (bo [o])),.v (.str (bo d))]->
   ∃a b d,zQ [.int c]=pure (.fr [.str (bo a),.str (bo b),.str (bo d)])/\gi a/\gi b/\gi d:=λ{d} fI e=>by
  refine⟨a,T++[o]++σ,d,Dh rfl (cT rfl (cT (j_ (call_of rfl w)) (cT (j_ (fq (ui r) rfl (m' (wo (by omega)) rfl))) ?_))),g,y,fI⟩;rw[A];refine cT (j_ (fq lX rfl ?_)) (cT (j_ (fq (yE (by simp;omega)) rfl (congrArg (λz=>pure (R.v (.str z))) ahT))) (e.trans ?_))
  .rw[<-q]
   refine fq (ui (by decide)) (fq rfl (fq (x:=.v (.int (apb "abcdefghijklmnopqrstuvwxyz" (bo [x])))) rfl ?_ rfl) rfl) rfl;show(dj (aj c0 (J 2) (J 3)) b' _ >>= _)=_;rw[cons_of (fq ex rfl rfl) rfl];rfl
  .have s:=bc (U:=[.v (.int c),.v (.str "abcdefghijklmnopqrstuvwxyz"),.v (.str (bo a)),.v (.int t),.v (.str (bo [o])),.v (.str (bo d))]) (i:=2) (lo:=jQ) (hi:=kq (J 3)) rfl rfl rfl
   have s2:=bc (U:=[.v (.int c),.v (.str "abcdefghijklmnopqrstuvwxyz"),.v (.str (bo a)),.v (.int t),.v (.str (bo [o])),.v (.str (bo d))]) (i:=2) (lo:=kq (aj eR (J 3) (aL 1))) (hi:=jQ) rfl rfl rfl;rw[bg]at s;rw[n]at s2;exact aeW (Ow (cons_of rfl (cons_of (fq (yE (by rw[alb];exact m)) (fq (yE k) s rfl) s2) (cons_of rfl rfl))) rfl (alH rfl))
 by_cases D:a.length=8
 .have j:(a.length:Int)=8:=by omega
  have s3:=bc (U:=[.v (.int c),.v (.str "abcdefghijklmnopqrstuvwxyz"),.v (.str (bo a)),.v (.int t),.v (.str (bo [o])),.v (.str (bo (a++[120])))]) (i:=2) (lo:=jQ) (hi:=kq (aL 7)) rfl rfl rfl;rw[e']at s3;exact pre ⟨by rw[ama];omega,by rw[ama];omega,by rw[<-e'];exact BP g.al _ _⟩ (cT ((tG ((iM (fq C4 (m' (wo (by omega)) rfl) rfl)).trans (fY j))).trans (j_ s3)) rfl)
 .have j:¬((a.length:Int)=8):=by omega
  exact pre ⟨by simp,by simp;omega,by rw[aov,g.al];rfl⟩ (cT (oP ((iM (fq C4 (m' (wo (by omega)) rfl) rfl)).trans (hM j))) rfl)
def lO(W:List (List Nat))(x:Option cW):Prop:=∀y,x=some y->lJ hD W y/\mS y
def LM(hw:gi w)(hm:w∈W)(N:List D)(d c n:Int)(i:e7 "number" (.int n)) :
  ∃x,Ck [.b5 N,.v (.int d),.v (.int c),.v (.str (bo w)),.v (.int n),.v (.int (d / 96 % 4)),.v (.int (d % 16))]=pure (.b9 (.v (eh x)))/\lO W x:=by
 have s:=mod_lt (a:=d / 96) (b:=4) (by decide);have j:=aeA s.1 s.2;generalize d / 96 % 4=g at *;generalize d % 16=y at *;have nb:=hw.nb;have fh:=hw.fh
 by_cases m:y<5
 .exact⟨some (.add w n),st (fY m) rfl,λy e=>by cases e;exact⟨⟨fh,hm⟩,nb,i⟩⟩
 refine tl (fJ (hM m) rfl) ?_
 by_cases p:y<7
 .exact⟨some (.put w n),st (fY p) rfl,λy e=>by cases e;exact⟨⟨fh,hm⟩,nb,i⟩⟩
 refine tl (fJ (hM p) rfl) ?_
 by_cases u:y=7
 .exact⟨some (.swap w (d / 96 % 3) n),st (fY u) rfl,λy e=>by cases e;exact⟨⟨fh,hm⟩,nb,Ap (by omega) (by omega),i⟩⟩
 refine tl (fJ (hM u) rfl) ?_
 by_cases z:y=8
 .exact⟨some (.take g),st (fY z) rfl,λy e=>by cases e;exact⟨trivial,j⟩⟩
 refine tl (fJ (hM z) rfl) ?_
 by_cases r:y=9
 .obtain⟨v,A,x,ex,o⟩:=pick (λv=>∃x,v=eh x/\lO W x) [.t [.str "renew",.int g],.t [.str "free",.int g],.t [.str "sure",.int g,.str (bo w),.int n]] (d / 400) 3 rfl (by decide) (by
   simp only[alT];exact⟨⟨some (.renew g),rfl,λy e=>by cases e;exact⟨trivial,j⟩⟩,⟨some (.free g),rfl,λy e=>by cases e;exact⟨trivial,j⟩⟩,⟨some (.sure g w n),rfl,λy e=>by cases e;exact⟨⟨fh,hm⟩,j,nb,i⟩⟩,λ_ h=>nomatch h⟩)
  subst ex;exact⟨x,st (fY r) (jf (fq (ZL A) rfl rfl)),o⟩
 refine tl (fJ (hM r) rfl) ?_
 by_cases f:y=10\/y=11
 .obtain⟨a,k,e,l⟩:=Oi (d / 96)
  refine⟨some (.move (jy a k)),st ?_ (jf (su rfl (call_of rfl e))),λy e=>by cases e;exact⟨⟨⟨_,rfl⟩,MB l.ga l.nk⟩,aeB l.is⟩⟩;rcases f with f|f
  .exact adm (fY f)
  .exact(xe (hM (by omega))).trans (fY f)
 refine tl (fJ ((xe (hM λe=>f (.inl e))).trans (hM λe=>f (.inr e))) rfl) ?_
 by_cases q:y=12
 .by_cases bY:d / 96 % 3=0
  .exact⟨some .fin,st ((HA (fY q)).trans (fY bY)) rfl,λy e=>by cases e;exact⟨trivial,trivial⟩⟩
  .exact⟨none,fJ ((HA (fY q)).trans (hM bY)) rfl,λy e=>by cases e⟩
 .exact⟨none,fJ (R7 (hM q)) rfl,λy e=>by cases e⟩
def Oh(j:gi a)(i:gi b)(hd:gi d)(f c:Int):∃x,wU [.l [.str (bo a),.str (bo b),.str (bo d)],.int f,.int c]=pure (.v (eh x))/\lO [a,b,d] x:=by
 obtain⟨v,k,w,rfl,hw,hm⟩:=pick (λv=>∃w,v=.str (bo w)/\gi w/\w∈[a,b,d]) [.str (bo a),.str (bo b),.str (bo d)] (f / 16) 3 rfl (by decide) (by simp only[alT];exact⟨⟨a,rfl,j,by simp⟩,⟨b,rfl,i,by simp⟩,⟨d,rfl,hd,by simp⟩,λ_ h=>nomatch h⟩);generalize[D.str (bo a),.str (bo b),.str (bo d)]=N at *;have pre:∀{n:Int}{x},b8 (aU (aj oEq (aj oMod (aj eY (J 1) (aL 48)) (aL 2)) (aL 1))) (ck 4 (aj oMod (aj eY (J 1) (aL 96)) (aL 3))) bQ [.b5 N,.v (.int f),.v (.int c),.v (.str (bo w)),.v (.int (c % 10000000000000000000000000000000000000000-100000000000000000000)),.e,.e]=pure (.bA [.b5 N,.v (.int f),.v (.int c),.v (.str (bo w)),.v (.int n),.e,.e])->Ck [.b5 N,.v (.int f),.v (.int c),.v (.str (bo w)),.v (.int n),.v (.int (f / 96 % 4)),.v (.int (f % 16))]=pure (.b9 (.v (eh x)))->wU [.l N,.int f,.int c]=pure (.v (eh x)):=λaq e=>
  h3 rfl (cT (j_ (fq (by show(match d4 N (f / 16 % 3)with|some d=>pure (R.v d)|none=>bad)=_;rw[k]) rfl rfl)) (cT (by with_unfolding_all rfl) (cT aq (cT rfl (cT rfl e)))))
 by_cases g:f / 48 % 2=1
 .obtain⟨x,e,o⟩:=LM hw hm N f c (f / 96 % 3) (Ap (by omega) (by omega))
  exact⟨x,pre ((tG (fY g)).trans rfl) e,o⟩
 .obtain⟨x,e,o⟩:=LM hw hm N f c (c % 10000000000000000000000000000000000000000-100000000000000000000) (Ap (by omega) (by omega))
  exact⟨x,pre (oP (hM g)) e,o⟩
end dW
namespace dW
open PySem PySem.Spec aA aC
def CC(ns:List Int)(k:Nat):o8 [.l (ns.map D.int),.int (k:Nat)]=pure (.v (.int (ns.getD k 0))):=by
 simp only[o8,IQ,IS]
 by_cases h:k<ns.length
 .simp[h,Se h]
 .simp[h]
def vq:∀(n:Nat)(d:D),Ok n d->hU (n+1) [d,d]=pure (.v (.av true)):=by
 have seq:∀(n:Nat)(xs:List D)(s:Slot),(∀x∈xs,hU n [x,x]=pure (.v (.av true)))->xs.length<=1000->(s=.v (.t xs)\/s=.b5 xs)->Cj (hU n) [s,s,.e]=pure (.b9 (.v (.av true))):=λn xs s h hl aw=>by
  have g:∀j,j<2->∀s2,∃r,J j [s,s,s2]=pure r/\fF [r]=pure (.v (.int (xs.length:Nat)))/\∀(i:Nat)(hi:i<xs.length),c0 r (.v (.int i))=pure (.v xs[i]):=λj q s2=>by
   have u:xs.length<=ald:=by rw[alM];omega
   rcases aw with rfl|rfl
   .exact⟨.v (.t xs),by match j,q with|0,_=>rfl|1,_=>rfl,by simp[u],λi hi=>by simp[BW hi]⟩
   .exact⟨.b5 xs,by match j,q with|0,_=>rfl|1,_=>rfl,by simp[u],λi hi=>by simp[BW hi]⟩
  obtain⟨U',e,s2,rfl⟩:=vO (b:=λx U=>Ey (hU n) (U.set 2 (.v x))) (ds:=dP 0 xs.length) (U:=[s,s,.e])
   (λi U=>∃s2,U=[s,s,s2]) ⟨_,rfl⟩ (λi x U c ⟨s2,E⟩=>by
    subst E;obtain⟨hi,rfl⟩:=xl c;obtain⟨y,f,_,M⟩:=g 0 (by decide) (.v (.int (0+(i:Nat))));obtain⟨G,a1,_,H⟩:=g 1 (by decide) (.v (.int (0+(i:Nat))));have w:(0:Int)+(i:Nat)=(i:Nat):=by omega
    rw[w]at f a1;refine⟨_,.inl (?_:_=pure (fR.bA [s,s,.v (.int (i:Nat))])),_,rfl⟩;show Ey (hU n) [s,s,.v (.int (0+(i:Nat)))]=_;rw[w];exact oP (z_ (iM (call_of (cons_of (fq (M i hi) f rfl) (cons_of (fq (H i hi) a1 rfl) rfl)) (h _ (amH hi))))))
  obtain⟨y,f,N,_⟩:=g 0 (by decide) .e;obtain⟨G,a1,bg,_⟩:=g 1 (by decide) .e;have k:-4611686018427387904<=(xs.length:Int)/\(xs.length:Int)<4611686018427387904:=by omega
  refine(?_:Cj (hU n) [s,s,.e]=IM (hU n) [s,s,.e]).trans (fJ ((iM (fq (r:=pure (.v (.av false))) ?_ (m' N (cons_of f rfl)) (m' bg (cons_of a1 rfl)))).trans rfl) (cT (Mn (ds:=dP 0 xs.length) ?_ e) rfl))
  .rcases aw with rfl|rfl<;>rfl
  .simp
  .show(dj _ _ _ >>= _)=_
   rw[cons_of (m' bg (cons_of a1 rfl)) rfl];simp[k]
 have p:∀(F:bq)(d:D)(n:Nat),Ok n d->(∀xs,d≠.t xs)->(∀xs,d≠.l xs)->fnOf 2 3 (Ci F) [d,d]=pure (.v (.av true)):=λF d n h L K=>by
  cases d with
  |aH=>rfl|av b=>cases b<;>rfl
  |int i=>exact h3 rfl (fJ rfl (fJ rfl (st rfl (jf ((and_1 rfl).trans ((and_1 rfl).trans (by simp)))))))| str x=>exact h3 rfl (fJ rfl (fJ rfl (fJ rfl (st rfl (jf ((and_1 rfl).trans (by simp[eq_str h.1])))))))|t xs=>exact absurd rfl (L xs)|l xs=>exact absurd rfl (K xs)| ref _=>exact absurd h.1 (by intro z;cases z)| fn _=>exact absurd h.1 (by intro z;cases z)| ty _=>exact absurd h.1 (by intro z;cases z)
 intro n
 induction n with
 |zero=>
  intro d h;exact p _ d 0 h (λxs e=>absurd h.1 (by rw[e];intro z;cases z)) (λxs e=>absurd h.1 (by rw[e];intro z;cases z))
 |succ n A=>
  intro d h;have a:∀xs:List D,hO xs n=true->(decide (xs.length<=1000)&&mG xs)=true->(∀x∈xs,hU (n+1) [x,x]=pure (.v (.av true)))/\xs.length<=1000:=λxs B m=>by
   rw[alC]at m;exact⟨λx c=>A x ⟨k_.mp B x c,u4.mp m.2 x c⟩,of_decide_eq_true m.1⟩
  cases d with
  |t xs=>
   obtain⟨p1,cG⟩:=a xs h.1 h.2;exact h3 rfl (fJ rfl (fJ rfl (fJ rfl (fJ rfl (seq (n+1) xs _ p1 cG (.inl rfl))))))
  |l xs=>
   obtain⟨p1,cG⟩:=a xs h.1 h.2;exact h3 rfl (fJ rfl (fJ rfl (fJ rfl (fJ rfl (seq (n+1) xs _ p1 cG (.inr rfl))))))
  |_=>exact p _ _ _ h (λ_ e=>by cases e) (λ_ e=>by cases e)
end dW
namespace dW
open PySem PySem.Spec aA aC i2 gh jj
structure vk(S:bG)(A B L:Nat)(q:List (Nat×Nat))(as:List bH)(bs ls:List D):Prop extends lM S A [B,L] q as where
 bs:S[B]? = some (.l bs)
 ls:S[L]? = some (.l ls)
def eH(A B L:Nat)(q:List (Nat×Nat))(y:Nat):Prop:=y∈[A,B,L]\/∃x∈q,y=x.1\/y=x.2
section
variable{S:bG}{A B L:Nat}{q:List (Nat×Nat)}{as:List bH}{bs ls:List D}(P:vk S A B L q as bs ls)
include P
theorem vk.av:B≠L:=by have:=(al7.mp P.nl).2;intro z;subst z;simp at this
theorem vk.put{c:Nat}{a:List D}{b d:List D}(e:c∈[B,L])(aq:(S.set c (.l a))[B]? = some (.l b))(aE:(S.set c (.l a))[L]? = some (.l d)):vk (S.set c (.l a)) A B L q as b d:=⟨P.tolM.put e,aq,aE⟩
end
def eI.keep{S a:bG}{p:iK}(H:eI S i p h)(q:∀y o,p.has i y->S[y]? = some o->a[y]? = some o):eI a i p h:=
 ⟨H.tolM.keep λy o b e=>q y o (.inr b) e,q _ _ (.inl rfl) H.ba,q _ _ (.inr (.inl (by simp))) H.bs,q _ _ (.inr (.inl (by simp))) H.ls,q _ _ (.inr (.inl (by simp))) H.rs⟩
structure jm(S:bG)(i A B L:Nat)(p:iK)(q:List (Nat×Nat))(h:dc)(as:List bH)(bs ls:List D):Prop where
 H:eI S i p h
 P:vk S A B L q as bs ls
 ap:∀y,p.has i y->eH A B L q y->False
section
variable{S:bG}{i A B L k:Nat}{p:iK}{q:List (Nat×Nat)}{h:dc}{as:List bH}{bs ls:List D}(T:jm S i A B L p q h as bs ls)
include T
theorem jm.house{mf:dC}{r:R}(d:h.Do mf ds r h'):∃c g,bw S (mf (.ref i::ds)) r c/\jm c i A B L g q h' as bs ls:=by
 obtain⟨c,g,t,s⟩:=d S i p T.H;have f:∀y o,eH A B L q y->S[y]? = some o->c[y]? = some o:=λy o j e=>s.fr y o (λz=>T.ap y z j) e
 exact⟨c,g,t,s.at',⟨T.P.tolM.keep f,f _ _ (.inl (by simp)) T.P.bs,f _ _ (.inl (by simp)) T.P.ls⟩,λy a b=>(s.nw y a).elim (T.ap y · b) λz=>by have:=T.P.wt b;omega⟩
theorem jm.part{x:Nat×Nat}{a b:bH}{mf:dC}{ds Y:List D}(f:q[k]? = some x)(j:as[k]? = some a)(d:a.Do mf ds Y b):∃c g',bw S (mf (.ref x.1::ds)) (.fr Y) c/\jm c i A B L p (q.set k (x.1,g')) h (as.set k b) bs ls:=by
 obtain⟨c,g',t,s⟩:=d S x.1 x.2 (T.P.as k x a f j);have g:=alF f;obtain⟨Q,l⟩:=T.P.tolM.step f j s;refine⟨c,g',t,T.H.keep λy o m e=>s.fr y o (λz=>?_) e,⟨Q,l _ _ (by simp) T.P.bs,l _ _ (by simp) T.P.ls⟩,λy a b=>?_⟩
 .simp only[alj,alu,or_false]at z
  exact T.ap y m (.inr ⟨x,g,z⟩)
 .rcases b with z|⟨w,hw,z⟩
  .exact T.ap y a (.inl z)
  .rcases am8 hw with v|rfl
   .exact T.ap y a (.inr ⟨w,v,z⟩)
   .rcases z with z|z
    .exact T.ap y a (.inr ⟨x,g,.inl z⟩)
    .rcases s.nw with v|v
     .exact T.ap y a (.inr ⟨x,g,.inr (z.trans v)⟩)
     .have:=T.H.lt a
      have z:y=g':=z;omega
theorem jm.put{c:Nat}{a d f:List D}(b:c∈[B,L])(aq:(S.set c (.l a))[B]? = some (.l d))(aE:(S.set c (.l a))[L]? = some (.l f)):jm (S.set c (.l a)) i A B L p q h as d f:=
 ⟨T.H.keep λy o g e=>by rw[ale (λz:c=y=>T.ap y g (.inl (z▸alh _ b)))];exact e,T.P.put b aq aE,T.ap⟩
theorem jm.book{b:D}:jm (S.set B (.l (bs.set k b))) i A B L p q h as (bs.set k b) ls:=T.put (by simp) (get_set T.P.bs) (by rw[ale T.P.av];exact T.P.ls)
theorem jm.wr:jm (S.set L (.l (ls++Y))) i A B L p q h as bs (ls++Y):=T.put (by simp) (by rw[ale T.P.av.symm];exact T.P.bs) (get_set T.P.ls)
end
abbrev fp(i A B L:Nat):D:=.t [.ref i,.ref A,.ref B,.ref L]
abbrev yi(i A B L:Nat)(Y:List D)(n:Nat)(s t:Slot):aG:=[.v (fp i A B L),.b5 Y,.b5 (dP n Y.length),.v (.ref i),.v (.ref A),.v (.ref B),.v (.ref L),s,t]
section
variable{S S1 aW:bG}{U:aG}
def Ra{mf:dC}{ms:gS}{rs:List R}{r:R}(h:bw S (ms U) rs S1)(aw:rs.all R.hk=true)(e:bw S1 (mf (rs.map R.arg)) r aW):bw S (iZ mf ms U) r aW:=h.bind (by rw[if_pos aw];exact e)
def qW{m:d3}{ms:gS}{x:R}(h:bw S (m U) x S1)(a:bw S1 (ms U) xs aW)(aw:x.hk=true):bw S (gs m ms U) (x::xs) aW:=h.bind (a.bind (by rw[if_pos aw];rfl))
def ahU{j i n:Nat}{mo mk:bt}{mv:d3}{xs:List D}{d e:D}(c:bw S (mv U) (.v (.t [d,e])) S1)(a:ay S1 (mo U) (.v (.ref i)))(b:ay S1 (mk U) (.v (.int n)))(h:S1[i]? = some (.l xs))(f:n<xs.length):bw S (A7 j mo mk mv U) (.bA (U.set j (.v e))) (S1.set i (.l (xs.set n d))):=
 c.bind (a.to.bind (b.to.bind ((nF h).to.bind (by show bw S1 (if 0<=(n:Int)/\(n:Int)<xs.length then _ else _) _ _;rw[if_pos ⟨by omega,by omega⟩];rfl))))
theorem NQ{b:D->aM}(I:aG->Prop):∀(ds:List D)(U:aG),I U->(∀d∈ds,∀U,I U->∃U',ay S (b d U) (.bA U')/\I U')->∃U',ay S (jU b ds U) (.bA U')/\I U'
 |[],U,h,_=>⟨U,.of rfl,h⟩
 |d::ds,U,h,st=>by
  obtain⟨f,aq,a⟩:=st d (alo ..) U h;obtain⟨e,aE,c⟩:=NQ I ds f a λd hd=>st d (alh _ hd)
  exact⟨e,aq.bind aE,c⟩
def NR{b:aM}{it:fB}(I:aG->Prop)(h:ay S (it U) ds)(hi:I U)(e:∀d∈ds,∀U,I U->∃U',ay S (b (U.set i (.v d))) (.bA U')/\I U'):∃U',ay S (i5 i it b U) (.bA U')/\I U':=by
 obtain⟨U',e,h'⟩:=NQ I ds U hi e;exact⟨U',h.bind e,h'⟩
end
def ZY{S:bG}{U:aG}{ms:cP}{a b:Int}{n:Nat}(h:ay S (ms U) [.v (.int a),.v (.int b)])(f:0<=a/\a<=1000000)(d:0<=b/\b<=1000000)(e:(b-a).toNat=n):ay S (tF ms U) (dP a n):=h.bind (.of (by
 subst e;have c:(1000000:Int)<2 ^ 62:=by decide
 exact if_pos ⟨by omega,by omega,by omega,by omega⟩))
def Ai{xs:List D}(hl:xs.length<=1000)(h:∀x∈xs,aC.Ok n x):aC.Ok (n+1) (.l xs):=
 ⟨k_.mpr λx a=>(h x a).1,by show(decide (xs.length<=1000)&&mG xs)=true;rw[decide_eq_true hl,u4.mpr λx a=>(h x a).2];rfl⟩
def OU{z:D}(g:z.b4 64=true){x:R}(e:x.arg=z){y:R}(a:y.arg=z):d7 x y=pure (.v (.av false)):=by
 rw[th (by rw[e];exact g) (by rw[a];exact g),e,a,Pw g];rfl
def Q8{S:bG}{i A B L:Nat}{p:iK}{q:List (Nat×Nat)}{h:dc}{as:List bH}{bs ls Y:List D}(T:jm S i A B L p q h as bs ls)(e:h.ls=ls++Y)(hz:h.ls.length<=1000000)(N:Y.length<=6)(t:∀d∈Y,aC.Ok 12 d) :
  ∃a,bw S (o9 [fp i A B L,.l Y,.l (dP ls.length Y.length)]) (.v (.av true)) a/\jm a i A B L p q h as bs (ls++Y):=by
 have σ:=T.wr (Y:=Y);have hl:ls.length+Y.length<=1000000:=by rw[e,alb]at hz;exact hz
 have m:∀n,n<=1000000->n<=ald:=λn M=>by rw[alM];omega
 have el:(ls++Y).length=ls.length+Y.length:=alb;have c:((((ls++Y).length:Nat):Int)-(ls.length:Nat)).toNat=Y.length:=by omega
 have r:tV [.v (.int (ls.length:Nat)),.v (.int ((ls++Y).length:Nat))]=pure (.fr (dP ls.length Y.length)):=by
  have F:(1000000:Int)<2 ^ 62:=by decide
  have G:1000000<=2 ^ 24:=by decide
  rw[L0,c,if_pos ⟨⟨by omega,by omega,by omega,by omega⟩,by omega,m _ (by omega)⟩];rfl
 have a1:hU 15 [.l (dP ls.length Y.length),.l (dP ls.length Y.length)]=pure (.v (.av true)):=vq 14 _ (Ai (n:=13) (by rw[nY];omega) λx u=>by obtain⟨j,_,rfl⟩:=alK.mp u;exact cR);have a2:hU 15 [.int ((ls++Y).length:Nat),.int ((ls++Y).length:Nat)]=pure (.v (.av true)):=vq 14 _ cR;have E:h.ls.length=(ls++Y).length:=by rw[e]
 obtain⟨U',f,K,rfl⟩:=NR (S:=S.set L (.l (ls++Y))) (b:=Ob) (i:=8) (it:=tF (bz (J 7) (cF fF (aR (dq (J 6)))))) (ds:=dP ls.length Y.length) (U:=(yi i A B L Y ls.length (.v (.int (ls.length:Nat))) .e)) (λU=>∃s,U=(yi i A B L Y ls.length (.v (.int (ls.length:Nat))) s))
  (ZY (bE (x:=.v (.int (ls.length:Nat))) ax (bE (mc rfl (bE (f9 σ.P.ls ax) cq)) cq)) (by omega) (by omega) c) ⟨_,rfl⟩ λd hd U ⟨s,w⟩=>by
   subst w;obtain⟨j,hd⟩:=amz.mp hd;obtain⟨g,rfl⟩:=xl hd;have aq:(ls++Y)[ls.length+j]? = some Y[j]:=by rw[alw (by omega),show ls.length+j-ls.length=j by omega];exact aln g
   have aE:h.ls[ls.length+j]? = some Y[j]:=by rw[e];exact aq
   have z:((ls.length:Nat):Int)+(j:Nat)=((ls.length+j:Nat):Int):=by omega
   rw[z];exact⟨_,nE (cH (cA (x:=.v Y[j]) (y:=.v Y[j]) (OU (Dt (by decide) (t _ (amH g)).1) rfl rfl) (gX σ.H.ba ax rfl (bE (x:=.v (.int (ls.length+j:Nat))) ax cq) (Oo σ.H aE)) (cA (ll (hI _ aq)) (f9 σ.P.ls ax) ax))) ax,_,rfl⟩
 refine⟨_,qX rfl ?_,σ⟩;refine de (U':=(yi i A B L Y ls.length .e .e)) (ay.to ax) ?_;refine de (ay.to (hT (mc rfl (bE (f9 T.P.ls ax) cq)) rfl)) ?_;refine de (Rb ax (bE (x:=.b5 Y) ax cq) rfl T.P.ls (m _ hl)) ?_;refine sH (nG (iv (x:=true) (cH (eQ (bE (x:=.b5 (dP ls.length Y.length)) ax (bE (NO (bE ax (bE (mc rfl (bE (f9 σ.P.ls ax) cq)) cq)) r) cq)) (.of a1)))) (iv (x:=true) (cH (eQ (bE (x:=.v (.int ((ls++Y).length:Nat))) (E▸tM (U:=(yi i A B L Y ls.length (.v (.int (ls.length:Nat))) .e)) (k:=3) σ.H rfl) (bE (x:=.v (.int ((ls++Y).length:Nat))) (mc rfl (bE (f9 σ.P.ls ax) cq)) cq)) (.of a2))))) ?_;exact de (ay.to f) (ay.to ax)
theorem Ri{c:aG->M Bool}{b:b0}(I:aG->bG->Prop)(d:aG->Nat)(g:aG->bG->Prop)(step:∀U S,I U S->(ay S (c U) false/\g U S)\/(ay S (c U) true/\∃U' a,bw S (b U) (.bA U') a/\I U' a/\d U' < d U)) :
  ∀(n:Nat)(U:aG)(S:bG),I U S->d U<n->∃U' a,bw S (u6 (gd c) b n U) (.bA U') a/\g U' a
 |0,U,S,_,h=>absurd h (amx _)|n+1,U,S,jx,h=>by
  rcases step U S jx with⟨e,f⟩|⟨e,C,S1,aq,o,hm⟩
  .exact⟨U,S,(ay.to e).bind rfl,f⟩
  .obtain⟨j,i,aE,f⟩:=Ri I d g step n C S1 o (by omega)
   exact⟨j,i,(ay.to e).bind (aq.bind aE),f⟩
theorem G3{b:D->b0}(I:Nat->aG->bG->Prop):∀(ds:List D)(j:Nat)(U:aG)(S:bG),I j U S->(∀i d U S,ds[i]? = some d->I (j+i) U S->∃U' a,bw S (b d U) (.bA U') a/\I (j+i+1) U' a)->∃U' a,bw S (n6 b ds U) (.bA U') a/\I (j+ds.length) U' a
 |[],j,U,S,h,_=>⟨U,S,rfl,h⟩
 |d::ds,j,U,S,h,step=>by
  obtain⟨m,c,p,g⟩:=step 0 d U S rfl h;obtain⟨l,f,n,k⟩:=G3 I ds (j+1) m c g λi e U S he hi=>by
   rw[show j+1+i=j+(i+1)by omega]at hi ⊢;exact step (i+1) e U S he hi
  exact⟨l,f,ahR p n,by rw[alP,show j+(ds.length+1)=j+1+ds.length by omega];exact k⟩
def aaN(h:ji Γ L):∃(w:Str)(g i:Nat)(b c f:aC.D),L=.t [.str w,.int g,.int i,b,c,f]/\alx w=true:=by
 cases h with
 | @ask me k e s o C I=>exact⟨"ask",me,k,_,_,_,rfl,by decide +kernel⟩| @tell me k e s p n d w o C I U=>exact⟨"tell",me,k,_,_,_,rfl,by decide +kernel⟩| @grant k a e s kp w o C I U ez=>exact⟨"grant",k,a,_,_,_,rfl,by decide +kernel⟩| @kept k a e s o C=>exact⟨"kept",k,a,_,_,_,rfl,by decide +kernel⟩| @late k a e s p o C=>exact⟨"late",k,a,_,_,_,rfl,by decide +kernel⟩
def Gs(h:dc):h.k2 h:=λ_=>rfl
def afN{h h' c:dc}(a:h.k2 h')(b:h'.k2 c):h.k2 c:=λi=>(b i).trans (a i)
structure ke(Γ:fj)(h h':dc)(b:Nat):Prop where
 ok:fS Γ h'
 up:h.ls.length<=h'.ls.length
 ls:h'.ls.length<=h.ls.length+6*b
 rs:h'.rs.length<=h.rs.length+b
 wi:h.k2 h'
def ke.trans(x:ke Γ h o a)(y:ke Γ o C b):ke Γ h C (a+b):=
 ⟨y.ok,alR x.up y.up,by have:=x.ls;have:=y.ls;omega,by have:=x.rs;have:=y.rs;omega,afN x.wi y.wi⟩
def wu(O:Γ.Ok)(h:ji Γ L):aC.Ok 12 L:=by
 cases h with
 | @ask me k e s b c f=>exact xc (f_ (by decide +kernel)) cR cR cR (pj _ s) O6|@tell me k e s p n d w b c f g=>
  obtain⟨bc,i,_,rfl⟩:=f;have os:=i.ok (by have:=O.w;omega) λz hz=>hz.ok
  exact xc (f_ (by decide +kernel)) cR cR cR (pj _ s) (xb (pj _ p) cR (Pa g) os)
 | @grant k a e s kp w b c f g o=>exact xc (f_ (by decide +kernel)) cR cR cR (pj _ s) (j5 (pj _ kp) o)| @kept k a e s b c=>exact xc (f_ (by decide +kernel)) cR cR cR (pj _ s) O6| @late k a e s p b c=>exact xc (f_ (by decide +kernel)) cR cR cR (pj _ s) (O7 (pj _ p))
abbrev xZ(i A B L:Nat)(k:Int)(a b c:Slot):aG:=[.v (fp i A B L),.v (.int k),.v (.ref i),.v (.ref A),.v (.ref B),.v (.ref L),a,b,c]
def ih(S:bG)(i A B L:Nat)(h:dc):Prop:=∃p q,jm S i A B L p q h h.as h.bs h.ls
def GP{S:bG}{m:bt}(dO:alx w=true)(e:ay S (m U) (.v (.str w))):ay S (fK (aU (aj oEq m (a4 (.str "ask")))) (aU (aj oEq m (a4 (.str "tell")))) U) (w == "ask" || w == "tell"):=by
 have bB:=jg dO Fv
 cases b:(w == "ask")with
 |true=>rw[b]at bB;exact Em (cH (cA bB e ax))|false=>rw[b]at bB;exact nG (cH (cA bB e ax)) (cH (cA (jg dO Fy) e ax))
section
variable{S:bG}{i A B L k:Nat}{h h':dc}{Y:List D}
def GF{p:iK}{q:List (Nat×Nat)}{a b:bH}{x:Nat×Nat}(T:jm S i A B L p q h h.as h.bs h.ls)(e:q[k]? = some x)(n:h.as[k]? = some a){mf r:dC}{ds l:List D}(X:a.Do mf ds Y b)(y:h.Do r l (.fr (dP h.ls.length Y.length)) h')(el:h'.ls=h.ls++Y)(z:h'.as=h.as.set k b)(w:h'.bs=h.bs)(hz:h'.ls.length<=1000000)(G:Y.length<=6)(F:∀d∈Y,aC.Ok 12 d)
  {U:aG}{mo:bt}{j:Nat}{ma:gS}{mh:cP}{c rh:List R}{m hm:Str}(W:J 0 U=pure (.v (fp i A B L))) (N:J j U=pure (.v (.ref i))) (E:ay S (mo U) (.v (.ref x.1))) (K:bw S (ma U) c S) (M:∀S,ay S (mh U) rh) (aq:c.map R.arg=ds) (aE:rh.map R.arg=l) (o:c.all R.hk=true:=by rfl) (s2:rh.all R.hk=true:=by rfl) (V:∀(a:bH) g,(a.aX g).lookup m=none:=by exact λ_ _=>rfl) (O:∀p:iK,p.aX.lookup hm=none:=by exact λ_=>rfl) :
  ∃f,bw S (gN (iZ o9 (gs (c6 (J 0)) (gs (dF "Asker" m mf mo ma) (kQ (dF "House" hm r (J j) (dE mh)) b')))) U) (.b9 (.v (.av true))) f/\ih f i A B L h':=by
 obtain⟨u,g',C,s⟩:=T.part e n X;obtain⟨aW,cG,Q,Z⟩:=s.house y;obtain⟨cC,I,t⟩:=Q8 Z el hz G F;refine⟨cC,G0 (Ra (rs:=[.v (fp i A B L),.fr Y,.fr (dP h.ls.length Y.length)]) (qW (ay.to (.of W)) (qW (mJ (T.P.as k x a e n).ba E (V a _) K o (by rw[aq];exact C)) (xR (mJ s.H.ba (.of N) (O _) (ay.to (M u)) s2 (by rw[aE];exact Q))) rfl) rfl) rfl I),cG,q.set k (x.1,g'),?_⟩;rw[z,w,el];exact t
variable{Γ:fj}(O:Γ.Ok)(T:ih S i A B L h)(H:fS Γ h)
include O T H
theorem JD(ar:k<h.ls.length)(hz:h.ls.length<=900000)(aD:h.rs.length<=100000):∃c h',bw S (ub [fp i A B L,.int k]) (.v (.av true)) c/\ih c i A B L h'/\ke Γ h h' 1:=by
 obtain⟨p,q,T⟩:=T;obtain⟨Y,h',W,N,z,I,bC,sw,TS⟩:=TX H O ar hz aD;have el:h.ls[k]? = some h.ls[k]:=aln _;have R:=λd hd=>wu O (N.ls d (by rw[z];exact alN _ hd))
 have nL:h'.ls.length=h.ls.length+Y.length:=by rw[z,alb]
 have G:ke Γ h h' 1:=⟨N,by omega,by omega,by omega,sw⟩
 suffices ∃c,bw S (ub [fp i A B L,.int k]) (.v (.av true)) c/\ih c i A B L h' by
  obtain⟨c,t,b⟩:=this;exact⟨c,h',t,b,G⟩
 generalize h.ls[k]=Lt at *;have pre:∀{w:Str}{x:D}{j:Nat}{f n r:D}{c:bG},Lt=.t [.str w,x,.int j,f,n,r]->bw S (IP (xZ i A B L k (.v (.t [.str w,x,.int j,f,n,r])) (.v (.int j)) .e)) (.b9 (.v (.av true))) c->bw S (ub [fp i A B L,.int k]) (.v (.av true)) c:=λ{w x j f n r c} e t=>by
  subst e;exact qX rfl (de (ay.to ax) (de (ay.to (hT (cA (ll (hI k el)) (f9 T.P.ls ax) ax) rfl)) (de (ay.to ax) t)))
 cases TS with
 |@keeper me j e s b eN y M bj Z g LZ F K=>
  have:∃w x f n r,Lt=.t [.str w,x,.int j,f,n,r]/\alx w=true/\(w == "ask" || w == "tell")=true:=by
   rcases M with rfl|⟨l,rfl⟩
   .exact⟨_,_,_,_,_,rfl,Fv,rfl⟩
   .exact⟨_,_,_,_,_,rfl,Fy,rfl⟩
  obtain⟨w,x,f,n,r,u,dO,E⟩:=this;have o:=T.book (k:=j) (b:=eN);obtain⟨aW,cG,ec,q_⟩:=o.house W;obtain⟨cC,t3,BE⟩:=Q8 q_ z (by omega) I R;subst LZ;rw[u]at g;have fh:=GP (S:=S) (U:=(xZ i A B L k (.v (.t [.str w,x,.int j,f,n,r])) (.v (.int j)) .e)) (m:=aj c0 (J 6) (aL 0)) dO ax;rw[E]at fh;refine⟨cC,pre u (qZ (pQ (ay.to fh) (de (ahU (ay.to (eQ (bE (cA (ll (hI j Z)) (f9 T.P.bs ax) ax) (bE ax cq)) (.of g))) ax ax T.P.bs (ak8.mp Z).1) (G0 (Ra (qW (ay.to ax) (qW (ay.to ax) (xR (mJ o.H.ba ax rfl (ay.to ax) rfl ec)) rfl) rfl) rfl t3))))),cG,q,?_⟩;rw[K,F,z];exact BE
 |@asker a j e s M C Hc X Q K F=>
  have:∃w x f n r,Lt=.t [.str w,x,.int a,f,n,r]/\alx w=true/\(w == "ask" || w == "tell")=false:=by
   rcases M with⟨_,_,rfl⟩|rfl|⟨_,rfl⟩
   .exact⟨_,_,_,_,_,rfl,sd,rfl⟩
   .exact⟨_,_,_,_,_,rfl,Fw,rfl⟩
   .exact⟨_,_,_,_,_,rfl,uz,rfl⟩
  obtain⟨w,y,f,n,r,u,dO,E⟩:=this;obtain⟨x,V,jI⟩:=T.P.ex X;have fh:=GP (S:=S) (U:=(xZ i A B L k (.v (.t [.str w,y,.int a,f,n,r])) (.v (.int a)) .e)) (m:=aj c0 (J 6) (aL 0)) dO ax;rw[E]at fh;rw[u]at Q;obtain⟨c,t,b⟩:=GF T V X Q W z K F (by omega) I R (U:=(xZ i A B L k (.v (.t [.str w,y,.int a,f,n,r])) (.v (.int a)) .e)) (mo:=aj c0 (dq (J 3)) (J 7)) (j:=2) (ma:=dE (aR (J 6))) (mh:=dj (J 1) b') (m:="hear") (hm:="bring") rfl rfl (cA (ll (hI a (by rw[alr,V];rfl))) (f9 T.P.al ax) ax) (ay.to ax) (λ_=>.of rfl) rfl rfl;exact⟨c,pre u (pR (ay.to fh) t),b⟩
end
abbrev mP(i A B L:Nat)(st b m k:Int)(a:Slot):aG:=[.v (fp i A B L),.v (.int st),.v (.int b),.v (.int m),.v (.ref L),.v (.int k),a]
section
variable{S:bG}{i A B L:Nat}{h:dc}{Γ:fj}(O:Γ.Ok)(T:ih S i A B L h)(H:fS Γ h)
include O T H
theorem T_{k:Nat}(j:k<h.ls.length)(hz:h.ls.length<=900000)(E:h.rs.length<=100000)(st c m:Int)(r:Slot) :
  ∃a h' z,∃b:Nat,bw S (N_ (mP i A B L st c m (k:Nat) r)) (.bA (mP i A B L st c (m-(b:Nat)) ((k+1:Nat):Int) z)) a/\ih a i A B L h'/\b<=1/\ke Γ h h' b:=by
 have el:h.ls[k]? = some h.ls[k]:=aln _;obtain⟨w,u,y,F,K,M,N,dO⟩:=aaN (H.ls _ (amH j));rw[N]at el;have c_:∀{n:Int}{d:D}{s:Slot},c0 (.v (.t [.str w,.int u,.int y,F,K,M])) (.v (.int n))=pure (.v d)->ay S (aj c0 (aj c0 (dq (J 4)) (J 5)) (a4 (.int n)) (mP i A B L st c m (k:Nat) s)) (.v d):=λe=>by
  obtain⟨p,q,T⟩:=T;exact cA e (cA (ll (hI k el)) (f9 T.P.ls ax) ax) ax
 have fh:=λs=>GP (U:=mP i A B L st c m (k:Nat) s) (m:=aj c0 (aj c0 (dq (J 4)) (J 5)) (aL 0)) dO (c_ rfl)
 have pre:∃kp:Nat,∀{l:b0}{f:fR}{a:bG},bw S (l (mP i A B L st c m (k:Nat) (.v (.int kp)))) f a->bw S (bF (bU (ck 6 (gf (aj c0 (dq (J 4)) (J 5)) 1))) (bF (bU (b8 (fK (aU (aj oEq (gf (aj c0 (dq (J 4)) (J 5)) 0) (a4 (.str "ask")))) (aU (aj oEq (gf (aj c0 (dq (J 4)) (J 5)) 0) (a4 (.str "tell"))))) (ck 6 (gf (aj c0 (dq (J 4)) (J 5)) 2)) bQ)) l) (mP i A B L st c m (k:Nat) r)) f a:=by
  cases o:(w == "ask" || w == "tell")with
  |true=>rw[o]at fh;exact⟨y,λt=>de (ay.to (hT (c_ rfl) rfl)) (de (ay.to (qr (fh _) (hT (c_ rfl) rfl))) t)⟩|false=>rw[o]at fh;exact⟨u,λt=>de (ay.to (hT (c_ rfl) rfl)) (de (ay.to (nE (fh _) ax)) t)⟩
 obtain⟨kp,pre⟩:=pre
 by_cases g:amJ (c / 2 ^ kp) 1=1
 .obtain⟨a,h',t,b,G⟩:=JD O T H j hz E
  exact⟨a,h',_,1,pre (de (pQ (ay.to (.of (by simp[g]))) (de (ay.to ax) (qY (A_ (x:=true) (A9 (x_call ax rfl t))) rfl))) (ay.to ax)),b,alf _,G⟩
 .exact⟨S,h,_,0,by rw[show m-((0:Nat):Int)=m by omega];exact pre (de (qY (ay.to (.of (by simp;rw[beq_false_of_ne g]))) rfl) (ay.to ax)),T,by omega,H,alf _,by omega,by omega,Gs h⟩
theorem T'{st:Nat}(aw:st<=h.ls.length)(hz:h.ls.length<=800000)(D:h.rs.length<=90000)(d:Int){m:Nat}(hm:m<=26) :
  ∃l h',bw S (E0 [fp i A B L,.int st,.int d,.int m]) (.v (.av true)) l/\ih l i A B L h'/\∃b,b<=26/\ke Γ h h' b:=by
 obtain⟨U',l,e,g,x,k,a,b,rfl,t,n,G⟩:=Ri (c:=hX (aU (aj oLt (J 5) (cF fF (aR (dq (J 4)))))) (aU (aj qE (J 3) (aL 0))))
  (λU σ=>∃(g:dc)(k j:Nat)(a:Slot),U=mP i A B L st d ((m:Int)-(j:Nat)) (k:Nat) a/\j<=m/\ih σ i A B L g/\ke Γ h g j)
  (λU=>match U[(5:Nat)]? with|some (.v (.int k))=>900000-k.toNat|_=>0)
  (λU σ=>∃(g:dc)(x k:Int)(a:Slot)(b:Nat),U=mP i A B L st d x k a/\ih σ i A B L g/\b<=26/\ke Γ h g b)
  (λU σ ⟨g,k,j,a,u,E,V,G⟩=>by
   subst u;have F:=G.ls;have jv:=G.rs;have f:ay σ (aU (aj oLt (J 5) (cF fF (aR (dq (J 4))))) (mP i A B L st d ((m:Int)-(j:Nat)) (k:Nat) a)) (decide ((k:Int)<g.ls.length)):=by
    obtain⟨p,q,V⟩:=V;exact cH (cA rfl ax (mc rfl (bE (f9 V.P.ls ax) cq)))
   by_cases bg:k<g.ls.length
   .rw[decide_eq_true (by omega)]at f
    by_cases z:j<m
    .obtain⟨y,g',s,b,e,r,n,w⟩:=T_ O V G.ok bg (by omega) (by omega) st d ((m:Int)-(j:Nat)) a
     refine .inr ⟨kD f (.of (fY (by omega))),_,y,e,⟨g',k+1,j+b,s,?_,by omega,r,G.trans w⟩,?_⟩
     .rw[show(m:Int)-(j:Nat)-(b:Nat)=(m:Int)-((j+b:Nat):Int)by omega]
     .show 900000-((k+1:Nat):Int).toNat<900000-((k:Nat):Int).toNat
      omega
    .exact .inl ⟨kD f (.of (hM (by omega))),_,_,_,_,_,rfl,V,by omega,G⟩
   .rw[decide_eq_false (by omega)]at f
    exact .inl ⟨oR f,_,_,_,_,_,rfl,V,by omega,G⟩) pM (mP i A B L st d m st .e) S ⟨h,st,0,.e,by simp,alX _,T,H,alf _,by omega,by omega,Gs h⟩ (QY (by show 900000-((st:Nat):Int).toNat<16777216;omega))
 exact⟨l,g,qX rfl (de (A' (ay.to ax) rfl) (de (ay.to ax) (de e (ay.to ax)))),t,b,n,G⟩
end
structure kY(W:List (List Nat))(na:Nat)(w:Nat->List (Option cW))(h:dc)(n:Nat):Prop where
 ok:fS (qk W na w) h
 lB:∀(k:Nat)(A:bH),h.as[k]? = some A->A.wi=((w k).length:Nat)
 nP:many w<=n
 ds:∀(k:Nat)(d:Option cW)(x:cW),d∈w k->d=some x->lJ hD W x
 ls:h.ls.length<=200*n
 rs:h.rs.length<=40*n
def Gu{w:Nat->List (Option cW)}{h h':dc}(a:h.k2 h')(lB:∀(k:Nat)(A:bH),h.as[k]? = some A->A.wi=((w k).length:Nat)):∀(k:Nat)(A:bH),h'.as[k]? = some A->A.wi=((w k).length:Nat):=λk A e=>by
 have:=a k;rw[e]at this
 cases q:h.as[k]? with
 |none=>rw[q]at this;cases this
 |some B=>
  rw[q]at this;injection this with this
  have:=lB k B q;omega
def kY.V6(I:kY W na w h n)(G:ke (qk W na w) h h' b)(a:b<=26):kY W na w h' (n+1):=
 ⟨G.ok,Gu G.wi I.lB,by have:=I.nP;omega,I.ds,by have:=I.ls;have:=G.ls;omega,by have:=I.rs;have:=G.rs;omega⟩
def Vj(y:cW):∃fh:Str,c0 (.v y.D) (.v (.int 0))=pure (.v (.str fh))/\alx fh=true/\(R.v y.D).jY=false:=by
 cases y with
 |put a n=>exact⟨"put",by simp[cW.D],by decide +kernel,rfl⟩| add a n=>exact⟨"add",by simp[cW.D],by decide +kernel,rfl⟩| swap a o n=>exact⟨"swap",by simp[cW.D],by decide +kernel,rfl⟩| take g=>exact⟨"take",by simp[cW.D],by decide +kernel,rfl⟩| renew g=>exact⟨"renew",by simp[cW.D],by decide +kernel,rfl⟩| free g=>exact⟨"free",by simp[cW.D],by decide +kernel,rfl⟩| sure g a n=>exact⟨"sure",by simp[cW.D],by decide +kernel,rfl⟩| move z=>exact⟨"move",by simp[cW.D],by decide +kernel,rfl⟩| fin=>exact⟨"end",by simp[cW.D],by decide +kernel,rfl⟩
def ZA{W:List (List Nat)}(s:W.length<63){na:Nat}(m:na<=6){w:Nat->List (Option cW)}{h:dc}{n:Nat}(I:kY W na w h n)(K:n<=58){dT:Nat}{A:bH}(b:h.as[dT]? = some A)(aw:A.bT="calm")(l:A.cp=false){x:Option cW}(c:lO W x) :
  ∃r h' Y,h.Do r3 [.int dT,eh x] (.fr (dP h.ls.length Y.length)) h'/\kY W na r h' (n+1)/\h'.rs.length<=40*n+1/\h'.ls=h.ls++Y/\Y.length<=6/\h'.as=h.as.set dT (A.m9 (eh x)).asks/\h'.bs=h.bs/\A.Do oY [eh x] Y (A.m9 (eh x)).asks:=by
 have H:=I.ok;have lB:=I.lB;have hl:=I.ls;have D:=I.rs;have nP:=I.nP;have F:dT<na:=(H.as dT A b).lt;have j:dT<6:=by omega
 have g:∀(k:Nat)(d:Option cW)(y:cW),d∈addW w dT x k->d=some y->lJ hD W y:=λk d y hm e=>by
  unfold addW at hm
  by_cases q:k=dT
  .rw[if_pos q]at hm
   rcases al6.mp hm with z|z
   .exact I.ds dT d y z e
   .rw[alB.mp z]at e
    exact(c y e).1
  .rw[if_neg q]at hm
   exact I.ds k d y hm e
 have E:=RX (w:=w) j x;have hd:x=none\/nO [eh x]=pure (.v (.av true)):=by
  cases x with
  |none=>exact .inl rfl|some y=>exact .inr (ZD (c y rfl).2)
 have hw:(qk W na (addW w dT x)).m2 dT (A.wi+1) x:=by
  rw[lB dT A b];exact RY j x
 obtain⟨Y,h',e,G,f,p,J,i,t,u⟩:=YY (ts s m (by omega) g) (fS.mono (VV (RZ w dT x)) H) b aw l hd hw (by omega) (by omega);refine⟨addW w dT x,h',Y,e,⟨G,λk B a=>?_,by omega,g,by rw[f,alb];omega,by omega⟩,by omega,f,p,i,t,u⟩;rw[i]at a;unfold addW
 by_cases q:k=dT
 .subst q
  rw[alA (ak8.mp b).1]at a;injection a with a
  rw[if_pos rfl,<-a,alb];show A.wi+1=_;rw[(lB k A b)];rfl
 .rw[ale (λz=>q z.symm)]at a
  rw[if_neg q];exact lB k B a
abbrev mZ(i A B L:Nat)(k:Int)(s2 a:Slot):aG:=[.v (fp i A B L),.v (.int k),s2,.v (.ref i),.v (.ref A),.v (.ref B),.v (.ref L),a]
def qA:List Nat:=[109,111,118,101]
def abf:bo qA="move":=by rfl
def OJ:gi qA:=⟨by decide,by decide,by rfl⟩
def lO.mono{W b:List (List Nat)}{x:Option cW}(s:∀a∈W,a∈b)(h:lO W x):lO b x:=λy e=>⟨by have:=(h y e).1;cases y<;>first|exact⟨this.1,s _ this.2⟩|exact this,(h y e).2⟩
section
variable{S:bG}{i A B L:Nat}{h:dc}(T:ih S i A B L h){W:List (List Nat)}{na:Nat}{w:Nat->List (Option cW)}{n:Nat}(I:kY W na w h n)
include T I
theorem ae8(l2:W.length<63)(M:na<=6)(YN:qA∈W)(z5:n<=58){dT:Nat}(ar:dT<na){x:Option cW}(R:lO W x) :
  ∃c f h',bw S (zR [fp i A B L,.int dT,eh x]) (.v (.av true)) c/\ih c i A B L h'/\kY W na f h' (n+1)/\h.ls.length<=h'.ls.length/\h'.ls.length<=200*n+6/\h'.rs.length<=40*n+1:=by
 have hl:=I.ls;have aD:=I.rs;have hm:=I.nP;have O:=ts l2 M (by omega) I.ds;obtain⟨C,F,fu⟩:=I.ok.asker ar;obtain⟨p,q,T⟩:=id T;obtain⟨y,N,u⟩:=T.P.ex F;have pre:∀{c:bG},bw S (IY (mZ i A B L dT (.v (eh x)) (.v (.ref y.1)))) (.b9 (.v (.av true))) c->bw S (zR [fp i A B L,.int dT,eh x]) (.v (.av true)) c:=λt=>by
  refine qX rfl ?_;show bw S (IX [.v (fp i A B L),.v (.int dT),b7 (eh x),.e,.e,.e,.e,.e]) _ _;rw[GK];exact de (ay.to ax) (de (ay.to (hT (cA (ll (hI dT (by rw[alr,N];rfl))) (f9 T.P.al ax) ax) rfl)) t)
 have E:∀{s:Slot},ay S (aU (aj d7 (dk "Asker" "stand" oZ (J 7) b') (a4 (.str "calm"))) (mZ i A B L dT s (.v (.ref y.1)))) (!(C.bT == "calm")):=cH (cA (yD fu.bT) (qq u rfl rfl (xw u)) ax);have e1:∀{s:Slot},ay S (aU (dk "Asker" "knows_over" t2 (J 7) b') (mZ i A B L dT s (.v (.ref y.1)))) C.cp:=cH (qq u rfl rfl (Eu u))
 by_cases aw:C.bT="calm"
 .rw[aw,beq_self_eq_true]at E
  cases a3:C.cp with
  |true=>
   rw[a3]at e1;exact⟨S,w,h,pre (pR (ay.to E) (qZ (ay.to (qr e1 ax)))),⟨p,q,T⟩,⟨I.ok,I.lB,by omega,I.ds,by omega,by omega⟩,alf _,by omega,by omega⟩
  |false=>
   rw[a3]at e1;have go:∀{k:Option cW},lO W k->∃f h',(∀{U:aG}{ma:gS}{mh:cP},J 0 U=pure (.v (fp i A B L))->J 3 U=pure (.v (.ref i))->J 7 U=pure (.v (.ref y.1))->bw S (ma U) [.v (eh k)] S->(∀S,ay S (mh U) [.v (.int dT),.v (eh k)])->∃c,bw S (gN (iZ o9 (gs (c6 (J 0)) (gs (dF "Asker" "begin" oY (J 7) ma) (kQ (dF "House" "begin" r3 (J 3) (dE mh)) b')))) U) (.b9 (.v (.av true))) c/\ih c i A B L h')/\kY W na f h' (n+1)/\h.ls.length<=h'.ls.length/\h'.ls.length<=200*n+6/\h'.rs.length<=40*n+1:=λ{k} FE=>by
    obtain⟨f,h',Y,dg,l,bC,r,tX,sZ,lU,nd⟩:=ZA l2 M I z5 F aw a3 FE;have nL:h'.ls.length=h.ls.length+Y.length:=by rw[r,alb]
    have ai:=ts l2 M (by have:=l.nP;omega) l.ds;exact⟨f,h',λp7 e' Ub aq aE=>GF T N F nd dg r sZ lU (by omega) tX (λd hd=>wu ai (l.ok.ls d (by rw[r];exact alN _ hd))) p7 e' (.of Ub) aq aE rfl rfl,l,by omega,by omega,bC⟩
   cases x with
   |none=>
    obtain⟨f,h',g,l,V,X,tQ⟩:=go R;obtain⟨c,t,b⟩:=g (U:=(mZ i A B L dT (.v .aH) (.v (.ref y.1)))) (ma:=dE (aR (a4 .aH))) (mh:=dj (J 1) (aR (a4 .aH))) rfl rfl rfl rfl λ_=>.of rfl
    exact⟨c,f,h',pre (pR (ay.to E) (sH e1 (qZ (pQ (ay.to ax) t)))),b,l,V,X,tQ⟩
   |some z=>
    obtain⟨fh,aq,dO,nn⟩:=Vj z;have H:ay S (aU (aj oEq (a_ 2 0) (a4 (.str "move"))) (mZ i A B L dT (.v z.D) (.v (.ref y.1)))) (fh == "move"):=cH (cA (jg dO (show alx "move"=true by decide +kernel)) (cA aq ax ax) ax);have K:ay S (aU (aj qE (gf (dk "Asker" "place" r2 (J 7) b') 0) (aL 6)) (mZ i A B L dT (.v z.D) (.v (.ref y.1)))) (decide (C.cv > 6)):=cH (cA rfl (cA rfl (qq u rfl rfl (FQ u)) ax) ax);have Z:∃k,lO W k/\ay S (b8 (hX (aU (aj oEq (a_ 2 0) (a4 (.str "move")))) (aU (aj qE (gf (dk "Asker" "place" r2 (J 7) b') 0) (aL 6)))) (ck 2 (bO (c4 (a4 (.str "put")) (a_ 2 0) (aL 0)))) bQ (mZ i A B L dT (.v z.D) (.v (.ref y.1)))) (.bA (mZ i A B L dT (.v (eh k)) (.v (.ref y.1)))):=by
     cases o:(fh == "move")with
     |false=>rw[o]at H;exact⟨some z,R,nE (oR H) ax⟩|true=>
      rw[o]at H
      cases uI:decide (C.cv > 6)with
      |false=>rw[uI]at K;exact⟨some z,R,nE (kD H K) ax⟩|true=>
       rw[uI]at K;rw[((beq_iff_eq.mp o).trans abf.symm)]at aq;exact⟨some (.put qA 0),λy e=>by cases e;exact⟨⟨OJ.fh,YN⟩,OJ.nb,Ap (by decide) (by decide)⟩,qr (kD H K) (hT (nH (bE ax (bE (cA aq ax ax) (bE ax cq))) rfl (alH rfl)) rfl)⟩
    obtain⟨k,Q,Z⟩:=Z;obtain⟨f,h',g,l,V,X,tQ⟩:=go Q;obtain⟨c,t,b⟩:=g (U:=(mZ i A B L dT (.v (eh k)) (.v (.ref y.1)))) (ma:=dE (aR (J 2))) (mh:=dj (J 1) (aR (J 2))) rfl rfl rfl rfl λ_=>.of rfl
    exact⟨c,f,h',pre (pR (ay.to E) (sH e1 (pR (ay.to (cH (cA (x:=.v z.D) (by rw[we,show gp z.D=false by cases z<;>rfl]) ax ax))) (de (ay.to Z) t)))),b,l,V,X,tQ⟩
 .rw[show(C.bT == "calm")=false by rw[beq_eq_false_iff_ne];exact aw]at E
  obtain⟨Y,h',e,G,r,tX,bD,sw,lU,a,b,cu,nd,sZ⟩:=YZ O I.ok ar (by omega);have nL:h'.ls.length=h.ls.length+Y.length:=by rw[r,alb]
  rw[F]at cu;cases cu;obtain⟨c,t,TN⟩:=GF T N F nd e r sZ lU (by omega) tX (λd hd=>wu O (G.ls d (by rw[r];exact alN _ hd))) (U:=(mZ i A B L dT (.v (eh x)) (.v (.ref y.1)))) (mo:=J 7) (j:=3) (ma:=ka) (mh:=dj (J 1) b') (m:="bell") (hm:="bell") rfl rfl ax rfl (λ_=>.of rfl) rfl rfl;exact⟨c,w,h',pre (qZ (pQ (ay.to E) t)),TN,⟨G,Gu sw I.lB,by omega,I.ds,by omega,by rw[bD];omega⟩,by omega,by omega,by rw[bD];omega⟩
end
abbrev E'(c k:Int):Int:=(c % 10000000000000000000000000000000000000000*48271+(k+1)*(k+7)*16807) % 2147483647
abbrev OK(c k:Int):Int:=(c % 10000000000000000000000000000000000000000*69621+(k+3)*(k+5)*40692) % 2147483629
abbrev Ev(i A B L:Nat)(N:List D)(c k a b st:Int)(d e:Slot):aG:=[.v (fp i A B L),.b5 N,.v (.int c),.v (.int k),.v (.int a),.v (.int b),.v (.int st),d,e]
section
variable{S S1 aW:bG}{U:aG}
def ahN{a b:aG->N Bool}(h:bw S (a U) false S1):bw S (xU a b U) false S1:=h.bind rfl
def ahO{a b:aG->N Bool}(h:bw S (a U) true S1)(c:bw S1 (b U) x aW):bw S (xU a b U) x aW:=h.bind c
end
section
variable{S:bG}{i A B L:Nat}{h:dc}(T:ih S i A B L h)
include T
theorem Va{p:fj}(O:p.Ok)(H:fS p h)(hz:h.ls.length<=800000)(M:h.rs.length<=90000)(N:List D)(c k f l:Int)(hm:f % 4=3) :
  ∃m h',bw S (Cm (Ev i A B L N c k f l (h.ls.length:Nat) .e .e)) (.b9 (.v (.av true))) m/\ih m i A B L h'/\∃b,b<=3/\ke p h h' b:=by
 obtain⟨n,w,W⟩:∃n:Nat,1+f / 24 % 3=(n:Nat)/\n<=3:=⟨(1+f / 24 % 3).toNat,by omega⟩;have J:-4611686018427387904<=(n:Int)/\(n:Int)<4611686018427387904:=by omega
 obtain⟨U',m,e,g,b,r,rfl,s,V,G⟩:=G3 (b:=λd U=>N' (U.set 7 (.v d))) (λj U σ=>∃(g:dc)(b:Nat)(r:Slot),U=Ev i A B L N c k f l (h.ls.length:Nat) r .e/\b<=j/\ih σ i A B L g/\ke p h g b)
  (dP 0 n) 0 (Ev i A B L N c k f l (h.ls.length:Nat) .e .e) S ⟨h,0,_,rfl,alf _,T,H,alf _,by omega,by omega,Gs h⟩ (λj d U σ hd ⟨g,b,r,z,s,V,G⟩=>by
   subst z;obtain⟨Q,rfl⟩:=xl hd;have R:=G.ls;have jv:=G.rs;have y:=G.up
   by_cases q:0<h.ls.length
   .obtain⟨x,E,P⟩:∃x:Nat,(l+(0+(j:Nat))) % (h.ls.length:Int)=(x:Nat)/\x<h.ls.length:=⟨((l+(0+(j:Nat))) % (h.ls.length:Int)).toNat,by have:=mod_lt (a:=l+(0+(j:Nat))) (b:=(h.ls.length:Int)) (by omega);omega⟩
    obtain⟨K,g',t,u,F⟩:=JD O V G.ok (k:=x) (by omega) (by omega) (by omega);exact⟨Ev i A B L N c k f l (h.ls.length:Nat) (.v (.int (0+(j:Nat)))) .e,K,qY (ahO (ay.to (.of (fY (by omega)))) (A_ (A9 (x_call (rs:=[.v (fp i A B L),.v (.int x)]) (bE ax (bE (cA (by rw[<-E];exact ui (by omega)) (cA rfl ax ax) ax) cq)) rfl t)))) rfl,g',b+1,_,rfl,by omega,u,G.trans F⟩
   .exact⟨Ev i A B L N c k f l (h.ls.length:Nat) (.v (.int (0+(j:Nat)))) .e,σ,qY (ahN (ay.to (.of (hM (by omega))))) rfl,g,b,_,rfl,by omega,V,G⟩)
 rw[nY]at s;exact⟨m,g,qZ (pQ (ay.to (.of (by simp[hm]))) (de (Rc (.of (by simp[w,J])) e) (ay.to ax))),V,b,by omega,G⟩
theorem Vb{a b d:List Nat}(Z:gi a)(X:gi b)(hd:gi d){na:Nat}(Y:1<=na)(F:na<=6){w:Nat->List (Option cW)}{n:Nat}(I:kY [a,b,d,qA] na w h n)(z5:n<=58)(c k:Int)(akA:0<=k)(akB:k<=100) :
  ∃u Q h',bw S (E1 [fp i A B L,.l [.str (bo a),.str (bo b),.str (bo d)],.int c,.int k]) (.v (.av true)) u/\ih u i A B L h'/\kY [a,b,d,qA] na Q h' (n+1):=by
 have hl:=I.ls;have aD:=I.rs;have hm:=I.nP;have W:(0:Int)<(na:Int):=by omega
 have zG:iC (k+1) (k+7):=E_ (by omega) (by omega);have C:iC (k+3) (k+5):=E_ (by omega) (by omega);have E:∀{x j:Int},-(2 ^ 64)<j->j<2 ^ 64->iC x j:=λY af=>.inr (.inl ⟨Y,af⟩)
 have K:∀x:Int,iC x 48271:=λx=>E (by decide) (by decide)
 have M:∀x:Int,iC x 16807:=λx=>E (by decide) (by decide)
 have O:∀x:Int,iC x 69621:=λx=>E (by decide) (by decide)
 have wx:∀x:Int,iC x 40692:=λx=>E (by decide) (by decide)
 obtain⟨x0,ex⟩:∃f:Int->Option cW,∀s,wU [.l [.str (bo a),.str (bo b),.str (bo d)],.int s,.int c]=pure (.v (eh (f s)))/\lO [a,b,d] (f s):=⟨λs=>(Oh Z X hd s c).choose,λs=>(Oh Z X hd s c).choose_spec⟩;generalize[D.str (bo a),.str (bo b),.str (bo d)]=N at *;obtain⟨p,q,T⟩:=id T;have ln:q.length=na:=T.P.len.trans I.ok.na;obtain⟨g,s,pre⟩:∃(g s:Int),∀{r:R}{u:bG},bw S (Cm (Ev i A B L N c k g s (h.ls.length:Nat) .e .e)) (.b9 r) u->bw S (IT [.v (fp i A B L),.b5 N,.v (.int c),.v (.int k),.e,.e,.e,.e,.e]) (.b9 r) u:=by
  refine⟨E' c k,OK c k,λt=>?_⟩;refine de (U':=[.v (fp i A B L),.b5 N,.v (.int c),.v (.int k),.v (.int (E' c k)),.e,.e,.e,.e]) (ay.to (.of (by simp[zG,K,M]))) ?_;generalize E' c k=g at *;exact de (U':=[.v (fp i A B L),.b5 N,.v (.int c),.v (.int k),.v (.int g),.v (.int (OK c k)),.e,.e,.e]) (ay.to (.of (by simp[C,O,wx])))<|de (ay.to (hT (mc rfl (bE (f9 T.P.ls ax) cq)) rfl)) t
 by_cases o:g % 4=3
 .obtain⟨u,h',e,V,eN,oJ,G⟩:=Va ⟨p,q,T⟩ (ts (by simp) F (by omega) I.ds) I.ok (by omega) (by omega) N c k g s o
  exact⟨u,w,h',qX rfl (pre e),V,I.V6 G (by omega)⟩
 .obtain⟨eK,U⟩:=ex s
  obtain⟨dT,cu,ar⟩:∃dT:Nat,g / 4 % (na:Int)=(dT:Nat)/\dT<na:=⟨(g / 4 % (na:Int)).toNat,by have:=mod_lt (a:=g / 4) W;omega⟩;obtain⟨S1,Q,h',t1,V,y,g1,b2,bD⟩:=ae8 ⟨p,q,T⟩ I (by simp) F (by simp) z5 ar (U.mono (by simp +contextual));have ai:=ts (by simp) F (by have:=y.nP;omega) y.ds;obtain⟨m,em,H⟩:∃m:Nat,g / 3072 % 27=(m:Nat)/\m<=26:=⟨(g / 3072 % 27).toNat,by omega⟩;have z:∃z:Int,∀S,ay S (b8 (aU (aj oEq (aj oMod (aj eY (J 4) (aL 24)) (aL 2)) (aL 1))) (ck 8 (aj oMod (aj eY (J 4) (aL 48)) (aL 64))) bQ (Ev i A B L N c k g s (h.ls.length:Nat) .e (.v (.int 63)))) (.bA (Ev i A B L N c k g s (h.ls.length:Nat) .e (.v (.int z)))):=by
   by_cases q:g / 24 % 2=1
   .exact⟨g / 48 % 64,λS=>.of (by simp[q])⟩
   .exact⟨63,λS=>.of (by simp[q])⟩
  obtain⟨z,aq⟩:=z;obtain⟨aW,tv,ec,RT,eN,oJ,G⟩:=T' ai V y.ok g1 (by omega) (by omega) z H;refine⟨aW,Q,tv,qX rfl (pre (pR (ay.to (.of (by simp[show(g % 4==3)=false by simpa using o]))) (pR (A_ (A9 (x_call (rs:=[.v (fp i A B L),.v (.int dT),.v (eh (x0 s))]) (bE ax (bE (cA (by rw[<-cu];exact ui W) (.of (by simp)) (mc (by rw[<-ln,<-ala (λx:Nat×Nat=>aC.D.ref x.1)];rfl) (bE (f9 T.P.al ax) cq))) (bE (eQ ax (.of eK)) cq))) rfl t1))) (de (ay.to ax) (de (ay.to (aq S1)) (G0 (x_call (rs:=[.v (fp i A B L),.v (.int (h.ls.length:Nat)),.v (.int z),.v (.int m)]) (.of (by simp[em])) rfl ec))))))),RT,G.ok,Gu G.wi y.lB,y.nP,y.ds,by have:=G.ls;omega,by have:=G.rs;omega⟩
end
section
variable{S S1:bG}{U:aG}
def ahS{ms:gS}{ds:List D}(h:bw S (ms U) rs S1)(e:kr rs=pure ds)(z:ds.length<=1000):bw S (xQ ms U) (.v (.t ds)) S1:=h.bind ((ay.of e).to.bind (by rw[if_pos z];rfl))
def GZ{m:d3}(hm:bw S (m U) (.fr xs) S1):bw S (ie m U) (.v (.ref S1.length)) (S1++[.l xs]):=bw.bind hm (show bw S1 (do let S <-y3;putN (S++[ey.l xs]);pure (R.v (D.ref S.length))) _ _ from rfl)
def NT{ms:cP}{ds:List D}(h:ay S (ms U) rs)(e:kr rs=pure ds)(z:ds.length<=1000):ay S (d5 ms U) (.fr ds):=h.bind ((ay.of e).bind ((Ek z).bind ax))
def NU{a:bt}{lo hi:kZ}{r:R}{l h:Option Int}(e:ay S (a U) r)(b:nU r l h=pure (.fr xs))(aq:lo U=pure l)(aE:hi U=pure h):ay S (p8 a lo hi U) (.fr xs):=e.bind ((ay.of aq).bind ((ay.of aE).bind (.of b)))
def UB{i:Nat}{p:iK}{h:dc}(A:eI S i p h){m:Str}{mf:bq}{it:fB}{n:Nat}{cap:List Nat}{xs:List D}(c:xs.length=n)(f:n<=6)(hi:ay S (it U) (dP 0 n))(e:∀(k:Nat) d,xs[k]? = some d->ay S (mf [.ref i,.int (k:Nat)]) (.v d))(b:h2 1 cap U=[.e,.v (.ref i)])(hm:p.aX.lookup m=none) :
  ay S (fb 1 cap it fL (dk "House" m mf (J 1) (aR (J 0))) U) (.fr xs):=by
 have ex:xs=(alD n).map λk=>xs.getD k .aH:=by
  refine List.ext_getElem? λi=>?_
  rw[alr]
  by_cases hi:i<n
  .rw[amv hi,aln (by omega:i<xs.length)]
   show _=some (xs.getD i .aH);rw[al1,aln (by omega:i<xs.length)];rfl
  .rw[anC (by omega),anC (by rw[amt];omega)]
   rfl
 refine El hi (by rw[nY,alM];omega) ?_;rw[b,F']
 conv=>rw[ex]
 refine zq a' (λk=>xs.getD k .aH) (alD n) λk a=>?_
 have a:=alZ.mp a;exact gX A.ba ax hm (bE ax cq) (e k _ (by
  rw[al1,aln (by omega:k<xs.length)];rfl))
def Y2{i k:Nat}{p:iK}{h:dc}{a:bH}(H:eI S i p h)(e:h.as[k]? = some a):ay S (ET [.ref i,.int k]) (.v a.c1):=by
 obtain⟨x,ex,A⟩:=H.ex e;exact jD rfl (iw (gX A.ba (tL H ex rfl rfl) rfl cq (FD A)))
end
def TH(h:n9 Γ b):aC.Ok 12 b:=by
 obtain⟨bk,rfl,c,a⟩:=h;have hl:=Jy c a;refine nV (by rw[ala];omega) λx e=>?_
 obtain⟨g,d,rfl⟩:=alK.mp e;exact xb cR (j5 cR cR) (j5 cR cR) (a g d).ok
def acJ(dh:hD hall)(W:List (List Nat))(na:Nat):kY W na (λ_=>[]) (pb na hall) 0 where
 ok:=acH (VW W na _) dh
 lB:=λk A e=>by
  obtain⟨i,_,rfl⟩:=alK.mp (alF e);rfl
 nP:=alf _
 ds:=λk d x hm=>by cases hm
 ls:=alf _
 rs:=alf _
abbrev ko:ey:=.l (alp 6 (.t []))
abbrev OI:d3:=xQ (gs (kR "House" zJ (dE (bz (J 2) (J 1)))) (gs (ie (qV 1 [2] (gV (aR (J 1))) (kR "Asker" oX (dE (bz (J 0) (J 1)))))) (gs (ie (c6 (aj w' (d5 (aR (bO b'))) (aL 6)))) (gs (ie (c6 (d5 b'))) ka))))
def afG{na:Nat}(G:1<=na)(M:na<=6){b:D}(dh:b7 b=.v b)(q:o6 [b]=pure (.v (.av true))){L N:List D}{τ:aG} :
  ∃n i A B u,bw [] (OI (.b5 L::.v (.int na)::.v b::.v (.l N)::τ)) (.v (fp i A B u)) n/\ih n i A B u (pb na b):=by
 obtain⟨f,p,T,H,Z,X,W⟩:=Y0 [] G M dh q;obtain⟨c,s,K,Y,C⟩:=E8 dh na 0 f;have R:((List.range' 0 na).map λ(i:Nat)=>D.int (i:Int))=dP 0 na:=by
  rw[<-List.range_eq_range'];exact anJ λi _=>by rw[aou]
 rw[R]at s;have S:-4611686018427387904<=(na:Int)/\(na:Int)<4611686018427387904:=by omega
 have r:bw f (qV 1 [2] (gV (aR (J 1))) (kR "Asker" oX (dE (bz (J 0) (J 1)))) (.b5 L::.v (.int na)::.v b::.v (.l N)::τ)) (.fr ((iW f.length na).map λx=>.ref x.1)) c:=by
  refine bw.bind (a:=dP 0 na) (ay.to (.of (by simp[S]))) ?_;rw[if_pos (by rw[nY,alM];omega)];exact s.bind rfl
 generalize ex:(iW f.length na).map (λx=>D.ref x.1)=xs at r;have V:(c++[ey.l xs]).length=c.length+1:=by rw[alb];rfl
 have F:(c++[ey.l xs]++[ko]).length=c.length+2:=by rw[alb,V];rfl
 have w:bw [] (OI (.b5 L::.v (.int na)::.v b::.v (.l N)::τ)) (.v (fp 0 c.length (c++[ey.l xs]).length (c++[ey.l xs]++[ko]).length)) (c++[ey.l xs]++[ko]++[ey.l []]):=
  ahS (qW (Rd ax rfl T) (qW (GZ r) (qW (GZ (ay.to (.of (by rfl)))) (qW (GZ (ay.to ax)) rfl rfl) rfl) rfl) rfl) rfl (alH rfl)
 have up:∀{y o},c[y]? = some o->(c++[ey.l xs]++[ko]++[ey.l []])[y]? = some o:=λe=>Fr.app _ _ alu (Fr.app _ _ alu (Fr.app _ _ alu e))
 have O:(c++[ey.l xs]++[ko]++[ey.l []])[c.length]? = some (.l xs):=Fr.app _ _ alu (Fr.app _ _ alu rE);have t:(c++[ey.l xs]++[ko]++[ey.l []])[(c++[ey.l xs]).length]? = some ko:=Fr.app _ _ alu rE;refine⟨_,0,_,_,_,w,p,iW f.length na,(H.keep λy o _ e=>up (K y o alu e)),⟨⟨by rw[ex];exact O,?_,λk x a ex h=>?_,?_,λx m=>?_,λj k x y Q P ne=>?_,λy g=>?_⟩,t,rE⟩,λy g hz=>?_⟩
 .unfold iW pb;simp
 .obtain⟨d,rfl⟩:=nX ex
  have h:((alD na).map λ(i:Nat)=>r8 (i:Int) b)[k]? = some a:=h;rw[alr,amv d]at h;cases h;have E:=C k d;rw[anS]at E;exact⟨up E.ba,up E.ls⟩
 .simp only[al7,alj,alu,not_or,not_false_eq_true,anZ,and_true]
  omega
 .obtain⟨k,d⟩:=amz.mp m
  obtain⟨d,rfl⟩:=nX d;simp only[alj,alu,or_false];omega
 .obtain⟨_,rfl⟩:=nX Q
  obtain⟨_,rfl⟩:=nX P;constructor<;>dsimp only<;>omega
 .simp only[alj,alu,or_false]at g
  rcases g with rfl|rfl
  .exact⟨_,t⟩
  .exact⟨_,rE⟩
 .have g:=H.lt g
  rcases hz with z|⟨x,m,z⟩
  .simp only[alj,alu,or_false]at z
   omega
  .obtain⟨k,d⟩:=amz.mp m
   obtain⟨d,rfl⟩:=nX d;rcases z with z|z<;>dsimp only at z<;>omega
def UG(xs:List D):(cutD xs (some (-2)) none).length<=2:=by
 unfold cutD;unfold c7.cw;simp;omega
abbrev Hl(L:List D)(na:Nat)(a:D)(N:List D)(h i c d j b f e g:Slot):aG:=[.b5 L,.v (.int na),.v a,.v (.l N),h,i,c,d,j,b,f,e,g]
abbrev Hy(C:bH):List D:=[.str C.bT,C.c1,.t [.int C.cv,C.h,C.op],.av C.cp]
abbrev Hm(L:List D)(na:Nat)(a:D)(N:List D)(i A B b:Nat)(f d c e:Slot):aG:=Hl L na a N (.v (fp i A B b)) f (.v (.ref i)) (.v (.ref A)) (.v (.ref B)) (.v (.ref b)) d c e
abbrev By(L:List D)(na:Nat)(a:D)(N:List D)(b c:Slot):aG:=Hl L na a N b c .e .e .e .e .e .e .e
def aax(ns:List Int)(aB:ns.length<=63):∃ah,(EZ [.l (ns.map D.int)]).run []=.ok (.v (.av true)) ah:=by
  have p7:o8 [.l (ns.map D.int),.int 0]=pure (.v (.int (ns.getD 0 0))):=CC ns 0;have bg:o8 [.l (ns.map D.int),.int 1]=pure (.v (.int (ns.getD 1 0))):=CC ns 1;have o:o8 [.l (ns.map D.int),.int 2]=pure (.v (.int (ns.getD 2 0))):=CC ns 2;generalize ns.getD 0 0=x0 at p7;generalize ns.getD 1 0=iB at bg;generalize ns.getD 2 0=j' at o;obtain⟨na,C1,gY,j3⟩:∃na:Nat,1+x0 % 4=(na:Nat)/\1<=na/\na<=4:=⟨(1+x0 % 4).toNat,by omega⟩;have Z:na<=6:=by omega
  obtain⟨X,F,U1,G⟩:=Oi (iB % 1000000000);obtain⟨a,b,d,em,K,M,Q⟩:=aaw (j' % 100000000000000000000);have S:b7 (jy X F)=.v (jy X F):=rfl;have RG:=acJ (MB G.ga G.nk) [a,b,d,qA] na;have D_:=G.is;generalize jy X F=hall at *;have iP:∀j:Nat,j<ns.length->d4 (ns.map D.int) (0+(j:Nat))=some (.int (ns.getD j 0)):=λj hl=>by
    have:=BW (xs:=ns.map D.int) (by rw[ala];exact hl);rw[aou,this,List.getElem_map,al1,aln hl];rfl
  obtain⟨z,vJ,ak6,n8⟩:∃z:Nat,(cutD (ns.map D.int) none (some 40)).length=z/\z<=40/\z<=ns.length:=⟨_,rfl,by rw[show cutD (ns.map D.int) none (some 40)=(ns.map D.int).take 40 from CK _ 40,ama];omega,by rw[show cutD (ns.map D.int) none (some 40)=(ns.map D.int).take 40 from CK _ 40,ama,ala];omega⟩;have pn:-4611686018427387904<=(z:Int)/\(z:Int)<4611686018427387904:=by omega
  have zs:z<=ald:=by rw[alM];omega
  generalize ns.map D.int=L at *;obtain⟨S1,i,A,B,f,t1,km⟩:=afG gY Z S D_ (L:=L) (N:=[.str (bo a),.str (bo b),.str (bo d)]) (τ:=[.e,.e,.e,.e,.e,.e,.e,.e,.e]);obtain⟨U',aW,ec,w,h,r,rfl,q_,I⟩:=G3 (b:=λd U=>N8 (U.set 5 (.v d))) (λj U σ=>∃w h r,U=By L na hall [.str (bo a),.str (bo b),.str (bo d)] (.v (fp i A B f)) r/\ih σ i A B f h/\kY [a,b,d,qA] na w h j) (dP 0 z) 0 (By L na hall [.str (bo a),.str (bo b),.str (bo d)] (.v (fp i A B f)) .e) S1 ⟨_,_,_,rfl,km,RG⟩ (λj x U σ c ⟨w,h,r,W,T,I⟩=>by
    subst W;obtain⟨bj,rfl⟩:=xl c;obtain⟨vn,ed,h',t,V,ef⟩:=Vb T K M Q gY Z I (by omega) (ns.getD j 0) (0+(j:Nat)) (by omega) (by omega);exact⟨By L na hall [.str (bo a),.str (bo b),.str (bo d)] (.v (fp i A B f)) (.v (.int (0+(j:Nat)))),vn,qY (A_ (A9 (x_call (rs:=[.v (fp i A B f),.v (.l [.str (bo a),.str (bo b),.str (bo d)]),.v (.int (ns.getD j 0)),.v (.int (0+(j:Nat)))]) (bE ax (bE ax (bE (cA (by show(match d4 L (0+(j:Nat))with|some d=>pure (R.v d)|none=>bad)=_;rw[(iP j (by omega))]) ax ax) (bE ax cq)))) rfl t))) rfl,ed,h',_,rfl,V,ef⟩)
  rw[anS,nY]at I;have O:=ts (by simp) Z (by have:=I.nP;omega) I.ds;obtain⟨p,q,T⟩:=q_;have H:=I.ok;generalize[D.str (bo a),.str (bo b),.str (bo d)]=N at *;obtain⟨U',t3,Y,m,n,rfl⟩:=NR (b:=N9) (i:=10) (it:=gV (aR (J 1))) (ds:=dP 0 na) (λU=>∃Y m n,U=Hm L na hall N i A B f r Y m n)
    (.of (by have:-4611686018427387904<=(na:Int)/\(na:Int)<4611686018427387904:=by omega
             simp[this])) ⟨_,_,_,rfl⟩ λx c U ⟨Y,m,n,W⟩=>by
      subst W;obtain⟨k,c⟩:=amz.mp c;obtain⟨ar,rfl⟩:=xl c;rw[aou];obtain⟨C,g,u⟩:=H.asker ar;obtain⟨y,aO,E⟩:=T.P.ex g;have al:hU 15 [.l (Hy C),.l (Hy C)]=pure (.v (.av true)):=vq 14 _ (Ai (alH rfl) (by
        simp only[alT];obtain⟨s,s1,_,e⟩:=u.op;refine⟨f_ ?_,lx u.c1 (by decide),?_,ac2,λ_ z=>nomatch z⟩
        · rcases u.bT with e|e|e<;>rw[e]<;>decide +kernel
        · rw[e]
          exact mu cR (lx u.hl.ok (by decide)) (lx (s1.ok (by have:=O.w;omega) λz hz=>hz.ok) (by decide))))
      have pt:∀{m n:Slot},ay aW (aj c0 (dq (J 7)) (J 10) (Hm L na hall N i A B f r (.v (.int k)) m n)) (.v (.ref y.1)):=cA (ll (hI k (by rw[alr,aO];rfl))) (f9 T.P.al ax) ax;refine⟨_,tN (hT (NT (bE (gX T.H.ba ax rfl (bE ax cq) (Y4 T.H g)) (bE (gX T.H.ba ax rfl (bE ax cq) (Y2 T.H g)) (bE (gX T.H.ba ax rfl (bE ax cq) (Y3 T.H g)) (bE (gX T.H.ba ax rfl (bE ax cq) (Y1 T.H g)) cq)))) rfl (alH rfl)) rfl) (tN (hT (NT (bE (gX E.ba pt rfl cq (xw E)) (bE (gX E.ba pt rfl cq (FD E)) (bE (gX E.ba pt rfl cq (FQ E)) (bE (gX E.ba pt rfl cq (Eu E)) cq)))) rfl (alH rfl)) rfl) (nE (iv (x:=true) (cH (eQ ax (.of al)))) ax)),_,_,_,rfl⟩
  have gl:(D.l h.ls).b4 64=true:=k_.mpr λx c=>Dt (by decide) (wu O (H.ls x c)).1
  have sv:=UG h.ls;have R1:hU 15 [.l (cutD h.ls (some (-2)) none),.l (cutD h.ls (some (-2)) none)]=pure (.v (.av true)):=vq 14 _ (Ai (by omega) λx c=>lx (wu O (H.ls x (J1 c))) (by decide));have R2:=vq 14 _ (Ai (by rw[H.nb];decide) λx c=>lx (TH (H.bs x c)) (by decide));refine⟨aW,qX rfl ?_⟩;exact de (U':=[.b5 L,.v (.int na),.e,.e,.e,.e,.e,.e,.e,.e,.e,.e,.e]) (ay.to (.of (by simp[p7,C1])))<|de (U':=[.b5 L,.v (.int na),.v hall,.e,.e,.e,.e,.e,.e,.e,.e,.e,.e]) (ay.to (.of (by simp[bg,U1])))<|de (ay.to (.of (by simp[o,em])))<|de (A' t1 rfl)<|de (Rc (.of (by simp[zs,pn,vJ])) ec)<|de (ay.to ax)<|de (ay.to t3)<|sH (nG (cH (cA (OU gl rfl rfl) (gX T.H.ba ax rfl cq (P' T.H)) (f9 T.P.ls ax))) (iv (cH (eQ (bE (NU (gX T.H.ba ax rfl cq (P' T.H)) rfl rfl rfl) (bE (NU (f9 T.P.ls ax) rfl rfl rfl) cq)) (.of R1)))))<|ay.to (iw (eQ (bE (UB T.H H.nb (by decide) ax (λk d e=>TQ T.H e) rfl rfl) (bE (f9 T.P.bs ax) cq)) (.of R2)))
end dW
namespace PySem.W.Fast
noncomputable def zp:=PySem.Challenge.pw_oneslate_k46_whole_house_of_parts
noncomputable def zq:=zp.main.body
noncomputable def tw2962510305395825123:=(zq.drop 15).take 1
theorem te2962510305395825123:tw2962510305395825123=tw2962510305395825123:=rfl
noncomputable def tw9518278139910394282:=(zq.drop 84).take 10
theorem te9518278139910394282:tw9518278139910394282=tw9518278139910394282:=rfl
noncomputable def tw5639958918199371147:=(zq.drop 83).take 1
theorem te5639958918199371147:tw5639958918199371147=tw5639958918199371147:=rfl
noncomputable def tw2057571012669502704:=(zq.drop 74).take 9
theorem te2057571012669502704:tw2057571012669502704=tw2057571012669502704:=rfl
noncomputable def tw17115570551443537200:=(zq.drop 14).take 1
theorem te17115570551443537200:tw17115570551443537200=tw17115570551443537200:=rfl
noncomputable def tw2962587481554523888:=(zq.drop 94).take 1
theorem te2962587481554523888:tw2962587481554523888=tw2962587481554523888:=rfl
noncomputable def tw15431031458362965653:=(zq.drop 28).take 15
theorem te15431031458362965653:tw15431031458362965653=tw15431031458362965653:=rfl
noncomputable def tw9586511811987717109:=(zq.drop 52).take 14
theorem te9586511811987717109:tw9586511811987717109=tw9586511811987717109:=rfl
noncomputable def tw2164766126072773815:=(zq.drop 43).take 9
theorem te2164766126072773815:tw2164766126072773815=tw2164766126072773815:=rfl
noncomputable def tw4255656710375446359:=(zq.drop 107).take 2
theorem te4255656710375446359:tw4255656710375446359=tw4255656710375446359:=rfl
noncomputable def tw308824853272895545:=(zq.drop 95).take 12
theorem te308824853272895545:tw308824853272895545=tw308824853272895545:=rfl
noncomputable def tw16514169510624636281:=(zq.drop 16).take 1
theorem te16514169510624636281:tw16514169510624636281=tw16514169510624636281:=rfl
noncomputable def tw8804543247813584665:=(zq.drop 18).take 10
theorem te8804543247813584665:tw8804543247813584665=tw8804543247813584665:=rfl
noncomputable def tw17425067357866580921:=(zq.drop 66).take 8
theorem te17425067357866580921:tw17425067357866580921=tw17425067357866580921:=rfl
noncomputable def tw17113481148898729050:=(zq.drop 0).take 12
theorem te17113481148898729050:tw17113481148898729050=tw17113481148898729050:=rfl
noncomputable def tw11368547750678229339:=(zq.drop 17).take 1
theorem te11368547750678229339:tw11368547750678229339=tw11368547750678229339:=rfl
noncomputable def tw9949391516967164094:PySem.Program:={zp with main:={zp.main with body:=([0,2,3,4,5,6,8,9,10,12,13,14,15,16,17,18,20,21,22,23,24,25,26,27,28,29,30,31,32,33,35,36,37,38,39,41,42,43,44,45,46,47,48,49,51,52,53,54,55,56,57,58,59,60,61,63,64,65,66,67,68,69,70,71,72,73,74,75,76,78,79,80,81,83,85,86,87,88,89,90,92,93,94,96,97,98,99,100,101,102,103,104,105,106,107,108]:List Nat).filterMap fun i=>zp.main.body[i]?}}
theorem te9949391516967164094:tw9949391516967164094=tw9949391516967164094:=rfl
noncomputable def tw4888727199120529887:=(zq.drop 12).take 2
theorem te4888727199120529887:tw4888727199120529887=tw4888727199120529887:=rfl
def te4773358498079641532:=0
def te17029386248943291203:=0
def te17603939455630868255:=0
def te6216280696485399151:=0
def te7739885136817211307:=0
def te15043310377495575484:=0
def te14027190521100612678:=0
def te12065721840060884464:=0
def te3931345527584919265:=0
def te9824531261514427401:=0
def te15015483096660498720:=0
def te3906662209137980559:=0
def te12421118067181775069:=0
def te9724474199284338631:=0
def te5830656374773635758:=0
def te4426053430184612390:=0
def te10512301725817509130:=0
def te7547516628442507029:=0
def te18256624000491065795:=0
def te16409754829705543794:=0
def te13594977870781080720:=0
def te4688365681826370069:=0
def te17804847860006087215:=0
def te4316530948310969318:=0
def te9154633888507994990:=0
def te2618823424723569367:=0
def te6224502433471316239:=0
def te17765615346884565462:=0
def te286015986757755104:=0
def te11128877943416610831:=0
def te10154851758838607635:=0
def te8507545653086929146:=0
def te6098842262471759752:=0
def te10469493505832688593:=0
def te17617470120628884576:=0
def te9765095557109552499:=0
def te16537895595477263758:=0
def te15296065258319824092:=0
def te5619104308275357191:=0
def te5471834244776871151:=0
def te13452499171306662143:=0
def te18143656867576504188:=0
def te18164343746953528845:=0
def te18051862065438783915:=0
def te4864533743977675958:=0
def te14350807776249906391:=0
def te6694322021626231566:=0
def te11988430549610182822:=0
def te7445304550506695504:=0
def te13833942468921905056:=0
def te1304188705083603478:=0
def te265875015220654341:=0
def te2031121813910399566:=0
def te13422206560334557772:=0
def te12811164242862391539:=0
def te17973279364879358317:=0
def te10516291960795896915:=0
def te10307540847973882062:=0
def te17834005645490696837:=0
def te6475835098954904145:=0
def te18268892962499708980:=0
def te13492897542751276779:=0
def te8954186860730273276:=0
def te9907263272492459987:=0
def te16454445546048535371:=0
def te2840225391490708091:=0
def te9081983879380190279:=0
def te1691004538413175246:=0
def te9538936521929907390:=0
def te1802073814884353755:=0
def te4881578221503385238:=0
def te11345513981855091814:=0
def te6263287222310513922:=0
def te4470372894733629606:=0
def te10204084676926019531:=0
def te908310743552382935:=0
def te13526568316638675088:=0
def te13000793410889546933:=0
def te7446294186906500137:=0
def te1207223298342704382:=0
def te7177095883232462488:=0
def te816548165167068338:=0
def te13827202313179654320:=0
def te2981083606345654125:=0
def te13834483316013120372:=0
def te8681439064222433408:=0
def te132761908886387658:=0
def te3469902469165006291:=0
def te9394758557749998440:=0
def te10307138678513593873:=0
def te10332310573105159725:=0
def te13286546412204555825:=0
def te8132591939274551146:=0
def te1082022057471494745:=0
def te17228763370778555674:=0
def te949561423035876880:=0
def te7618150207945435268:=0
def te5312785651697786245:=0
def te15458875039261804293:=0
def te8363865712795232152:=0
def te17612263356079569428:=0
def te4377117031177954704:=0
def te6376646102397445659:=0
def te11913972421793259912:=0
def te17501203145586752262:=0
def te2163882911012484602:=0
def te16914021759071745324:=0
def te10252306919646244069:=0
def te11662739427410527917:=0
def te8448124639390381733:=0
def te2752170733935602806:=0
def te11392536455973121842:=0
def te17915693066791117708:=0
def te13236489844982970448:=0
def te8946563169751054552:=0
def te14551941101221884336:=0
def te13295671478731445660:=0
def te6621889145180117417:=0
def te7239803098551401359:=0
def te4957202590216864026:=0
def te3129617885349775732:=0
def te7070537696481191324:=0
def te7779036347453810405:=0
def te10366140721193555231:=0
def te7994216061855509364:=0
def te15141913167293729165:=0
def te7788958948520276526:=0
def te6055463164863110609:=0
def te15064820542309636647:=0
def te18364415300591592732:=0
def te4085142241289126407:=0
def te5621749305616095249:=0
def te9096109785807344302:=0
def te124317355593966441:=0
def te7484712729742204701:=0
def te6464064989632790859:=0
def te3794464210567813902:=0
def te10348856548272775552:=0
def te12370338458510704737:=0
def te5815242611510691973:=0
def te15973093589931320206:=0
def te4787539616035590537:=0
def te14881256976467183150:=0
def te3116882723949211181:=0
def te10893987123050367623:=0
def te16965953468982005967:=0
def te2229083505300671779:=0
def te10807722220314493468:=0
def te12085345084507601996:=0
def te11424662526445948430:=0
def te877458606558929828:=0
def te6761346286519331443:=0
def te14593413202769532384:=0
def te4217337489128388447:=0
def te10124874779273933568:=0
def te3984625660711953135:=0
def te11090454697382542165:=0
def te9945142514347430386:=0
def te9143926724515960840:=0
def te1193901416472665604:=0
def te15557323370104877585:=0
def te15578087842333491929:=0
def te1738699742919266175:=0
def te13415889767133089171:=0
def te4714334878583737421:=0
def te12739737202907714229:=0
def te17307278455216847643:=0
def te13291047882546082855:=0
def te5509826602084893870:=0
def te16084764392021385646:=0
def te16662814899666569972:=0
def te6552779383993053768:=0
def te5593686210652764680:=0
def te3110436688407215566:=0
def te11679289914153895090:=0
def te16586928159318924792:=0
def te1215378149147562627:=0
def te6736540361731320175:=0
def te2087338366573243808:=0
def te12601426510976849279:=0
def te11388127326189121215:=0
def te11079679102777051750:=0
def te6128719654880076957:=0
def te14079389638849001907:=0
def te12910538975423052431:=0
def te3855213011220673306:=0
def te294810497599443404:=0
def te3226897535299942674:=0
def te2811978323468589918:=0
def te10216829349289028988:=0
def te1582655688130277941:=0
def te13872958240374146016:=0
def te5392054480926877594:=0
def te2818761925308402399:=0
def te6146035681342840351:=0
def te8625816404323257376:=0
def te10044933594689231916:=0
def te12804271896461673302:=0
def te11721210199919912638:=0
def te6349964592872534666:=0
def te9679415297448759368:=0
def te11089345197985981583:=0
def te16143254159972329008:=0
def te13912850075982463336:=0
def te10972634040077413159:=0
def te9957383315349567350:=0
def te16195176553494318447:=0
def te916579442340059516:=0
def te18176855084471900871:=0
def te18251978924052829074:=0
def te10879368230420668228:=0
def te11429694285974432955:=0
def te6790277612125328042:=0
def te1389994752400706962:=0
def te3271547259107691824:=0
def te1559633385073322875:=0
def te9357223578412698473:=0
def te10706002790040615311:=0
def te14258683852417079194:=0
def te6699887110874330882:=0
def te18189421418283381311:=0
def te18339066549380604419:=0
def te11704235029991527740:=0
def te6584039586067559408:=0
def te12178503891430834554:=0
def te12342871286126899555:=0
def te743165837775395401:=0
def te12457202865629098565:=0
def te17994160441761187476:=0
def te11531054535996658600:=0
def te1194028382044089990:=0
def te4486233065049161059:=0
def te8663654812598605943:=0
def te13592872299403815174:=0
def te7365648081830611870:=0
def te2884653136448054353:=0
def te11862288822574967741:=0
def te16848306280737819116:=0
def te13667596690307838427:=0
def te5999863669017506913:=0
def te3087408256280201345:=0
def te1996304650034092462:=0
def te12397138367679945154:=0
def te5740559426840741422:=0
def te398995344812139298:=0
def te12256454558303081085:=0
def te13226096577397388081:=0
def te2140116116557294143:=0
def te1825372104287125407:=0
def te3425214943968052382:=0
def te12560728795954411029:=0
def te13893949115816958633:=0
def te11062143368173359717:=0
def te14505991486490694426:=0
def te11282712509481937399:=0
def te17947300726492139464:=0
def te7820169370456707355:=0
def te12567760164806343582:=0
def te12871210969485895373:=0
def te13338787253291694020:=0
def te1772695473820449139:=0
def te15157124544842674675:=0
def te2893096149619742651:=0
def te4849084604553498791:=0
def te10332043036247715716:=0
def te6870478543190485806:=0
def te13055762623374858658:=0
def te11873566232257714889:=0
def te9839213121572905811:=0
def te11845763733972047337:=0
def te1800222424833401653:=0
def te12598378748896580310:=0
def te602730585460813740:=0
def te13166097105994045155:=0
def te18135437931208623475:=0
def te2010767842165644925:=0
def te8757144325897987671:=0
def te4017145296682059985:=0
def te12196607352544123747:=0
def te3535101694651099300:=0
def te11060017082207501141:=0
def te6148205922782371006:=0
def te1204247949545262527:=0
def te5691331632245686493:=0
def te1611106206014638133:=0
def te16748797426914529074:=0
def te6801800708530376643:=0
def te9769195160552946584:=0
def te6155998397201133766:=0
def te2694907535750399126:=0
def te10711578941955875381:=0
def te11930107257043098617:=0
def te5130936842760008415:=0
def te3633024315422370002:=0
def te3862555827669750104:=0
def te15191945268530039249:=0
def te1314129736194002304:=0
def te12855586959835757819:=0
def te14423171914491203546:=0
def te10246769276280836262:=0
def te7833763391402059472:=0
def te15435140770427758768:=0
def te10672788748431622756:=0
def te10665064994792766298:=0
def te17255966253542416572:=0
def te7090043725989722486:=0
def te1345058302780061494:=0
def te16119194349398115349:=0
def te5201854887874482973:=0
def te12308897269438329501:=0
def te8974900412881031673:=0
def te16864911164996203558:=0
def te11948092383287740319:=0
def te9759821670382630616:=0
def te6813161140175632117:=0
def te4472780660867577572:=0
def te13661482200387080070:=0
def te590924331321282763:=0
def te9915928893312571137:=0
def te5336376650037167066:=0
def te15392604202465853816:=0
def te3071481490125103709:=0
def te14246795253337346300:=0
def te9470515326795691117:=0
def te5354723252769186833:=0
def te4577328698392199161:=0
def te1324317012190256844:=0
def te6307776089275536348:=0
def te8053867840198328853:=0
def te6755045986602730955:=0
def te11520538988057032969:=0
def te16487513927882520761:=0
def te8792282191465154584:=0
def te4582074852339018724:=0
def te2027480441507563630:=0
def te4833922196361373802:=0
def te5147062021773188034:=0
def te12926016948669322678:=0
def te14045542039672090994:=0
def te1000319321422745004:=0
def te13326436020582142100:=0
def te777698227164689833:=0
def te1723481480431786335:=0
def te5230678448671808784:=0
def te11558806403891721701:=0
def te9988115190572256353:=0
def te7341498973401102860:=0
def te10847939943387026934:=0
def te10770759128964322538:=0
def te2341598508311125809:=0
def te15344654179746589723:=0
def te7087031993281211067:=0
def te12855980774960492915:=0
def te3335169440357256194:=0
def te6421710659587422607:=0
def te7024682266324215728:=0
def te1126460444993653914:=0
def te4562052091451318645:=0
def te7143348552575328988:=0
def te9958375412036122525:=0
def te4028482575094943752:=0
def te15054902812934057552:=0
def te1051267654184322225:=0
def te14284254342241613528:=0
def te16415926343665808052:=0
def te12813057901319448270:=0
def te1991112244526132179:=0
def te10152643698475956362:=0
def te2286604594242684841:=0
def te6685486114264264813:=0
def te12307770739608213121:=0
def te10713883506608281057:=0
def te16785915632151156998:=0
def te18329155497358071321:=0
def te1452655034446661871:=0
def te2534297570903588436:=0
def te734184549049974658:=0
def te15873792819573981522:=0
def te2768121862114275015:=0
def te6969794960584939146:=0
def te15053929462840697840:=0
def te8724202310679101121:=0
def te7296724380691763706:=0
def te657811317803979712:=0
def te2404732340907021470:=0
def te15138304989490289608:=0
def te6411654708159803003:=0
def te16350289037279945006:=0
def te2901293699447432837:=0
def te945584750044378674:=0
def te5381451218966239357:=0
def te10696595106500220722:=0
def te13267183009419427063:=0
def te9722320929228102271:=0
def te779879967465939221:=0
def te5459349196773561743:=0
def te18053463276585544510:=0
def te15452527351073548823:=0
def te18142053495975434724:=0
def te8692601994187273179:=0
def te281017317946361297:=0
def te8687777586672087953:=0
def te11805459923624704051:=0
def te18178791705435221809:=0
def te10707644299050422348:=0
def te17698195296455519878:=0
def te15747886762708415351:=0
def te2664545164047113305:=0
def te12558959280967872292:=0
def te3628669078315674505:=0
def te5431945005217210776:=0
def te1885958334986761540:=0
def te5231033357839419198:=0
def te10738611822770143905:=0
def te7327730360007233658:=0
def te16437775787909317707:=0
def te18358213246139974182:=0
def te15041574795066128005:=0
def te17796556772283057687:=0
def te5173044757768638817:=0
def te1394904764503620947:=0
def te13146837588500017500:=0
def te4309308775680513022:=0
def te10088441022451493100:=0
def te3804869810040550105:=0
def te1881384638984021476:=0
def te2436993447324807780:=0
def te7255457502882832497:=0
def te5885273559367634749:=0
def te7690930769451619621:=0
def te4677894542737396435:=0
def te8303962978955677888:=0
def te754803629480463501:=0
def te15196370774901548656:=0
def te7356819082485649713:=0
def te5736263291289138000:=0
def te18344491683455714700:=0
def te4651469548601567687:=0
def te10471003907639298813:=0
def te1123433233244265752:=0
def te6445552959195965448:=0
def te17943615280544223790:=0
def te10473857107278706684:=0
def te17907735497312230528:=0
def te8363364132717494192:=0
def te6585172159431808871:=0
def te69189258059679425:=0
def te972627466043482298:=0
def te857039113956347678:=0
def te14651553092227537816:=0
def te18320396368691966721:=0
def te10733562673751772509:=0
def te16827794183756612544:=0
def te6598478151735414958:=0
def te6199698415056348181:=0
def te375490693515635668:=0
def te11771972187686782623:=0
def te2093293168881230249:=0
def te1337594169749133975:=0
def te16889818726089872916:=0
def te8147867893506489712:=0
def te8651522328388172596:=0
def te10568310951962166928:=0
def te13764067483490128488:=0
def te9507662146870237052:=0
def te4397890860178834770:=0
def te18384636973440995012:=0
def te1283032158062733003:=0
def te11973960198486281922:=0
def te14724777961020275854:=0
def te359322276815676979:=0
def te9480248986340393514:=0
def te13756779892255268568:=0
def te903548874109503710:=0
def te4590688106474326469:=0
def te14383943217792383034:=0
def te17207942704400861092:=0
def te7006270152581944394:=0
def te7698878536769217869:=0
def te12784919317862042435:=0
def te1618297614887805731:=0
def te2151568129277093264:=0
def te13724198686581817557:=0
def te7062053980123781040:=0
def te10545920719252640600:=0
def te9380166786211545370:=0
def te15844987093656418822:=0
def te6839439134368330262:=0
def te3245625084569401036:=0
def te15911822049746661198:=0
def te1112443369823130809:=0
def te14132282535031812332:=0
def te9255140759307861042:=0
def te3052671739388335060:=0
def te16894994759723502318:=0
def te16186651530518153699:=0
def te12979423900593467648:=0
def te5653497179698444653:=0
def te15937802457491013114:=0
def te6746289662309622758:=0
def te4337705220505570703:=0
def te11586248434836892478:=0
def te8755315533937402549:=0
def te17593532910596733809:=0
def te13903805086840422003:=0
def te13238108411717612507:=0
def te336136791924165550:=0
def te12424844269228755741:=0
def te3413701729328600920:=0
def te598248310579003177:=0
def te4452344333007010272:=0
def te6552884383014480620:=0
def te10759461754417376894:=0
def te1789324424011821846:=0
def te16617922948537149299:=0
def te5843053086777865128:=0
def te2432800578294881612:=0
def te2188984123338194300:=0
def te16994768185074651075:=0
def te18284848237300516337:=0
def te12215589142842939256:=0
def te5281969859392559089:=0
def te6032396884755235056:=0
def te2288444986124545543:=0
def te5825046081386312697:=0
def te16470264968328616151:=0
def te10687513509651521667:=0
def te9898952604792175935:=0
def te9198400371609956054:=0
def te1981554325402785072:=0
def te10538098546802589671:=0
def te878496262619668409:=0
def te2182660671399906069:=0
def te13176969675422931121:=0
def te13632853485806625537:=0
def te2328869394365722579:=0
def te10827189621325852127:=0
def te4293494268888834413:=0
def te10216847175060156320:=0
def te7853108318135193209:=0
def te12688126802882342288:=0
def te7672106568666227627:=0
def te13694045392250098020:=0
def te16430905750166479930:=0
def te5883746490801362617:=0
def te5253464375225099478:=0
def te3538072785206940466:=0
def te2236349189739171166:=0
def te13294161714943443073:=0
def te10218165980311160933:=0
def te6445527760471805068:=0
def te1075275065871100136:=0
def te17496394719980322852:=0
def te9763428187650450735:=0
def te8004750174083825018:=0
def te12338629746907376773:=0
def te12491138176161442036:=0
def te990454461565707078:=0
def te9441368797239733917:=0
def te11204024219507282851:=0
def te2163068095518811329:=0
def te10560217519296794900:=0
def te11049653844751992432:=0
def te891228499896950549:=0
def te9666280236635982641:=0
def te2112389128516177256:=0
def te9595857958669655581:=0
def te7355548000426247324:=0
def te11311904303176613134:=0
def te14286888921776657625:=0
def te9564453988423150884:=0
def te18318944638556696542:=0
def te5014477381156003484:=0
def te12642134898882944274:=0
def te13403540273018405304:=0
def te370838109697133129:=0
def te9434243031724788871:=0
def te10889549466524145710:=0
def te16930699789606307738:=0
def te15919029258744192784:=0
def te15201603720624620442:=0
def te3169483709894515003:=0
def te15927305520439730096:=0
def te9019247649303399275:=0
def te11392149434765887489:=0
def te9113128802527105740:=0
def te14329127563363434614:=0
def te8613496184901328681:=0
def te15451708496034476794:=0
def te1549933161582497644:=0
def te15518224442839103391:=0
def te17351428893881820236:=0
def te12890493594397036265:=0
def te10662220766593889590:=0
def te7304934290698463977:=0
def te3381006115511106971:=0
def te11099947155704602072:=0
def te608536000093247250:=0
def te4549944723085164867:=0
def te3810736364198070141:=0
def te15419049976175847343:=0
def te10324182084646251449:=0
def te10417425590478916455:=0
def te2207925683095131439:=0
def te15575901093092009561:=0
def te7809473126987273571:=0
def te7422141655667685473:=0
def te14219364188919307108:=0
def te4539983414981011923:=0
def te13323783428431180655:=0
def te7721674485658370661:=0
def te12989328022528363001:=0
def te6027666655345510589:=0
def te6024597978779362704:=0
def te9593209500185393950:=0
def te4675531156693852579:=0
def te5153904668787479314:=0
def te547043141382339472:=0
def te10894059167934838648:=0
def te4026875581852019075:=0
def te9901393428686692797:=0
def te4305137872528409896:=0
def te12534389939360765065:=0
def te16803816135420207005:=0
def te7507210089004680718:=0
def te3805754111812363100:=0
def te11552870701587947919:=0
def te13522143385842639727:=0
def te10985143523990475853:=0
def te14337190158090505695:=0
def te11579759709974020075:=0
def te17072563312375210524:=0
def te1419249346811242269:=0
def te10987673509107568738:=0
def te15686343131729313592:=0
def te3511633062890357938:=0
def te1995143104531700353:=0
def te1984251248412786647:=0
def te16525002365272070172:=0
def te137713407935909307:=0
def te1594443734759078592:=0
def te15321266913154930504:=0
def te7092047918350044694:=0
def te10161718535157900525:=0
def te4308210506117555727:=0
def te1255663364985615715:=0
def te3238370579237094588:=0
def te6426493800929510673:=0
def te5952725536199931335:=0
def te11463588843250624145:=0
def te16116056552096815845:=0
def te14585522166054552543:=0
def te16715787170510231146:=0
def te12124182903700684925:=0
def te8595720541583311987:=0
def te10155764075316558128:=0
def te16514598961889225541:=0
def te15641735895136305005:=0
def te16651506573603935714:=0
def te2846915789716571009:=0
def te7319957769125175116:=0
def te12800805826947493989:=0
def te13488740593432322050:=0
def te12015560733784858535:=0
def te14949728243725594389:=0
def te4655924049588833813:=0
def te14747175519902512212:=0
def te15843176453434447175:=0
def te10935454312866278415:=0
def te1153658780073125287:=0
def te8739029176118378928:=0
def te11310138226549478998:=0
def te3649591877924698831:=0
def te13605054779257833501:=0
def te17846911486343677347:=0
def te18142122211813497014:=0
def te3103391133714375287:=0
def te5743470025863875514:=0
def te4869040589881071929:=0
def te15847511758479954115:=0
def te14640736591389895927:=0
def te10613553440312466728:=0
def te765031205909832151:=0
def te3709363022702947632:=0
def te7881428757681667436:=0
def te12969415531922623416:=0
def te3196891979742594680:=0
def te6965930832757649508:=0
def te3992041157228243997:=0
def te10672834866202025834:=0
def te16232699235433853435:=0
def te5299016445134512731:=0
def te18296952486756149848:=0
def te10699850765507525103:=0
def te8433858579415126793:=0
def te13476360819920232878:=0
def te11060510280755776882:=0
def te10281836139470280414:=0
def te14531305004623004670:=0
def te14950466384579072809:=0
def te6619133039158741616:=0
def te15543191832737868731:=0
def te14392703903074708803:=0
def te16246702245129215659:=0
end PySem.W.Fast
open PySem PySem.W PyProof.Rows
set_option maxHeartbeats 0 in
theorem PySem.Challenge.cw_oneslate_k46_whole_house_of_parts_holds : PySem.Challenge.rw_oneslate_k46_whole_house_of_parts.Holds := by
 w_on;o_law;k_head;(case hw=>w_witness2)
 k_fill
 refine aC.agT (l:=PySem.Challenge.rw_oneslate_k46_whole_house_of_parts) (k:=27) ["highest","with_cell","with_doing","with_page"] rfl rfl ⟨rfl,by decide,by decide⟩ ?aiv ?aiu (λw h Y=>PySem.W.km_in_of Y) ?F
 case aiv=>
  intro x ag
  repeat (rcases alj.mp ag with rfl|ag;· exact⟨_,rfl⟩)
  cases ag
 case aiu=>exact λp=>by kernel_rfl
 case F=>
  intro w mg fa h er G v_
  have oo:aC.mR (aA.iF er) mg "Asker" dW.Ab:=by
   dsimp only[aA.iF]
   refine' aC.JR er G ?a ?kH ?hd ?po ?mC ?mk ?wk ?na
   (case a=>k_is);(case kH=>k_is);(case hd=>k_is);(case po=>k_is);(case mC=>k_is);(case mk=>k_is);(case wk=>k_is)
   case na=>
    simp only[alT]
    repeat (refine⟨by k_is,?_⟩)
    exact λ_ h=>nomatch h
  have oq:aC.mR (aA.iF er) mg "House" dW.Ac:=by
   dsimp only[aA.iF]
   refine' aC.JR er G ?a ?kH ?hd ?po ?mC ?mk ?wk ?na
   (case a=>k_is);(case kH=>k_is);(case hd=>k_is);(case po=>k_is);(case mC=>k_is);(case mk=>k_is);(case wk=>k_is)
   case na=>
    simp only[alT]
    repeat (refine⟨by k_is,?_⟩)
    exact λ_ h=>nomatch h
  have CO:aA.g7 (aA.iF er) mg "law" dW.xo ["script"]:=by
   dsimp only[aA.iF]
   refine' aC.LO er G ?a ?l ?c ?k (λ_ _ _ _ _ _=>aC.pL λ_=>rfl)
   (case a=>k_is);(case l=>k_is);(case c=>k_is);(case k=>k_is)
  letI:aA.a0:=aC.uX (aA.iF er) ["highest","with_cell","with_doing","with_page"]
  have Ej:aC.KTab PySem.Challenge.rw_oneslate_k46_whole_house_of_parts.prog w (aA.iF er) mg "FORMS" dW.zu:=by
   dsimp only[aA.iF]
   refine' aC.aaj er G ?a ?s ?l ?k ?f
   (case a=>k_is);(case s=>decide);(case l=>k_is)
   case k=>
    intro e he
    repeat (rcases alj.mp he with rfl|he;· first|exact⟨"put",rfl,rfl⟩|exact⟨"add",rfl,rfl⟩|exact⟨"swap",rfl,rfl⟩|exact⟨"take",rfl,rfl⟩|exact⟨"renew",rfl,rfl⟩|exact⟨"free",rfl,rfl⟩|exact⟨"sure",rfl,rfl⟩|exact⟨"move",rfl,rfl⟩|exact⟨"end",rfl,rfl⟩)
    cases he
   case f=>exact⟨_,_,rfl,⟨_,rfl⟩,(aC.oT (xs:=["name","number"]) (by k_is) (by decide +kernel) (by exact⟨_,_,rfl,⟨_,_,rfl,rfl⟩⟩)),⟨_,_,rfl,⟨_,rfl⟩,(aC.oT (xs:=["name","number"]) (by k_is) (by decide +kernel) (by exact⟨_,_,rfl,⟨_,_,rfl,rfl⟩⟩)),⟨_,_,rfl,⟨_,rfl⟩,(aC.oT (xs:=["name","number","number"]) (by k_is) (by decide +kernel) (by exact⟨_,_,rfl,⟨_,_,rfl,⟨_,_,rfl,rfl⟩⟩⟩)),⟨_,_,rfl,⟨_,rfl⟩,(aC.oT (xs:=["fence"]) (by k_is) (by decide +kernel) (by exact⟨_,_,rfl,rfl⟩)),⟨_,_,rfl,⟨_,rfl⟩,(aC.oT (xs:=["fence"]) (by k_is) (by decide +kernel) (by exact⟨_,_,rfl,rfl⟩)),⟨_,_,rfl,⟨_,rfl⟩,(aC.oT (xs:=["fence"]) (by k_is) (by decide +kernel) (by exact⟨_,_,rfl,rfl⟩)),⟨_,_,rfl,⟨_,rfl⟩,(aC.oT (xs:=["fence","name","number"]) (by k_is) (by decide +kernel) (by exact⟨_,_,rfl,⟨_,_,rfl,⟨_,_,rfl,rfl⟩⟩⟩)),⟨_,_,rfl,⟨_,rfl⟩,(aC.oT (xs:=["hall"]) (by k_is) (by decide +kernel) (by exact⟨_,_,rfl,rfl⟩)),⟨_,_,rfl,⟨_,rfl⟩,(aC.oT (xs:=[]) (by k_is) (by decide +kernel) (by exact rfl)),rfl⟩⟩⟩⟩⟩⟩⟩⟩⟩
  have AL:aC.ve PySem.Challenge.rw_oneslate_k46_whole_house_of_parts.prog w (aA.iF er) mg "DOERS" dW.hy:=by
   dsimp only[aA.iF]
   refine' aC.Vv er G ?a ?l ?k ?f
   (case a=>k_is);(case l=>k_is)
   case k=>
    intro e he
    repeat (rcases alj.mp he with rfl|he;· first|exact⟨"put",rfl,rfl⟩|exact⟨"add",rfl,rfl⟩|exact⟨"swap",rfl,rfl⟩|exact⟨"take",rfl,rfl⟩|exact⟨"renew",rfl,rfl⟩|exact⟨"free",rfl,rfl⟩|exact⟨"sure",rfl,rfl⟩|exact⟨"move",rfl,rfl⟩|exact⟨"end",rfl,rfl⟩)
    cases he
   case f=>
    simp only[alT]
    repeat (refine⟨⟨_,by k_is,by k_is⟩,?_⟩)
    exact λ_ h=>nomatch h
  have Ex:=by
   refine' aC.zD (x:="highest") (st:=dW.Qp) (ln:=["highest","with_cell","with_doing","with_page"]) er G ?o' ?rf ?nL ?dh ?dG ?se ?aq ?aE ?cX ?eO ?k8 ?oy ?nn ?ii
   (case o'=>decide);(case rf=>k_is);(case nL=>k_is);(case dh=>exact rfl);(case dG=>k_is);(case se=>exact rfl);(case aq=>exact rfl);(case aE=>exact rfl);(case cX=>exact rfl);(case eO=>exact rfl);(case k8=>exact rfl);(case oy=>exact rfl);(case nn=>decide)
   case ii=>
    intro y aO bJ
    repeat (rcases alj.mp aO with rfl|aO;· first|rfl|(refine' aC.z' ?bB ?bY bJ;(case bB=>refine' aC.xC ?a1 ?a2 ?gy ?h1 ?i4;(case a1=>k_is);(case a2=>k_is);(case gy=>exact rfl);(case h1=>k_is);(case i4=>exact rfl));(case bY=>decide)))
    cases aO
  have EB:=by
   refine' aC.zD (x:="with_cell") (st:=dW.Ge) (ln:=["highest","with_cell","with_doing","with_page"]) er G ?o' ?rf ?nL ?dh ?dG ?se ?aq ?aE ?cX ?eO ?k8 ?oy ?nn ?ii
   (case o'=>decide);(case rf=>k_is);(case nL=>k_is);(case dh=>exact rfl);(case dG=>k_is);(case se=>exact rfl);(case aq=>exact rfl);(case aE=>exact rfl);(case cX=>exact rfl);(case eO=>exact rfl);(case k8=>exact rfl);(case oy=>exact rfl);(case nn=>decide)
   case ii=>
    intro y aO bJ
    repeat (rcases alj.mp aO with rfl|aO;· first|rfl|(refine' aC.z' ?bB ?bY bJ;(case bB=>refine' aC.xC ?a1 ?a2 ?gy ?h1 ?i4;(case a1=>k_is);(case a2=>k_is);(case gy=>exact rfl);(case h1=>k_is);(case i4=>exact rfl));(case bY=>decide)))
    cases aO
  have EC:=by
   refine' aC.zD (x:="with_doing") (st:=dW.Gf) (ln:=["highest","with_cell","with_doing","with_page"]) er G ?o' ?rf ?nL ?dh ?dG ?se ?aq ?aE ?cX ?eO ?k8 ?oy ?nn ?ii
   (case o'=>decide);(case rf=>k_is);(case nL=>k_is);(case dh=>exact rfl);(case dG=>k_is);(case se=>exact rfl);(case aq=>exact rfl);(case aE=>exact rfl);(case cX=>exact rfl);(case eO=>exact rfl);(case k8=>exact rfl);(case oy=>exact rfl);(case nn=>decide)
   case ii=>
    intro y aO bJ
    repeat (rcases alj.mp aO with rfl|aO;· first|rfl|(refine' aC.z' ?bB ?bY bJ;(case bB=>refine' aC.xC ?a1 ?a2 ?gy ?h1 ?i4;(case a1=>k_is);(case a2=>k_is);(case gy=>exact rfl);(case h1=>k_is);(case i4=>exact rfl));(case bY=>decide)))
    cases aO
  have ED:=by
   refine' aC.zD (x:="with_page") (st:=dW.Gg) (ln:=["highest","with_cell","with_doing","with_page"]) er G ?o' ?rf ?nL ?dh ?dG ?se ?aq ?aE ?cX ?eO ?k8 ?oy ?nn ?ii
   (case o'=>decide);(case rf=>k_is);(case nL=>k_is);(case dh=>exact rfl);(case dG=>k_is);(case se=>exact rfl);(case aq=>exact rfl);(case aE=>exact rfl);(case cX=>exact rfl);(case eO=>exact rfl);(case k8=>exact rfl);(case oy=>exact rfl);(case nn=>decide)
   case ii=>
    intro y aO bJ
    repeat (rcases alj.mp aO with rfl|aO;· first|rfl|(refine' aC.z' ?bB ?bY bJ;(case bB=>refine' aC.xC ?a1 ?a2 ?gy ?h1 ?i4;(case a1=>k_is);(case a2=>k_is);(case gy=>exact rfl);(case h1=>k_is);(case i4=>exact rfl));(case bY=>decide)))
    cases aO
  have kt:aA.ya (aA.iF er):=aA.aae _
  have Ru:aC.G9 mg:=by constructor<;>exact PySem.W.mg_none_of er G (by k_is)
  refine aC.R5 v_ CO (λ_ _ _ _ _ _ _=>rfl) (λbase TM f fd F=>aC.aas (dW.Fx ⟨?_,?_,?_,?_,?_,?_,?_,?_,?_,?_,?_,?_,?_,?_,?_,?_,?_,?_,?_,?_,?_,?_,?_,?_,?_,?_,?_,?_,?_,?_,?_,?_,?_,?_,?_,?_,?_,?_,?_,?_,?_,?_,?_,?_,?_,?_,?_,?_,?_,?_,?_,?_,?_,?_,?_,?_,?_,?_,?_,?_,?_,?_,?_,?_,?_,?_,?_,?_,?_,?_,?_,?_,?_,?_,?_,?_,?_,?_,?_,?_,?_,?_,?_,?_,?_,?_,?_,?_,?_,?_,?_,?_,?_,?_,?_,?_,?_,?_,?_,?_,?_,?_,?_,?_,?_,?_,?_,?_,?_,?_,CO,oo,oq,?_,?_,?_,?_,?_,?_,?_,?_,AL,Ej,Ex,EB,EC,ED,TM,Ru,kt⟩ F) dW.aax)
  all_goals first
  |(refine' ⟨_,PySem.W.mg_of er G ?a,?b⟩;(case a=>k_is);(case b=>first|exact rfl|exact⟨_,rfl⟩))
  |((try dsimp only[aA.iF]);refine' ⟨aC.LO er G ?a ?l ?c ?k (λ_ _ _ _ _ _=>by first|exact aC.QV rfl|exact aC.pL λ_=>rfl|exact aC.qQ λ_ _=>rfl|exact aC.qR λ_ _ _=>rfl|exact aC.AX λ_ _ _ _=>rfl|exact aC.AY λ_ _ _ _ _=>rfl|exact aC.AZ λ_ _ _ _ _ _=>rfl|exact aC.GI λ_ _ _ _ _ _ _=>rfl),aC.tm (by kernel_rfl)⟩;(case a=>k_is);(case l=>k_is);(case c=>k_is);(case k=>k_is))
  |(dsimp only[aA.iF]at oo ⊢;refine' ⟨aC.LP er G oo ?a ?f ?i ?l ?c ?k (λ_ _ _ _ _ _=>by first|exact aC.pL λ_=>rfl|exact aC.qQ λ_ _=>rfl|exact aC.qR λ_ _ _=>rfl|exact aC.AX λ_ _ _ _=>rfl|exact aC.AY λ_ _ _ _ _=>rfl|exact aC.AZ λ_ _ _ _ _ _=>rfl|exact aC.GI λ_ _ _ _ _ _ _=>rfl),aC.tm (by kernel_rfl)⟩;(case a=>k_is);(case f=>k_is);(case i=>k_is);(case l=>k_is);(case c=>k_is);(case k=>k_is))
  |(dsimp only[aA.iF]at oq ⊢;refine' ⟨aC.LP er G oq ?a ?f ?i ?l ?c ?k (λ_ _ _ _ _ _=>by first|exact aC.pL λ_=>rfl|exact aC.qQ λ_ _=>rfl|exact aC.qR λ_ _ _=>rfl|exact aC.AX λ_ _ _ _=>rfl|exact aC.AY λ_ _ _ _ _=>rfl|exact aC.AZ λ_ _ _ _ _ _=>rfl|exact aC.GI λ_ _ _ _ _ _ _=>rfl),aC.tm (by kernel_rfl)⟩;(case a=>k_is);(case f=>k_is);(case i=>k_is);(case l=>k_is);(case c=>k_is);(case k=>k_is))
  |(dsimp only[aA.iF]at oo ⊢;refine' ⟨aC.LQ er G oo ?a ?f ?i ?l ?t ?c ?k rfl (λ_ _ _ _ _ _=>by first|exact aC.pL λ_=>⟨_,rfl,rfl⟩|exact aC.qQ λ_ _=>⟨_,rfl,rfl⟩|exact aC.qR λ_ _ _=>⟨_,rfl,rfl⟩) (λ_ _ _ _ _ _=>by first|exact aC.pL λ_=>⟨_,rfl,rfl⟩|exact aC.qQ λ_ _=>⟨_,rfl,rfl⟩|exact aC.qR λ_ _ _=>⟨_,rfl,rfl⟩),aC.tm (by kernel_rfl)⟩;(case a=>k_is);(case f=>k_is);(case i=>k_is);(case l=>k_is);(case t=>k_is);(case c=>k_is);(case k=>k_is))
  |(dsimp only[aA.iF]at oq ⊢;refine' ⟨aC.LQ er G oq ?a ?f ?i ?l ?t ?c ?k rfl (λ_ _ _ _ _ _=>by first|exact aC.pL λ_=>⟨_,rfl,rfl⟩|exact aC.qQ λ_ _=>⟨_,rfl,rfl⟩|exact aC.qR λ_ _ _=>⟨_,rfl,rfl⟩) (λ_ _ _ _ _ _=>by first|exact aC.pL λ_=>⟨_,rfl,rfl⟩|exact aC.qQ λ_ _=>⟨_,rfl,rfl⟩|exact aC.qR λ_ _ _=>⟨_,rfl,rfl⟩),aC.tm (by kernel_rfl)⟩;(case a=>k_is);(case f=>k_is);(case i=>k_is);(case l=>k_is);(case t=>k_is);(case c=>k_is);(case k=>k_is))
