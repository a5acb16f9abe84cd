import PyProof.Rows.All
import Wide.All
import OpenK.AllK
import Wide.FinOn
import Lean
import PyProof.EqAt
import PyProof.EqKinds
import PyProof.TupleCall
import KE.KSortTup
import PyProof.ZipIter
import KE.KMinKey
import KE.KRevSl
import PyProof.Rows.EnumRows
import PyProof.EnumStmt
import PyProof.ListRange
import KE.KIntText
import PySem.Challenge.RW_oneslate_k42_a_history
set_option Elab.async false
set_option linter.all false
set_option maxRecDepth 100000
set_option bootstrap.genMatcherCode false
open Array renaming length_toList->alk,getElem?_toList->anT,toArray_toList->an2
open Bool renaming false_ne_true->akD,and_eq_true->ak0,eq_iff_iff->ama,false_eq_true->anv,or_eq_true->ao4,and_true->api
open False renaming elim->alf
open ForInStep renaming yield->an1
open Int renaming toNat_natCast->am7,fdiv_eq_ediv_of_nonneg->aou
open List renaming getElem?_eq_some_iff->akw,length_map->akz,length_append->akB,getElem?_set_ne->akF,size_toArray->akH,replicate->akI,getElem?_eq_getElem->akJ,mem_cons_of_mem->akL,getElem?_map->akN,map_cons->akO,mem_cons->akP,lookup_cons->akQ,range->akR,mem_cons_self->akS,getElem?_set_self->akU,getElem?_append_left->akV,getElem?_append_right->akX,mem_singleton->akY,mem_map->ak5,mem_of_getElem?->ak7,length_set->ak8,length_cons->alb,all_eq_true->alg,mem_range->ali,forall_mem_cons->aln,not_mem_nil->alo,mem_append->alp,mem_append_right->alq,length_replicate->alr,nodup_cons->alx,length_singleton->aly,length_drop->alE,getD_eq_getElem?_getD->alJ,mem_filter->alN,append_nil->alO,length_nil->alQ,length_take->alT,take_of_length_le->alV,length_range->alZ,map_append->al1,getElem?_replicate->al8,replicate_succ->amb,getElem?_range->amc,lookup->amf,getElem_mem->ami,pairwise_cons->amk,length_filter_le->aml,mem_of_find?_eq_some->amm,length->amn,map_map->amq,flatten_cons->amH,append_assoc->amI,mem_map_of_mem->amU,length_eq_zero_iff->amW,find?_cons_of_pos->am4,find?_cons_of_neg->am5,pairwise_map->am8,all_cons->anf,nodup_iff_pairwise_ne->anh,map_congr_left->anj,of_mem_zip->ank,find?_some->anm,mem_or_eq_of_mem_set->anp,prefix_append->anu,zip_cons_cons->anw,nodup_append->anA,any_eq_true->anM,prefix_refl->anN,filter_cons->anO,take_length->anP,mem_iff_getElem?->anW,all_append->an9,eq_nil_of_length_eq_zero->aoa,filterMap_cons->aob,filter_sublist->aoc,drop_drop->aoe,drop_zero->aoh,nodup_nil->aoj,countP_eq_length_filter->aol,any_cons->aox,take_add_one->aoD,ext_getElem?->aoE,foldl_cons->ao0,forIn_cons->ao2,drop_eq_nil_of_le->ao8,take_zero->ao9,take_nil->aph
open List.Nodup renaming length_le_of_subset->al3
open List.Pairwise renaming imp->apu
open Nat renaming le_refl->akE,lt_of_lt_of_le->ala,ne_of_lt->alc,le_trans->ald,le_of_ble_eq_true->ale,zero_le->alh,lt_irrefl->als,not_lt_zero->al2,le_of_lt->ame,zero_add->amQ,sub_self->amR,le_add_right->amT,min_eq_left->ano,le_of_eq->ans,lt_succ_self->anL,pow_le_pow_right->an8,le_succ->aom
open Ne renaming symm->am9
open Option renaming map_eq_some_iff->anD,isSome_iff_exists->aoR,bind_eq_some_iff->aoX
open Option.some renaming inj->ak1,injEq->aps
open Or renaming inr->alA,inl->amw
open PyProof.Rows renaming seqObj->alB,envOfC->alF,slot_tuple_getitem->alH,callWith_type1->alR,KeyOrd->amd,IntsAre->amM,get?_update_seq->am1,envOfC->anc,AllBare->anQ,listUpdate_at->aoz,KeyKind->apf,strKind->apg
open PySem renaming wpAny_bind->akv,starEach->akx,sizeLine->akA,Shared->akC,wpAny_pure->akG,Program->akZ,sizeLine_eq->ak2,backTo->ak3,Around->ak4,mainGlobals->ak9,compareOp->alj,bootBuiltins->alm,wpAny_mono->alu,assignEach->alw,foldedSetIterable->alz,wpAny_truthy_bool->alG,FuncData->alI,keywordEach->alK,wpAny_field->alP,wpAny_Call_Name_kw->alS,holding->alU,wpAny_seqItems->alW,mem_of_lookup->al0,wpAny_holding->al5,wpAny_callSpecial?_slot->al9,attributeBase->amg,backToKw->amh,swapsWith->amj,binaryOp->amo,wpAny_newObj_type->amt,behindInMarks->amu,getMethod->amy,wpAny_setField_rec->amA,standAt->amB,wpAny_passesOwn->amC,rawInt->amF,wpAny_pyIter_list->amG,sliceBounds->amL,bindArgs->amN,wpAny_call_entry->amO,IsPair->amS,assign->amY,wpAny_pyIter_tuple->amZ,closureFor->am0,callWith->am2,NameKind->am3,wpAny_letGo->am6,codeAny_mono->anb,wpAny_tryCatch->ane,codeAny->ani,pyNext->anr,Arguments->ant,Keyword->anz,IsPart->anB,richCompare_meets_room->anF,wpAny_standAt->anI,strKind->anK,getItem->anR,codeAmong->anS,DictEntry->anU,seqItems?->anV,wpAny_execs_nil->anY,letOwnedTupleGo->anZ,wpAny_updateSeq_pair->an4,wpAny_updateSeq->an6,Builtin->aog,PassesOwn->aon,findBy->aoo,wpAny_onRaise->aoA,plainId_quiet->aoB,builtinsNs->aoG,call_meets->aoI,wpAny_rule->aoJ,defaultsOf->aoK,callerA->aoN,TriplesOk->ao1,codeAny_builtin->ao3,subscripted->ao6
open PySem.Around renaming under_plainId->an5,under->apo
open PySem.AutoSeq1 renaming sub_tuple_tuple->aoS,wpAny_loadPart'->aoU
open PySem.BindsTo renaming of_defaults->apj
open PySem.Builtin renaming bitNot->alY,bitAnd->al6,bitOr->anJ
open PySem.Builtin.Builtins renaming bindParams->aos
open PySem.Builtin.Int renaming intBits->alL,intTooBig->apa
open PySem.Builtin.List renaming listTooLong->al4
open PySem.Builtin.Slice renaming slicePlaces->amJ,sliceAdjust->anl,sliceApplied->aov
open PySem.Builtin.SmallTypes renaming nextOf->alC,ownedTupleIsFree->al7,ownedTupleHandOut->anx
open PySem.Builtin.Str renaming strSliceIndices->amz,occurrences->amV
open PySem.Builtin.Tuple renaming tupleExact->amP,tupleItemsOf->aow
open PySem.Calls renaming callWith_builtin->anC,spliced_cons->aop,Name_function_global->aot,spliced_nil->aoC
open PySem.F renaming plain_max_loop->alX,slot_list_append->amr,type_list_append->ams,slot_tuple_iterator_next->amE,entry_max_loop->anH,slot_zip_next->an3,args_tuple_iterator_next_1->aoi,entry_tuple_iterator_next->aor,slot_list_extend->aoV,type_list_extend->aoW,plainAttrs_list->aoY,slot_dict_get->apb
open PySem.Heap renaming get?_push_of_some->aky,get?_push_size->akK,lt_size->akM,size_push->ana,SameBut->aoO,IsTuple->aoT,get?_update_other->ao7
open PySem.Heap.IsTuple renaming push->apt
open PySem.Heap.SameBut renaming update->alM
open PySem.NameKind renaming free->ang,cell->aoy
open PySem.Obj renaming mapSeq->ak6
open PySem.PassesOwn renaming never->an7
open PySem.PyData renaming strOk->akW,eqv->apd
open PySem.SeqAt renaming shaped->apr
open PySem.SeqAt.EqAt renaming int_str->apm,str_int->apn,int_int->apq
open PySem.Shared renaming heap->anG
open PySem.Str renaming ofString->akT
open PySem.Txt renaming find->aok
open PySem.Value renaming ref->alv,isStrOf->alD,none->amX,bool->aoF,type->apc,int->apk,str->apl
open PySem.W renaming fnOf->amv,keepIn->amx,findIn->amD,emptyDict->amK,instObj->anq,nsIn->anE,codeIn->aod,mg_of->aof,kia_one->aoq,plainGet->aoH,callWith_K->aoP,cellsFrom_some->aoQ,methodCall_KW->aoZ,hasDictIn->ao5
open PySem.Walks renaming list->ape
open Sum renaming inl->aoL,inr->aoM
open True renaming intro->an0
abbrev v0:List PySem.Str:=["self"]
abbrev o0:List PySem.Str:=["thing"]
abbrev T0:List PySem.Str:=["slate","asker","deed"]
abbrev M2:List PySem.Str:=["self","asker"]
abbrev P3:List PySem.Str:=["slate"]
abbrev v4:List PySem.Str:=["self","letter"]
abbrev v6:List PySem.Str:=["slate","fence","tenant"]
abbrev u8:List PySem.Str:=["book","letter"]
abbrev f8:List PySem.Str:=["asker","keeper","epoch","stamp","load"]
abbrev aM:=PySem.W.Frag
abbrev bl:=PySem.Str->Option PySem.Value
abbrev dk:=PySem.Value->PySem.Shared->Prop
abbrev c3:=List (PySem.Addr×PySem.Obj)
noncomputable section
namespace aC
open PySem PySem.Spec PyProof.Rows
abbrev Key:=Sum Int Str
def M6:Key->Value->Bool
 |.inl k,v=>Value.isInt k v|.inr x,v=>alD x v
def Y5(w:World):Key->Int
 |.inl k=>hashInt k|.inr x=>hashStr w x
def oo:∀{k:Key}{v:Value},M6 k v=true->(∃i t,k=aoL i/\v=apk i t)\/(∃x t,k=aoM x/\v=apl x t)
 |.inl i,v,h=>by
  obtain⟨t,e⟩:=Value.isInt_shape (k:=i) (v:=v) h;exact .inl ⟨i,t,rfl,e⟩
 |.inr x,v,h=>by
  obtain⟨t,e⟩:=Value.isStrOf_shape (x:=x) (v:=v) h;exact .inr ⟨x,t,rfl,e⟩
def Y6(a b:Int):decide ((aoL a:Key)=aoL b)=(a==b):=by
 by_cases e:a=b
 .subst e;simp
 .have h:¬(aoL a:Key)=aoL b:=λq=>e (Sum.inl.inj q)
  rw[decide_eq_false h];exact(beq_eq_false_iff_ne.mpr e).symm
def Y9(a b:Str):decide ((aoM a:Key)=aoM b)=decide (a=b):=by
 by_cases e:a=b
 .subst e;simp
 .have h:¬(aoM a:Key)=aoM b:=λq=>e (Sum.inr.inj q)
  rw[decide_eq_false h,decide_eq_false e]
def Y7(a:Int)(b:Str):decide ((aoL a:Key)=aoM b)=false:=decide_eq_false (λq=>nomatch q)
def Y8(a:Str)(b:Int):decide ((aoM a:Key)=aoL b)=false:=decide_eq_false (λq=>nomatch q)
def NL(prog:akZ)(w:World):KeyKind prog w Key where
 is:=M6
 hash:=Y5 w
 inj:=λv a b f d=>by
  rcases oo f with⟨i,t,rfl,rfl⟩|⟨x,t,rfl,rfl⟩
  .rcases oo d with⟨j,u,rfl,e⟩|⟨y,u,rfl,e⟩
   .injection e with au _;rw[au]
   .exact nomatch e
  .rcases oo d with⟨j,u,rfl,e⟩|⟨y,u,rfl,e⟩
   .exact nomatch e
   .injection e with au _;rw[au]
 byValue:=λk v h=>by
  rcases oo h with⟨i,t,rfl,rfl⟩|⟨x,t,rfl,rfl⟩<;>rfl
 pyHash:=λc h=>by
  rcases oo c with⟨i,t,rfl,rfl⟩|⟨x,t,rfl,rfl⟩
  .exact wpAny_pyHash_int h
  .exact wpAny_pyHash_str h
 eqBool:=λg c h=>by
  rcases oo g with⟨i,t,rfl,rfl⟩|⟨x,t,rfl,rfl⟩
  .rcases oo c with⟨j,u,rfl,rfl⟩|⟨y,u,rfl,rfl⟩
   .rw[Y6]at h;exact wpAny_eqBool_int h
   .rw[Y7]at h;exact apm i t y u _ _ _ _ h
  .rcases oo c with⟨j,u,rfl,rfl⟩|⟨y,u,rfl,rfl⟩
   .rw[Y8]at h;exact apn x t j u _ _ _ _ h
   .rw[Y9]at h;exact wpAny_eqBool_str h
 «strs»:=λk x t v h=>by
  rcases oo h with⟨i,u,rfl,e⟩|⟨y,u,rfl,e⟩
  .exact nomatch e
  .injection e with au _
   subst au;cases v<;>rfl
inductive V where
 |aI|ax (b:Bool)|int (i:Int)|str (x:Str)|yc (b:Array UInt8)|yA (b:UInt64)|ref (a:Addr)|ty (n:String)
 deriving DecidableEq
def RelV:V->Value->Prop
 |.aI,u=>u=amX|.ax b,u=>u=aoF b|.int i,u=>∃t,u=apk i t|.str x,u=>∃t,u=apl x t|.yc b,u=>∃t,u=Value.bytes b t|.yA b,u=>∃t,u=Value.float b t|.ref a,u=>u=alv a|.ty n,u=>u=apc n
abbrev Vals:List V->List Value->Prop:=Paired RelV
def Vals.length{xs:List V}{us:List Value}(r:Vals xs us):xs.length=us.length:=Paired.length r
theorem Vals.get:∀{xs:List V}{us:List Value}{i:Nat}{x:V},Vals xs us->xs[i]? = some x->∃u,us[i]? = some u/\RelV x u
 |_,_,_,_,.nil,e=>by simp at e| _,_,0,_,.cons r _,e=>by simp at e;subst e;exact⟨_,rfl,r⟩|_,_,i+1,x,.cons _ t,e=>by
  obtain⟨u,a,b⟩:=Vals.get (i:=i) (x:=x) t (by simpa using e);exact⟨u,by simpa using a,b⟩
theorem Vals.set(r:RelV x u):∀{xs:List V}{us:List Value}(i:Nat),Vals xs us->Vals (xs.set i x) (us.set i u)
 |_,_,_,.nil=>.nil|_,_,0,.cons _ t=>.cons r t|_,_,i+1,.cons q t=>.cons q (Vals.set r i t)
theorem Vals.append:∀{xs ys:List V}{us a:List Value},Vals xs us->Vals ys a->Vals (xs++ys) (us++a)
 |_,_,_,_,.nil,s=>s|_,_,_,_,.cons r t,s=>.cons r (Vals.append t s)
theorem Vals.take:∀{xs:List V}{us:List Value}(n:Nat),Vals xs us->Vals (xs.take n) (us.take n)
 |_,_,0,_=>.nil|_,_,_+1,.nil=>.nil|_,_,n+1,.cons r t=>.cons r (Vals.take n t)
theorem Vals.drop:∀{xs:List V}{us:List Value}(n:Nat),Vals xs us->Vals (xs.drop n) (us.drop n)
 |_,_,0,r=>r|_,_,_+1,.nil=>.nil|_,_,n+1,.cons _ t=>Vals.drop n t
def mT:Option V->Option Value->Prop
 |some v,some u=>RelV v u|none,none=>True|_,_=>False
def QN{κ:Type}:List (κ×V)->List (κ×Value)->Prop:=Paired λ(p:κ×V) (q:κ×Value)=>p.1=q.1/\RelV p.2 q.2
def du:Key->V
 |.inl i=>.int i|.inr x=>.str x
inductive gJ where
 |l (xs:List V)
 |t (xs:List V)
 |sA (dm:List (Key×V))|gi (dm:List (List Key×V))
 |set (S:Int->Bool) (n:Nat)
 |ins (C b':Addr) (aW:List (Str×V))
 |own (x:Addr)
 |Ge (aW:List (Str×V))
 |met (f x:Addr)
 |Fm (lo hi:Int)
 |cM (o:Obj) (u:gJ)
 |gc (ps:Array Value)
 |ext (qA:Heap->Prop)
abbrev aw:=Addr->Option gJ
def upd(H:aw)(a:Addr)(o:gJ):aw:=λb=>if b=a then some o else H b
def dZ:upd H a o a=some o:=by unfold upd;rw[if_pos rfl]
def c5{H:aw}(h:b≠a):upd H a o b=H b:=by unfold upd;rw[if_neg h]
def af8:upd (upd H a o) a u=upd H a u:=by
 funext b;unfold upd;split<;>rfl
def NX{H:aw}(h:H a=some o)(h':H b=some u)(d:o≠u):a≠b:=by
 intro e;subst e;rw[h]at h';exact d (ak1 h')
def kM{H:aw}(h:H a=some o)(h':H b=none):a≠b:=by
 intro e;subst e;rw[h]at h';cases h'
section
variable(P:akZ)(w:World)
def iG(H:aw)(h:Heap)(a:Addr):gJ->Prop
 |.l xs=>xs.length<=akA/\∃(its:List Value)(n:Nat),Vals xs its/\h.get? a=some { cls:=.type "list",data:=.seq its.toArray n }|.t xs=>xs.length<=akA/\∃its:List Value,Vals xs its/\IsTup h a its.toArray|.sA c=>c.length<=akA/\(a==sysModules)=false/\∃vs,QN c vs/\h.DictOf (NL P w) a vs|.gi c=>c.length<=akA/\(a==sysModules)=false/\∃xs:List (List Key×Addr×Value),
   Paired (λ(p:List Key×V) (q:List Key×Addr×Value)=>p.1=q.1/\H q.2.1=some (.t (p.1.map du))/\RelV p.2 q.2.2) c xs/\
   ∃o j cp,h.get? a=some o/\o.ExactDict/\o.data=.dict j cp/\j.toList=xs.map (entryOfKey (tupleKind (NL P w)))/\(xs.map (·.1)).Nodup
 |.set S n=>h.SetOf (intKind P w) a S n|.ins C d aW=>H d=some (.own a)/\aW.length<=1000/\d≠a/\h.get? a=some (anq C d)/\
   ∃b,h.Ns1 d b/\(∀f,mT (aW.lookup f) (b f))/\Within b (aW.map (·.1))
 |.own _=>∃o,h.get? a=some o|.Ge aW=>∃b,h.Ns1 a b/\∀f,mT (aW.lookup f) (b f)|.Fm lo hi=>∃t u v,h.get? a=some { cls:=.type "range",data:=.fields #[.int lo t,.int hi u,.int 1 v] }|.cM o u=>h.get? a=some o/\iG H h a u|.gc ps=>h.get? a=some { cls:=.none,data:=.fields ps }|.met f x=>h.get? a=some (W.methodObj (.ref f) (.ref x))|.ext e=>e h/\(∃o,h.get? a=some o)/\∀g i:Heap,e g->(∀o,g.get? a=some o->i.get? a=some o)->e i
def gd(H:aw)(h:Heap):Prop:=∀a o,H a=some o->iG P w H h a o
end
section
variable{P:akZ}{w:World}{H H':aw}{h h':Heap}{a:Addr}{o:gJ}
def iG.lt(x:iG P w H h a o):a<h.objs.size:=by
 cases o with
 |l xs=>obtain⟨_,_,_,_,e⟩:=x;exact akM e
 |t xs=>obtain⟨_,_,_,p⟩:=x;exact p.lt
 |sA b=>obtain⟨_,_,_,_,o,_,_,e,_⟩:=x;exact akM e
 |gi b=>obtain⟨_,_,_,_,o,_,_,e,_⟩:=x;exact akM e
 |set S n=>obtain⟨o,_,_,_,e,_⟩:=x;exact akM e
 |ins C c aW=>obtain⟨_,_,_,e,_⟩:=x;exact akM e
 |own y=>obtain⟨_,e⟩:=x;exact akM e
 |Ge aW=>obtain⟨_,⟨_,_,_,e,_⟩,_⟩:=x;exact akM e
 |Fm lo hi=>obtain⟨_,_,_,e⟩:=x;exact akM e
 |cM bb u=>obtain⟨e,_⟩:=x;exact akM e
 |gc ps=>exact akM (show h.get? a=some _ from x)|met f y=>exact akM (show h.get? a=some _ from x)|ext d=>obtain⟨_,⟨_,e⟩,_⟩:=x;exact akM e
theorem Paired.NG{α d:Type}{F G:α->d->Prop}:∀{c:List α}{l₂:List d},Paired F c l₂->(∀a b,F a b->G a b)->Paired G c l₂
 |_,_,.nil,_=>.nil|_,_,.cons r t,f=>.cons (f _ _ r) (Paired.NG t f)
def iG.rX(x:iG P w H h a o)(k:∀b u,(b=a\/H b=some (.own a))->h.get? b=some u->h'.get? b=some u)
  (m:∀b,H b=some (.own a)->H' b=some (.own a)) (A:∀b xs,H b=some (.t xs)->H' b=some (.t xs)):iG P w H' h' a o:=by
 induction o with
 |l xs=>obtain⟨z,its,n,r,e⟩:=x;exact⟨z,its,n,r,k _ _ (.inl rfl) e⟩
 |t xs=>obtain⟨z,its,r,bb,e,c⟩:=x;exact⟨z,its,r,bb,k _ _ (.inl rfl) e,c⟩
 |sA B=>obtain⟨z,y,vs,r,bb,g,cp,e,c⟩:=x;exact⟨z,y,vs,r,bb,g,cp,k _ _ (.inl rfl) e,c⟩
 |gi B=>
  obtain⟨z,y,xs,r,bb,g,cp,e,c⟩:=x;exact⟨z,y,xs,Paired.NG r λp q z=>⟨z.1,A _ _ z.2.1,z.2.2⟩,bb,g,cp,k _ _ (.inl rfl) e,c⟩
 |set S n=>obtain⟨bb,g,cp,t,e,c⟩:=x;exact⟨bb,g,cp,t,k _ _ (.inl rfl) e,c⟩
 |ins C D aW=>
  obtain⟨d,z,ne,e,j,⟨i,g,cp,aF,c⟩,r⟩:=x;exact⟨m _ d,z,ne,k _ _ (.inl rfl) e,j,⟨i,g,cp,k _ _ (.inr d) aF,c⟩,r⟩
 |own y=>obtain⟨bb,e⟩:=x;exact⟨bb,k _ _ (.inl rfl) e⟩
 |Ge aW=>obtain⟨j,⟨i,g,cp,e,c⟩,r⟩:=x;exact⟨j,⟨i,g,cp,k _ _ (.inl rfl) e,c⟩,r⟩
 |Fm lo hi=>obtain⟨t,u,v,e⟩:=x;exact⟨t,u,v,k _ _ (.inl rfl) e⟩
 |cM bb u s=>obtain⟨e,q⟩:=x;exact⟨k _ _ (.inl rfl) e,s q⟩
 |gc ps=>
  have e:h.get? a=some { cls:=.none,data:=.fields ps }:=x;show h'.get? a=some { cls:=.none,data:=.fields ps };exact k a _ (.inl rfl) e
 |met f y=>
  have e:h.get? a=some (W.methodObj (.ref f) (.ref y)):=x;show h'.get? a=some (W.methodObj (.ref f) (.ref y));exact k a _ (.inl rfl) e
 |ext E=>obtain⟨p,⟨o,e⟩,st⟩:=x;exact⟨st _ _ p λo q=>k _ _ (.inl rfl) q,⟨o,k _ _ (.inl rfl) e⟩,st⟩
def gd.lt(x:gd P w H h)(e:H a=some o):a<h.objs.size:=(x a o e).lt
def gd.fresh(x:gd P w H h)(e:h.objs.size<=a):H a=none:=by
 cases q:H a with
 |none=>rfl|some u=>exact absurd (ala (x.lt q) e) (als _)
theorem gd.kept(x:gd P w H h)(k:∀b u,h.get? b=some u->h'.get? b=some u):gd P w H h':=λa o e=>
 (x a o e).rX (λb u _ q=>k b u q) (λ_ q=>q) λ_ _ q=>q
def gd.laid(x:gd P w H h)(k:∀b u,h.get? b=some u->h'.get? b=some u)(f:h.objs.size<=a)(new:iG P w (upd H a o) h' a o):gd P w (upd H a o) h':=λb u e=>by
 have aA:=x.fresh f
 by_cases d:b=a
 .subst d;rw[dZ]at e;cases e;exact new
 .rw[c5 d]at e
  exact(x b u e).rX (λc v _ q=>k c v q) (λc q=>by rw[c5 (kM q aA)];exact q) λc xs q=>by rw[c5 (kM q aA)];exact q
end
def hs(H:aw)(a:Addr)(u:gJ):Prop:=H a=some u\/∃o,H a=some (.cM o u)
def hs.ok(r:hs H a u)(x:gd P w H h):iG P w H h a u:=by
 rcases r with r|⟨o,r⟩
 .exact x a u r
 .obtain⟨_,q⟩:=x a _ r
  exact q
def xQ:Option gJ->Prop
 |some (.l _)=>True|some (.sA _)=>True|some (.gi _)=>True|some (.set _ _)=>True|some (.ins _ _ _)=>True|some (.ext _)=>True|_=>False
section
variable{P:akZ}{w:World}{H:aw}{h h':Heap}{x e:Addr}{dy:gJ}
def gd.write(ok:gd P w H h)(f:xQ (H x))(he:e=x\/H e=some (.own x))(k:∀b u,b≠e->h.get? b=some u->h'.get? b=some u)(n:∃u,h'.get? e=some u)
  (new:iG P w (upd H x dy) h' x dy):gd P w (upd H x dy) h':=λb u q=>by
 have j:∀c y,H c=some (.own y)->c≠x:=λc y r z=>by subst z;rw[r]at f;exact f
 have i:∀c xs,H c=some (.t xs)->c≠x:=λc xs r z=>by subst z;rw[r]at f;exact f
 by_cases a:b=x
 .subst a;rw[dZ]at q;cases q;exact new
 .rw[c5 a]at q
  by_cases g:b=e
  .have l:H b=some (.own x):=by
    rcases he with z|z
    .exact absurd (g.trans z) a
    .rw[g];exact z
   rw[q]at l;cases l;obtain⟨v,m⟩:=n;exact⟨v,by rw[g];exact m⟩
  .refine(ok b u q).rX (λc v d r=>k c v ?_ r) (λc r=>by rw[c5 (j c b r)];exact r) λc xs r=>by rw[c5 (i c xs r)];exact r
   rcases d with rfl|d
   .exact g
   .rintro rfl
    rcases he with z|z
    .exact j c b d z
    .rw[d]at z;cases z;exact a rfl
end
structure gL(aW ex:List Addr)(H H':aw)(h h':Heap):Prop where
 keep:∀b o,h.get? b=some o->H b=none->b∉aW->b∉ex->h'.get? b=some o
 slot:∀b o,h.get? b=some o->H b=none->b∈aW->b∉ex->∃ba,h'.get? b=some { o with slots:=ba }
 free:∀b o,h.get? b=some o->H b=none->b∉ex->H' b=none
 there:∀b o,h.get? b=some o->b∉ex->∃dy,h'.get? b=some dy
 qo:∀b xs,H b=some (.t xs)->H' b=some (.t xs)
 n9:∀b o u,H b=some (.cM o u)->H' b=some (.cM o u)
 oV:∀b ps,H b=some (.gc ps)->∃more,H' b=some (.gc (ps++more))
section
variable{aW ex:List Addr}{H H1:aw}{h ag h':Heap}{a x e:Addr}{o:gJ}
def gL.any(u:gL aW ex H H1 h ag)(q:h.get? b=some bb)(n:H b=none)(d:b∉ex):∃ba,ag.get? b=some { bb with slots:=ba }:=by
 by_cases c:b∈aW
 .exact u.slot b bb q n c d
 .exact⟨bb.slots,u.keep b bb q n c d⟩
def gL.kept(k:∀b u,h.get? b=some u->h'.get? b=some u):gL aW ex H H h h':=
 ⟨λb bb q _ _ _=>k b bb q,λb bb q _ _ _=>⟨bb.slots,k b bb q⟩,λ_ _ _ n _=>n,λb bb q _=>⟨bb,k b bb q⟩,λ_ _ q=>q,λ_ _ _ q=>q,λ_ ps q=>⟨#[],by rw[q];simp⟩⟩
def gL.refl:gL aW ex H H h h:=gL.kept λ_ _ q=>q
def gL.laid(k:∀b u,h.get? b=some u->h'.get? b=some u)(c:h.objs.size<=a)(aA:H a=none):gL aW ex H (upd H a o) h h' where
 keep:=λb u q _ _ _=>k b u q
 slot:=λb u q _ _ _=>⟨u.slots,k b u q⟩
 free:=λb u q n _=>by rw[c5 (alc (ala (akM q) c))];exact n
 there:=λb u q _=>⟨u,k b u q⟩
 qo:=λb xs q=>by rw[c5 (kM q aA)];exact q
 n9:=λb u xs q=>by rw[c5 (kM q aA)];exact q
 oV:=λb ps q=>⟨#[],by rw[c5 (kM q aA),q];simp⟩
def gL.write(c:xQ (H x))(he:e=x\/H e=some (.own x))(k:∀b u,b≠e->h.get? b=some u->h'.get? b=some u)(j:∃u,h'.get? e=some u):gL aW ex H (upd H x o) h h':=by
 have g:∀b,H b=none->b≠x:=λb n z=>by subst z;rw[n]at c;exact c
 have f:∀b,H b=none->b≠e:=λb n z=>by
  subst z;rcases he with r|r
  .exact g b n r
  .rw[n]at r;cases r
 have d:∀b u,H b=some u->¬xQ (some u)->b≠x:=λb u q nm z=>by subst z;rw[q]at c;exact nm c
 refine⟨λb u q n _ _=>k b u (f b n) q,λb u q n _ _=>⟨u.slots,k b u (f b n) q⟩,λb u q n _=>by rw[c5 (g b n)];exact n,λb u q _=>?_,
  λb xs q=>by rw[c5 (d b _ q λz=>z)];exact q,λb u xs q=>by rw[c5 (d b _ q λz=>z)];exact q,λb ps q=>⟨#[],by rw[c5 (d b _ q λz=>z),q];simp⟩⟩
 by_cases i:b=e
 .subst i;exact j
 .exact⟨u,k b u i q⟩
end
def AG(h:Heap)(H:aw):List Addr:=(akR h.objs.size).filter λa=>(H a).isSome
def od(h:Heap)(H:aw):Heap:=W.hideAll h (AG h H)
def Xy(h:Heap)(H:aw):(od h H).objs.size=h.objs.size:=W.hideAll_size _ _
def Dk{h:Heap}{H:aw}(e:h.get? b=some o)(n:H b=none):(od h H).get? b=some o:=
 W.hideAll_get _ e λa=>by
  have q:(H b).isSome=true:=(alN.mp a).2;rw[n]at q;simp at q
def ab4{h:Heap}{H:aw}(e:(od h H).get? b=some o):h.get? b=some o/\H b=none:=by
 have a:h.get? b=some o:=W.of_hideAll (AG h H) e;refine⟨a,?_⟩
 cases q:H b with
 |none=>rfl|some x=>
  have c:b∈AG h H:=alN.mpr ⟨ali.mpr (akM a),by simp[q]⟩;have z:(od h H).get? b=none:=W.hideAll_none (AG h H) c;rw[z]at e;cases e
def Q'(g h:Heap)(L:Addr):List (Addr×Obj):=(akR h.objs.size).filterMap λa=>if a=L\/(g.get? a).isSome=true then none else(h.get? a).map λo=>(a,o)
def rest(g h:Heap)(L d:Addr):List (Addr×Obj):=(Q' g h L).filter λp=>decide (p.1≠d)
structure Mod(K:aM)(mg:bl)(base:Heap):Prop where
 tb:K.In base
 glob:base.Ns ak9 mg
 blt:∃cT,base.Ns aoG cT/\∀x:Str,x≠"__name__"->cT x=alm x
 nolimit:base.NoLimit
structure aV where
 prog:akZ
 w:World
 K:aM
 mg:Str->Option Value
 base:Heap
 A:ak4
 N:List Str
 gQ:akC
 H₀:aw
 env:Env
 outer:List Env
 stack:List Env
 ex:List Addr
 fn:Str->Bool
 calm:Bool
 nG:List (Addr×Obj)
 dN:Value->akC->Prop
def l0(l:List Env):List Addr:=l.filterMap (·.frame)
abbrev aV.aW(X:aV):List Addr:=l0 X.outer
def qL(a:Scope)(x:Str):Prop:=a.names.lookup x=some .local\/a.names.lookup x=some .cell\/a.names.lookup x=some .free
def Loc(a:Scope)(x:Str):Prop:=a.names.lookup x=some .local\/a.names.lookup x=some .cell
def Look(env:Env)(h:Heap)(m:bl)(x:Str)(u:Value):Prop:=
 (env.kindOf x=some .local/\m x=some u)\/((env.kindOf x=some .cell\/env.kindOf x=some .free)/\∃c,env.cells.lookup x=some c/\h.IsCell c (some u))
structure aV.Ok(X:aV):Prop where
 mod:Mod X.K X.mg X.base
 kind:X.env.scope.kind=.function
 glob:X.env.globals=ak9
 blt:X.env.builtins=aoG
 above:X.gQ.heap.objs.size<=X.env.locals
 inj:∀x y c,X.env.cells.lookup x=some c->X.env.cells.lookup y=some c->x=y
 has:∀x,(X.env.kindOf x=some .cell\/X.env.kindOf x=some .free)->∃c,X.env.cells.lookup x=some c
 u5:∀x c,X.fn x=true->X.env.cells.lookup x=some c->X.gQ.heap.objs.size<=c
 hd:X.calm=true->X.A.handled=none
 frames:X.A.frames=some X.stack
 As:X.stack=X.outer\/(X.stack=X.env::X.outer/\X.env.frame=some X.env.locals)
 yw:∀b∈X.ex,b≠X.env.locals/\∀x c,X.env.cells.lookup x=some c->c≠b
 bs:∀b o,X.base.get? b=some o->X.gQ.heap.get? b=some o/\X.H₀ b=none
 lU:X.base.objs.size<=X.gQ.heap.objs.size
 wD:∀b o,X.base.get? b=some o->b∉X.ex
 ve:∀b∈X.ex,b∉X.aW
 kB:X.gQ.heap.FunFrames X.base X.outer
 pQ:∀b∈X.aW,X.H₀ b=none
structure Inv(X:aV)(zn:c3)(U:List (Option V))(H:aw)(s:akC):Prop where
 ok:X.Ok
 os:s.os=X.gQ.os
 bare:anQ s.gens
 base:gL X.aW X.ex X.H₀ H X.gQ.heap s.heap
 loc:∃m,s.heap.Ns X.env.locals m/\∀(i:Nat)(x:Str)(v:V),X.N[i]? = some x->U[i]? = some (some v)->qL X.env.scope x->∃u,RelV v u/\Look X.env s.heap m x u
 cell:∀x c,X.env.cells.lookup x=some c->∃v,s.heap.IsCell c v
 free:H X.env.locals=none
 lZ:∀x c,X.env.cells.lookup x=some c->H c=none
 pin:∀p∈X.nG++zn,s.heap.get? p.1=some p.2/\H p.1=none/\p.1≠X.env.locals/\p.1∉X.aW/\∀v,p.2.data≠.cell v
 cb:gd X.prog X.w H s.heap
 len:U.length=X.N.length
section
variable{X:aV}{zn:c3}{U:List (Option V)}{H H':aw}{s:akC}{h':Heap}
def aV.Ok.abP(ok:X.Ok)(e:X.base.get? b=some o):b∉X.aW:=λa=>by
 have:=(ok.kB.mem a).1;rw[e]at this;cases this
def Inv.bs(J:Inv X zn U H s):∀b o,X.base.get? b=some o->s.heap.get? b=some o/\H b=none:=λb o e=>
 ⟨J.base.keep b o (J.ok.bs b o e).1 (J.ok.bs b o e).2 (J.ok.abP e) (J.ok.wD b o e),J.base.free b o (J.ok.bs b o e).1 (J.ok.bs b o e).2 (J.ok.wD b o e)⟩
def Inv.bk(J:Inv X zn U H s):∀b o,X.base.get? b=some o->s.heap.get? b=some o:=λb o e=>(J.bs b o e).1
def Inv.mod(J:Inv X zn U H s):Mod X.K X.mg X.base:=J.ok.mod
def Inv.f9(J:Inv X zn U H s):X.K.In s.heap:=J.ok.mod.tb.keeps J.bk
def Inv.fr(J:Inv X zn U H s):∃m,Fr X.base X.env.locals s.heap m:=
 let⟨m,aA,_⟩:=J.loc
 ⟨m,aA,J.bk,ald J.ok.lU J.ok.above⟩
def Inv.lt(J:Inv X zn U H s):X.env.locals<s.heap.objs.size:=let⟨_,aA,_⟩:=J.loc;aA.lt
def Inv.oR(J:Inv X zn U H s):X.gQ.heap.objs.size<=s.heap.objs.size:=ald J.ok.above (ame J.lt)
def Inv.abR(J:Inv X zn U H s)(h:s.heap.objs.size<=a):a∉X.aW:=λc=>by
 obtain⟨_,o,b,_⟩:=J.ok.kB.mem c;exact absurd (ala (akM b) (ald J.oR h)) (als _)
def Inv.qU(J:Inv X zn U H s):∀x c,X.env.cells.lookup x=some c->c≠X.env.locals:=λx c e z=>by
 obtain⟨v,o,a,hd⟩:=J.cell x c e;obtain⟨m,⟨g,f,cp,d,b,_⟩,_⟩:=J.loc;rw[z,d]at a;cases a;rw[b]at hd;cases hd
def Inv.kB(J:Inv X zn U H s):s.heap.FunFrames X.base X.outer:=by
 have all:∀(l:List Env),(∀b∈l0 l,b∈X.aW)->X.gQ.heap.FunFrames X.base l->s.heap.FunFrames X.base l:=by
  intro l
  induction l with
  |nil=>intro _ _;trivial|cons env r g=>
   intro ay hl;obtain⟨h,⟨L,o,d,aA,f,hd⟩,aD⟩:=hl;have c:L∈X.aW:=ay L (by unfold l0;rw[aob,d];exact akS);obtain⟨ba,e⟩:=J.base.slot L o f (J.ok.pQ L c) c λz=>J.ok.ve L z c
   exact⟨h,⟨L,_,d,aA,e,hd⟩,g (λb a=>ay b (by unfold l0;rw[aob,d];exact akL _ a)) aD⟩
 exact all X.outer (λ_ a=>a) J.ok.kB
def Inv.stack(J:Inv X zn U H s):s.heap.FunFrames X.base X.stack:=by
 rcases J.ok.As with e|⟨e,hf⟩
 .rw[e];exact J.kB
 .rw[e]
  obtain⟨m,aA,_⟩:=J.loc;refine .cons (by rw[J.ok.kind];decide) hf aA ?_ J.kB;exact Heap.get?_none_of_le (ald J.ok.lU J.ok.above)
def Inv.FG(J:Inv X zn U H s):∀b∈l0 X.stack,b∈X.env.locals::X.aW:=λb a=>by
 rcases J.ok.As with e|⟨e,hf⟩
 .rw[e]at a;exact akL _ a
 .rw[e]at a
  unfold l0 at a;rw[aob,hf]at a;exact a
def Inv.Pw(J:Inv X zn U H s):∀b∈l0 X.stack,H b=none:=λb a=>by
 rcases akP.mp (J.FG b a)with e|a
 .rw[e];exact J.free
 .obtain⟨_,o,c,_⟩:=J.ok.kB.mem a
  exact J.base.free b o c (J.ok.pQ b a) λz=>J.ok.ve b z a
def Inv.step{g':Array GenState}{t':Nat}{d':Drawn}{ch:List Addr}(J:Inv X zn U H s)
  (y:∀b∈ch,(b∈X.ex\/X.gQ.heap.objs.size<=b)/\b≠X.env.locals/\(∀x c,X.env.cells.lookup x=some c->c≠b)/\∀p∈X.nG++zn,p.1≠b)
  (keep:∀b o,b≠X.env.locals->b∉X.aW->b∉ch->s.heap.get? b=some o->H b=none->h'.get? b=some o)
  (slot:∀b o,b≠X.env.locals->b∈X.aW->b∉ch->s.heap.get? b=some o->H b=none->∃ba,h'.get? b=some { o with slots:=ba }) (free:∀b o,b∉ch->s.heap.get? b=some o->H b=none->H' b=none)
  (there:∀b o,b∉ch->s.heap.get? b=some o->∃j,h'.get? b=some j)
  (qo:∀b xs,H b=some (.t xs)->H' b=some (.t xs)) (n9:∀b o u,H b=some (.cM o u)->H' b=some (.cM o u)) (oV:∀b ps,H b=some (.gc ps)->∃A,H' b=some (.gc (ps++A)))
  (ns:∀m,s.heap.Ns X.env.locals m->h'.Ns X.env.locals m) (cb:gd X.prog X.w H' h') (L:anQ g') :
  Inv X zn U H' { s with heap:=h',gens:=g',drawn:=d',toks:=t' }:=by
 have E:∀b o,X.gQ.heap.get? b=some o->b≠X.env.locals:=λb o e=>alc (ala (akM e) J.ok.above)
 have D:∀b o,X.gQ.heap.get? b=some o->b∉X.ex->b∉ch:=λb o e a g=>by
  rcases(y b g).1 with z|z
  .exact a z
  .exact absurd (ala (akM e) z) (als _)
 have f:∀x c,X.env.cells.lookup x=some c->∀v,s.heap.IsCell c v->h'.IsCell c v:=λx c e v M=>by
  obtain⟨o,h,hd⟩:=M;have B:c∉ch:=λz=>(y c z).2.2.1 x c e rfl
  by_cases G:c∈X.aW
  .obtain⟨ba,q⟩:=slot c o (J.qU x c e) G B h (J.lZ x c e)
   exact⟨_,q,hd⟩
  .exact⟨o,keep c o (J.qU x c e) G B h (J.lZ x c e),hd⟩
 refine⟨J.ok,J.os,L,⟨λb o e n g a=>?_,λb o e n g a=>?_,λb o e n a=>?_,λb o e a=>?_,λb xs e=>qo b xs (J.base.qo b xs e),λb o xs e=>n9 b o xs (J.base.n9 b o xs e),λb ps e=>?_⟩,?_,λx c e=>?_,?_,λx c e=>?_,λp F=>?_,cb,J.len⟩
 .exact keep b o (E b o e) g (D b o e a) (J.base.keep b o e n g a) (J.base.free b o e n a)
 .obtain⟨ba,au⟩:=J.base.slot b o e n g a
  obtain⟨N,aF⟩:=slot b _ (E b o e) g (D b o e a) au (J.base.free b o e n a);exact⟨N,aF⟩
 .obtain⟨j,au⟩:=J.base.there b o e a
  exact free b j (D b o e a) au (J.base.free b o e n a)
 .obtain⟨j,au⟩:=J.base.there b o e a
  exact there b j (D b o e a) au
 .obtain⟨O,au⟩:=J.base.oV b ps e
  obtain⟨K,aF⟩:=oV b _ au;exact⟨O++K,by rw[aF,Array.append_assoc]⟩
 .obtain⟨m,aA,hl⟩:=J.loc
  refine⟨m,ns m aA,λi x v au aF cO=>?_⟩;obtain⟨u,r,l⟩:=hl i x v au aF cO;refine⟨u,r,?_⟩;rcases l with l|⟨k,c,e,z⟩
  .exact .inl l
  .exact .inr ⟨k,c,e,f x c e _ z⟩
 .obtain⟨v,z⟩:=J.cell x c e
  exact⟨v,f x c e v z⟩
 .obtain⟨m,⟨o,_,_,h,_⟩,_⟩:=J.loc
  exact free _ o (λz=>(y _ z).2.1 rfl) h J.free
 .obtain⟨v,o,h,hd⟩:=J.cell x c e
  exact free c o (λz=>(y c z).2.2.1 x c e rfl) h (J.lZ x c e)
 .obtain⟨e,n,ne,I,d⟩:=J.pin p F
  have B:p.1∉ch:=λz=>(y p.1 z).2.2.2 p F rfl
  exact⟨keep p.1 p.2 ne I B e n,free p.1 p.2 B e n,ne,I,d⟩
def Inv.un{t':Nat}(J:Inv X zn U H s)(u:gL X.aW [] H H' s.heap h')(cb:gd X.prog X.w H' h'):Inv X zn U H' { s with heap:=h',toks:=t' }:=by
 obtain⟨m,⟨o,k,cp,c,r⟩,_⟩:=id J.loc;obtain⟨ba,i⟩:=u.any c J.free (by simp);exact J.step (g':=s.gens) (d':=s.drawn) (ch:=[]) (λ_ z=>nomatch z) (λb o _ a _ e n=>u.keep b o e n a (by simp)) (λb o _ a _ e n=>u.slot b o e n a (by simp)) (λb o _ e n=>u.free b o e n (by simp)) (λb o _ e=>u.there b o e (by simp)) u.qo u.n9 u.oV (λp j=>by
  obtain⟨l,g,f,d,h⟩:=j;rw[c]at d;cases d;exact⟨_,g,f,i,h⟩) cb J.bare
def Inv.call{g':Array GenState}{t':Nat}{d':Drawn}{ch:List Addr}(J:Inv X zn U H s)(u:gL (l0 X.stack) ch H H' s.heap h')(cb:gd X.prog X.w H' h')(k:anQ g')
  (h:∀b∈ch,(b∈X.ex\/X.gQ.heap.objs.size<=b)/\b≠X.env.locals/\(∀x c,X.env.cells.lookup x=some c->c≠b)/\∀p∈X.nG++zn,p.1≠b) :
  Inv X zn U H' { s with heap:=h',gens:=g',drawn:=d',toks:=t' }:=by
 obtain⟨m,⟨o,y,cp,f,r⟩,_⟩:=id J.loc;obtain⟨ba,d⟩:=u.any f J.free λz=>(h _ z).2.1 rfl
 exact J.step (ch:=ch) h (λb o d l a e n=>u.keep b o e n (λz=>(akP.mp (J.FG b z)).elim d l) a) (λb o _ _ a e n=>u.any e n a) (λb o a e n=>u.free b o e n a) (λb o a e=>u.there b o e a) u.qo u.n9 u.oV (λB t=>by
  obtain⟨A,j,i,g,q⟩:=t;rw[f]at g;cases g;exact⟨_,j,i,d,q⟩) cb k
def Inv.turned{t':Nat}{it:Addr}(J:Inv X zn U H s)(k:∀b o,b≠it->s.heap.get? b=some o->h'.get? b=some o)(aA:H it=none)(d:it≠X.env.locals)
  (i:it∈X.ex\/X.gQ.heap.objs.size<=it) (j:∀x c,X.env.cells.lookup x=some c->c≠it) (t:∀p∈X.nG++zn,p.1≠it):Inv X zn U H { s with heap:=h',toks:=t' }:=by
 have f:∀b u,H b=some u->b≠it:=λb u e z=>by rw[z,aA]at e;cases e
 refine J.step (g':=s.gens) (d':=s.drawn) (ch:=[it]) (λb h=>?_) (λb o _ _ a e _=>k b o (λz=>a (by simp[z])) e) (λb o _ _ a e _=>⟨o.slots,k b o (λz=>a (by simp[z])) e⟩) (λ_ _ _ _ n=>n)
  (λb o a e=>⟨o,k b o (λz=>a (by simp[z])) e⟩) (λ_ _ e=>e) (λ_ _ _ e=>e) (λb ps e=>⟨#[],by rw[e];simp⟩) (λm w=>?_) (λb u e=>?_) J.bare
 .have e:b=it:=by simpa using h
  subst e;exact⟨i,d,j,t⟩
 .obtain⟨o,l,cp,g,r⟩:=w
  exact⟨o,l,cp,k _ o (am9 d) g,r⟩
 .refine(J.cb b u e).rX (λc v a q=>k c v ?_ q) (λ_ q=>q) λ_ _ q=>q
  rcases a with z|z
  .rw[z];exact f b u e
  .exact f c _ z
theorem Inv.tok(J:Inv X zn U H s)(t:Nat):Inv X zn U H { s with toks:=t }:=J.un (h':=s.heap) (t':=t) gL.refl J.cb
def Inv.kept{t':Nat}(J:Inv X zn U H s)(k:∀b u,s.heap.get? b=some u->h'.get? b=some u):Inv X zn U H { s with heap:=h',toks:=t' }:=J.un (gL.kept k) (J.cb.kept k)
def Inv.laid{t':Nat}(J:Inv X zn U H s)(k:∀b u,s.heap.get? b=some u->h'.get? b=some u)(c:s.heap.objs.size<=a)(new:iG X.prog X.w (upd H a o) h' a o) :
  Inv X zn U (upd H a o) { s with heap:=h',toks:=t' }:=J.un (gL.laid k c (J.cb.fresh c)) (J.cb.laid k c new)
def Inv.write{x e:Addr}{o:gJ}{t':Nat}(J:Inv X zn U H s)(a:xQ (H x))(he:e=x\/H e=some (.own x))(k:∀b u,b≠e->s.heap.get? b=some u->h'.get? b=some u)(c:∃u,h'.get? e=some u)
  (new:iG X.prog X.w (upd H x o) h' x o):Inv X zn U (upd H x o) { s with heap:=h',toks:=t' }:=J.un (gL.write a he k c) (J.cb.write a he k c new)
def Inv.weak{U':List (Option V)}(J:Inv X zn U H s)(hl:U'.length=U.length)(w:∀(i:Nat) v,U'[i]? = some (some v)->U[i]? = some (some v)):Inv X zn U' H s:=
 ⟨J.ok,J.os,J.bare,J.base,let⟨m,aA,o⟩:=J.loc;⟨m,aA,λi x v au aF cO=>o i x v au (w i v aF) cO⟩,J.cell,J.free,J.lZ,J.pin,J.cb,hl.trans J.len⟩
def Inv.OD(J:Inv X zn U H s)(h:∀p∈o,s.heap.get? p.1=some p.2/\H p.1=none/\p.1≠X.env.locals/\p.1∉X.aW/\∀v,p.2.data≠.cell v):Inv X o U H s:=
 ⟨J.ok,J.os,J.bare,J.base,J.loc,J.cell,J.free,J.lZ,λp a=>(alp.mp a).elim (λz=>J.pin p (List.mem_append_left _ z)) (h p),J.cb,J.len⟩
def N0{N:List Str}(hN:N.Nodup){i j:Nat}{x:Str}(a:N[i]? = some x)(b:N[j]? = some x):i=j:=by
 obtain⟨c,au⟩:=akw.mp a;obtain⟨d,aF⟩:=akw.mp b;exact(List.getElem_inj hN).mp (au.trans aF.symm)
theorem Py{M:Model}{A:ak4}{E:dk}{i:Nat}{x:Str}{v:V}{u:Value}{Q:Unit->akC->Prop}(J:Inv X zn U H s)(hN:X.N.Nodup)(hi:X.N[i]? = some x)(l:Loc X.env.scope x)(r:RelV v u)
  (h:∀I,Inv X zn (U.set i (some v)) H I->(∃a,aoO a s.heap I.heap/\(a=X.env.locals\/X.env.cells.lookup x=some a))->Q () I) (hf:X.fn x=true\/X.env.scope.names.lookup x=some .local:=by first|exact .inl rfl|exact .inr rfl|assumption):wpAny M A (storeName X.env x u) Q E s:=by
 obtain⟨m,aA,hl⟩:=id J.loc;have W9:(X.env.scope.kind==.class||(X.env.scope.kind==.module&&X.env.locals != X.env.globals))=false:=by rw[J.ok.kind];rfl
 have S:i<U.length:=by rw[J.len];exact(akw.mp hi).1
 have qU:=J.qU;have f:∀{a:Addr}{h':Heap},(∃o,s.heap.get? a=some o/\H a=none)->aoO a s.heap h'->gd X.prog X.w H h':=λ{a h'} aq ay b bb e=>by
  obtain⟨_,_,Z⟩:=aq;refine(J.cb b bb e).rX (λc D g q=>(ay.2 c ?_).trans q) (λ_ q=>q) λ_ _ q=>q
  rintro rfl;rcases g with rfl|g
  .rw[Z]at e;cases e
  .rw[Z]at g;cases g
 rcases l with C|C
 .refine wpAny_storeName_local C aA (λh' XP ay=>?_) W9
  obtain⟨K,_,_,ro,_⟩:=id aA;refine h _ ⟨J.ok,J.os,J.bare,⟨λb o e n B l=>?_,λb o e n B l=>?_,J.base.free,λb o e l=>?_,J.base.qo,J.base.n9,J.base.oV⟩,⟨_,XP,λj y P au aF cO=>?_⟩,λy c e=>?_,J.free,J.lZ,λp G=>?_,f ⟨K,ro,J.free⟩ ay,by simpa using J.len⟩ ⟨_,ay,.inl rfl⟩
  .exact(ay.2 b (alc (ala (akM e) J.ok.above))).trans (J.base.keep b o e n B l)
  .obtain⟨ba,au⟩:=J.base.slot b o e n B l
   exact⟨ba,(ay.2 b (alc (ala (akM e) J.ok.above))).trans au⟩
  .obtain⟨O,au⟩:=J.base.there b o e l
   exact⟨O,(ay.2 b (alc (ala (akM e) J.ok.above))).trans au⟩
  .by_cases t:j=i
   .subst t
    rw[hi]at au;cases au;rw[akU S]at aF;cases aF;exact⟨u,r,.inl ⟨C,by simp⟩⟩
   .rw[akF (am9 t)]at aF
    obtain⟨u',L,q⟩:=hl j y P au aF cO;refine⟨u',L,?_⟩;rcases q with⟨k,e⟩|⟨k,c,e,z⟩
    .refine .inl ⟨k,?_⟩
     have:y≠x:=λe=>t (N0 hN au (e▸hi))
     simp[this,e]
    .exact .inr ⟨k,c,e,z.sameBut ay (qU y c e)⟩
  .obtain⟨D,z⟩:=J.cell y c e
   exact⟨D,z.sameBut ay (qU y c e)⟩
  .obtain⟨e,n,ne,R,d⟩:=J.pin p G
   exact⟨(ay.2 p.1 ne).trans e,n,ne,R,d⟩
 .have F:X.fn x=true:=by
   rcases hf with z|z
   .exact z
   .rw[z]at C;cases C
  obtain⟨c,g⟩:=J.ok.has x (.inl C);obtain⟨D,z⟩:=J.cell x c g;refine wpAny_storeName_cell J.ok.kind C g z (λh' T ay=>?_);obtain⟨cw,W,XX⟩:=id z;refine h { s with heap:=h' } ⟨J.ok,J.os,J.bare,⟨λb o e n B l=>?_,λb o e n B l=>?_,J.base.free,λb o e l=>?_,J.base.qo,J.base.n9,J.base.oV⟩,⟨m,aA.sameBut ay (am9 (qU x c g)),λj y P au aF cO=>?_⟩,λy c' e=>?_,J.free,J.lZ,λp G=>?_,f ⟨cw,W,J.lZ x c g⟩ ay,by simpa using J.len⟩ ⟨c,ay,.inr g⟩
  .exact(ay.2 b (alc (ala (akM e) (J.ok.u5 x c F g)))).trans (J.base.keep b o e n B l)
  .obtain⟨ba,au⟩:=J.base.slot b o e n B l
   exact⟨ba,(ay.2 b (alc (ala (akM e) (J.ok.u5 x c F g)))).trans au⟩
  .obtain⟨O,au⟩:=J.base.there b o e l
   exact⟨O,(ay.2 b (alc (ala (akM e) (J.ok.u5 x c F g)))).trans au⟩
  .by_cases t:j=i
   .subst t
    rw[hi]at au;cases au;rw[akU S]at aF;cases aF;exact⟨u,r,.inr ⟨.inl C,c,g,T⟩⟩
   .rw[akF (am9 t)]at aF
    obtain⟨u',L,q⟩:=hl j y P au aF cO;refine⟨u',L,?_⟩;rcases q with q|⟨k,c',e,jq⟩
    .exact .inl q
    .refine .inr ⟨k,c',e,jq.sameBut ay ?_⟩
     rintro rfl;exact t (N0 hN au (J.ok.inj _ _ _ e g▸hi))
  .by_cases Y:c'=c
   .subst Y;exact⟨_,T⟩
   .obtain⟨o4,er⟩:=J.cell y c' e
    exact⟨o4,er.sameBut ay Y⟩
  .obtain⟨e,n,ne,R,d⟩:=J.pin p G
   refine⟨(ay.2 p.1 ?_).trans e,n,ne,R,d⟩;intro q;rw[q,W]at e;have gq:cw=p.2:=ak1 e;exact d D (by rw[<-gq];exact XX)
def Px{M:Model}{A:ak4}{E:dk}{i:Nat}{x:Str}{v:V}{u:Value}{Q:Unit->akC->Prop}(J:Inv X zn U H s)(hN:X.N.Nodup)(hi:X.N[i]? = some x)(b:Loc X.env.scope x)(r:RelV v u)
  (h:∀a,Inv X zn (U.set i (some v)) H a->Q () a) (d:X.fn x=true\/X.env.scope.names.lookup x=some .local:=by first|exact .inl rfl|exact .inr rfl|assumption):wpAny M A (storeName X.env x u) Q E s:=
 Py J hN hi b r (λa c _=>h a c) d
theorem Inv.SY{a:akC}{ch:List Addr}(J:Inv X zn U H s)(d:a.os=s.os)(u:gL (l0 X.stack) ch H H' s.heap a.heap)(cb:gd X.prog X.w H' a.heap)(f:anQ a.gens)
  (h:∀b∈ch,(b∈X.ex\/X.gQ.heap.objs.size<=b)/\b≠X.env.locals/\(∀x c,X.env.cells.lookup x=some c->c≠b)/\∀p∈X.nG++zn,p.1≠b):Inv X zn U H' a:=by
 obtain⟨h',g',d',t',g⟩:=a;have e:g=s.os:=d;subst e;exact J.call (g':=g') (t':=t') (d':=d') u cb f h
end
abbrev gy:=Value->Option Addr->aw->Prop
abbrev St:=List (Option V)
abbrev cU:=V->aw->Prop
abbrev TE:=St->aw->cU->Prop
abbrev TT:=St->aw->(Bool->aw->Prop)->Prop
abbrev fQ:=St->aw->(List V->aw->Prop)->Prop
structure Ends where
 bu:St->aw->Prop
 cx:cU
 bk:St->aw->Prop:=λ_ _=>False
 cy:St->aw->Prop:=λ_ _=>False
abbrev gK:=Ends->St->aw->Prop
def hr(X:aV)(zn:c3)(U:St)(Q:cU)(u:Value)(a:akC):Prop:=∃v H',Inv X zn U H' a/\RelV v u/\Q v H'
def Bj(X:aV)(zn:c3)(U:St)(Q:Bool->aw->Prop)(b:Bool)(a:akC):Prop:=∃H',Inv X zn U H' a/\Q b H'
def Qr(X:aV)(zn:c3)(U:St)(Q:List V->aw->Prop)(us:List Value)(a:akC):Prop:=∃vs H',Inv X zn U H' a/\Vals vs us/\Q vs H'
def sk(X:aV)(zn:c3)(D:Ends)(f:Flow)(a:akC):Prop:=
 match f with
 |.next=>∃U' H',Inv X zn U' H' a/\D.bu U' H'|.brk=>∃U' H',Inv X zn U' H' a/\D.bk U' H'|.cont=>∃U' H',Inv X zn U' H' a/\D.cy U' H'|.ret u=>∃v U' H',Inv X zn U' H' a/\RelV v u/\D.cx v H'
def bZ(X:aV)(e:Expr)(t:TE):Prop:=
 ∀(zn:c3)(s:akC)(U:St)(H:aw)(Q:cU),Inv X zn U H s->t U H Q->wpAny (model X.prog X.w) X.A (eval e X.env) (hr X zn U Q) X.dN s
def ie(X:aV)(e:Expr)(t:TT):Prop:=
 ∀(zn:c3)(s:akC)(U:St)(H:aw)(Q:Bool->aw->Prop),Inv X zn U H s->t U H Q->wpAny (model X.prog X.w) X.A (isTrue e X.env (eval e X.env)) (Bj X zn U Q) X.dN s
def lL(X:aV)(e:Expr)(t:TT):Prop:=
 ∀(a:Sem Value)(zn:c3)(s:akC)(U:St)(H:aw)(Q:Bool->aw->Prop),Inv X zn U H s->t U H Q->wpAny (model X.prog X.w) X.A (isTrue e X.env a) (Bj X zn U Q) X.dN s
def lL.pt(h:lL X e t):ie X e t:=h _
def gV(X:aV)(a:List Expr)(t:fQ):Prop:=
 ∀(pos:Pos)(zn:c3)(s:akC)(U:St)(H:aw)(Q:List V->aw->Prop),Inv X zn U H s->t U H Q->wpAny (model X.prog X.w) X.A (spliced (ak3 pos (akx a X.env))) (Qr X zn U Q) X.dN s
def iH(X:aV)(st:Stmt)(t:gK):Prop:=
 ∀(zn:c3)(s:akC)(U:St)(H:aw)(D:Ends),Inv X zn U H s->t D U H->wpAny (model X.prog X.w) X.A (exec st X.env) (sk X zn D) X.dN s
def ic(X:aV)(st:List Stmt)(t:gK):Prop:=
 ∀(zn:c3)(s:akC)(U:St)(H:aw)(D:Ends),Inv X zn U H s->t D U H->wpAny (model X.prog X.w) X.A (execs st X.env) (sk X zn D) X.dN s
def bX{α:Type}{t:Sem α}{Q b:α->akC->Prop}{M:Model}{A:ak4}{E:dk}{s:akC}(h:wpAny M A t Q E s)(c:∀a s,Q a s->b a s):wpAny M A t b E s:=alu h c λ_ _ x=>x
section
variable{X:aV}
def afA(i:Nat):TE:=λU H Q=>∃v,U[i]? = some (some v)/\Q v H
def oS(v:V):TE:=λ_ H Q=>Q v H
def Ac(hN:X.N[i]? = some x)(a:qL X.env.scope x)(hd:(x==("__debug__":Str))=false:=by decide)(b:(x==("__classdict__":Str))=false:=by decide):bZ X (.Name x pos) (afA i):=by
 intro zn s U H Q J h;obtain⟨v,e,h⟩:=h;obtain⟨m,aA,hl⟩:=J.loc;obtain⟨u,r,l⟩:=hl i x v hN e a;have fin:hr X zn U Q u s:=⟨v,H,J,r,h⟩;rcases l with⟨o,hm⟩|⟨o,c,hc,C⟩
 .exact wpAny_Name (wpAny_loadName_local J.ok.kind o aA hm fin) hd
 .rcases o with o|o
  .exact wpAny_Name (wpAny_loadName_cell J.ok.kind o hc C fin) hd
  .exact wpAny_Name (wpAny_loadName_free J.ok.kind o hc C fin b) hd
def adg{i j pos}:bZ X (.Constant (.int i) j pos) (oS (.int i)):=λ_ _ _ H _ J h=>wpAny_Constant_int ⟨.int i,H,J.tok _,⟨_,rfl⟩,h⟩
def ac2{b j pos}:bZ X (.Constant (.bool b) j pos) (oS (.ax b)):=λ_ _ _ H _ J h=>Constant_bool ⟨.ax b,H,J,rfl,h⟩
def adm{j pos}:bZ X (.Constant .none j pos) (oS .aI):=λ_ _ _ H _ J h=>Constant_none ⟨.aI,H,J,rfl,h⟩
def adq{x j pos}:bZ X (.Constant (.str x) j pos) (oS (.str x)):=λ_ _ _ H _ J h=>Calls.Constant_str ⟨.str x,H,J.tok _,⟨_,rfl⟩,h⟩
def d6(X:aV)(x:Str):Prop:=X.env.kindOf x=some .globalImplicit
def tf{E:dk}{zn:c3}{s:akC}{U:St}{H:aw}{x:Str}{u:Value}{pos:Pos}{Q:dk}(J:Inv X zn U H s)(a:d6 X x)(b:X.mg x=some u)(h:Q u s)
  (hd:(x==("__debug__":Str))=false:=by decide):wpAny (model X.prog X.w) X.A (eval (.Name x pos) X.env) Q E s:=
 aot J.ok.kind a (Calls.loadGlobal_global (by rw[J.ok.glob];exact J.mod.glob.keeps J.bk) b h) hd
def ny{E:dk}{zn:c3}{s:akC}{U:St}{H:aw}{x:Str}{u:Value}{pos:Pos}{Q:dk}(J:Inv X zn U H s)(a:d6 X x)(e:X.mg x=none)(d:alm x=some u)(h:Q u s)
  (aA:x≠"__name__":=by decide) (hd:(x==("__debug__":Str))=false:=by decide):wpAny (model X.prog X.w) X.A (eval (.Name x pos) X.env) Q E s:=by
 obtain⟨f,b,c⟩:=J.mod.blt;exact aot J.ok.kind a (Calls.loadGlobal_builtin (by rw[J.ok.glob];exact J.mod.glob.keeps J.bk) e (by rw[J.ok.blt];exact b.keeps J.bk) ((c x aA).trans d) h) hd
def adf{v:V}(a:d6 X x)(b:X.mg x=some u)(r:RelV v u)(hd:(x==("__debug__":Str))=false:=by decide):bZ X (.Name x pos) (oS v):=
 λ_ _ _ H _ J h=>tf J a b ⟨v,H,J,r,h⟩ hd
def wU{v:V}(a:d6 X x)(c:X.mg x=none)(b:alm x=some u)(r:RelV v u)(aA:x≠"__name__":=by decide)(hd:(x==("__debug__":Str))=false:=by decide):bZ X (.Name x pos) (oS v):=
 λ_ _ _ H _ J h=>ny J a c b ⟨v,H,J,r,h⟩ aA hd
variable{a b:Expr}{bW cC:TE}{pos:Pos}
def QQ(X:aV)(op:CmpOp)(a b:Expr)(t:TE):Prop:=
 ∀(zn:c3)(s:akC)(U:St)(H:aw)(Q:cU),Inv X zn U H s->t U H Q->
  wpAny (model X.prog X.w) X.A (eval a X.env) (λv c=>wpAny (model X.prog X.w) X.A (eval b X.env) (λu d=>wpAny (model X.prog X.w) X.A (alj op v u) (hr X zn U Q) X.dN d) X.dN c) X.dN s
def abO(b:Expr){op:CmpOp}(h:op≠.In)(c:op≠.NotIn):amu op b=false:=by
 have au:(op==CmpOp.In)=false:=by cases op<;>first|rfl|exact absurd rfl h
 have aF:(op==CmpOp.NotIn)=false:=by cases op<;>first|rfl|exact absurd rfl c
 cases b<;>simp[amu,au,aF]
def PB(t:TE):TT:=λU H Q=>t U H λx d=>∃c,x=.ax c/\Q c d
def akc{op:CmpOp}(h:QQ X op a b t)(e:amu op b=false:=by first|exact abO _ (by decide) (by decide)|rfl):ie X (.Compare a [op] [b] pos) (PB t):=by
 intro zn s U H Q J hw;refine wpAny_isTrue_Compare1 (bX (h zn s U H _ J hw) λv k e=>bX e λu s2 g=>bX g λc s3 ⟨x,f,j,i,br⟩=>?_) e;obtain⟨d,rfl,q⟩:=br;cases i;exact alG ⟨f,j,q⟩
def OK{e:Expr}(h:bZ X e t)(he:∀c,isTrue e X.env c=(do let v <-c;amB e.pos;alU [v] (truthy v)):=by intro _;rfl):ie X e (PB t):=by
 intro zn s U H Q J hw;refine isTrue_plain (bX (h zn s U H _ J hw) λv j ⟨x,f,i,g,br⟩=>?_) (he _);obtain⟨d,rfl,q⟩:=br;cases g;exact alG ⟨f,i,q⟩
variable{nJ Aw:TT}{rest:List Expr}
def afd(t u:TT):TT:=λU H Q=>t U H λc d=>if c=true then u U d Q else Q false d
def afs(t u:TT):TT:=λU H Q=>t U H λc d=>if c=true then Q true d else u U d Q
def afq(t:TT):TT:=λU H Q=>t U H λc d=>Q (!c) d
def ad2(d:ie X a nJ):lL X (.BoolOp .And [a] pos) nJ:=by
 intro f zn s U H Q J h;refine isTrue_and (bX (d zn s U H Q J h) λc g e=>?_)
 cases c with
 |true=>exact isTrue_and_nil e|false=>exact e
def ad4(d:ie X a nJ):lL X (.BoolOp .Or [a] pos) nJ:=by
 intro f zn s U H Q J h;refine isTrue_or (bX (d zn s U H Q J h) λc g e=>?_)
 cases c with
 |false=>exact isTrue_or_nil e|true=>exact e
def ad1(i:ie X a nJ)(g:lL X (.BoolOp .And (b::rest) pos) Aw):lL X (.BoolOp .And (a::b::rest) pos) (afd nJ Aw):=by
 intro j zn s U H Q J h;refine isTrue_and (bX (i zn s U H _ J h) λc k f=>?_);obtain⟨d,e,br⟩:=f
 cases c with
 |true=>exact g j zn k U d Q e br|false=>exact⟨d,e,br⟩
def ad3(i:ie X a nJ)(g:lL X (.BoolOp .Or (b::rest) pos) Aw):lL X (.BoolOp .Or (a::b::rest) pos) (afs nJ Aw):=by
 intro j zn s U H Q J h;refine isTrue_or (bX (i zn s U H _ J h) λc k f=>?_);obtain⟨d,e,br⟩:=f
 cases c with
 |true=>exact⟨d,e,br⟩|false=>exact g j zn k U d Q e br
def OJ(e:ie X a nJ):ie X (.UnaryOp .Not a pos) (afq nJ):=by
 intro zn s U H Q J h;exact isTrue_not (e zn s U H (λc d=>Q (!c) d) J h)
def afe(bW cC:TE):TE:=λU H Q=>bW U H λx d=>∃c,x=.ax c/\if c=true then cC U d Q else Q (.ax false) d
def aft(bW cC:TE):TE:=λU H Q=>bW U H λx d=>∃c,x=.ax c/\if c=true then Q (.ax true) d else cC U d Q
def afr(bW:TE):TE:=λU H Q=>bW U H λx d=>∃c,x=.ax c/\Q (.ax (!c)) d
def Oy{op}(h:bZ X a t):bZ X (.BoolOp op [a] pos) t:=λzn s U H Q J hw=>BoolOp_one (h zn s U H Q J hw)
def ac1(i:bZ X a bW)(g:bZ X (.BoolOp .And (b::rest) pos) cC):bZ X (.BoolOp .And (a::b::rest) pos) (afe bW cC):=by
 intro zn s U H Q J h;refine BoolOp_and (bX (i zn s U H _ J h) λv k f=>?_);obtain⟨x,d,e,j,br⟩:=f;obtain⟨c,rfl,br⟩:=br;cases j;refine alG ?_
 cases c with
 |true=>exact g zn k U d Q e br|false=>exact⟨.ax false,d,e,rfl,br⟩
def adp(i:bZ X a bW)(g:bZ X (.BoolOp .Or (b::rest) pos) cC):bZ X (.BoolOp .Or (a::b::rest) pos) (aft bW cC):=by
 intro zn s U H Q J h;refine BoolOp_or (bX (i zn s U H _ J h) λv k f=>?_);obtain⟨x,d,e,j,br⟩:=f;obtain⟨c,rfl,br⟩:=br;cases j;refine alG ?_
 cases c with
 |false=>exact g zn k U d Q e br|true=>exact⟨.ax true,d,e,rfl,br⟩
def adn(f:bZ X a bW):bZ X (.UnaryOp .Not a pos) (afr bW):=by
 intro zn s U H Q J h;refine UnaryOp_ (bX (f zn s U H _ J h) λv j e=>?_);obtain⟨x,d,i,g,br⟩:=e;obtain⟨c,rfl,br⟩:=br;cases g;exact not_of (alG ⟨.ax (!c),d,i,rfl,br⟩)
end
def dt(K:aM)(H:aw)(a:Addr)(xs:List V):Prop:=
 hs H a (.l xs)\/
  ∃(o:Obj)(its:Array Value)(n:Nat),K.lookup a=some o/\o.cls=.type "list"/\o.dict=none/\o.data=.seq its n/\its.size<=akA/\Vals xs its.toList
def dB(K:aM)(H:aw)(a:Addr)(xs:List V):Prop:=
 hs H a (.t xs)\/
  ∃(o:Obj)(its:Array Value)(n:Nat),K.lookup a=some o/\o.cls=.type "tuple"/\o.data=.seq its n/\its.size<=akA/\Vals xs its.toList
def Q3:Value->Option V
 |.none=>some .aI|.bool b=>some (.ax b)|.int i _=>some (.int i)|.str x _=>some (.str x)|.bytes b _=>some (.yc b)|.float b _=>some (.yA b)|.ref a=>some (.ref a)|.type n=>some (.ty n)|_=>none
def RelV.abs(r:RelV x u):Q3 u=some x:=by
 cases x with
 |aI=>cases r;rfl
 |ax _=>cases r;rfl
 |int _=>obtain⟨t,rfl⟩:=r;rfl
 |str _=>obtain⟨t,rfl⟩:=r;rfl
 |yc _=>obtain⟨t,rfl⟩:=r;rfl
 |yA _=>obtain⟨t,rfl⟩:=r;rfl
 |ref _=>cases r;rfl
 |ty _=>cases r;rfl
def RelV.inj(r:RelV x u)(q:RelV y u):x=y:=ak1 (r.abs.symm.trans q.abs)
theorem Vals.inj:∀{xs ys:List V}{us:List Value},Vals xs us->Vals ys us->xs=ys
 |_,_,_,.nil,.nil=>rfl| _,_,_,.cons r t,.cons o t'=>by rw[r.inj o,Vals.inj t t']
section
variable{X:aV}{zn:c3}{U:St}{H:aw}{s:akC}{a:Addr}{xs ys:List V}
def dt.of{K:aM}(h:H a=some (.l xs)):dt K H a xs:=.inl (.inl h)
def dB.of{K:aM}(h:H a=some (.t xs)):dB K H a xs:=.inl (.inl h)
def Inv.list(J:Inv X zn U H s)(h:dt X.K H a xs):∃its:List Value,Vals xs its/\PlainL s.heap a its.toArray/\xs.length<=akA:=by
 rcases h with h|⟨o,its,n,C,hc,hd,ay,hz,r⟩
 .obtain⟨z,its,n,r,e⟩:=h.ok J.cb
  exact⟨its,r,⟨_,n,e,rfl,rfl,rfl⟩,z⟩
 .refine⟨its.toList,r,⟨o,n,J.f9 a o C,hc,hd,by simpa using ay⟩,?_⟩
  have e:=r.length;simp only[alk]at e;omega
def Inv.tuple(J:Inv X zn U H s)(h:dB X.K H a xs):∃its:List Value,Vals xs its/\IsTup s.heap a its.toArray/\xs.length<=akA:=by
 rcases h with h|⟨o,its,n,C,hc,ay,hz,r⟩
 .obtain⟨z,its,r,p⟩:=h.ok J.cb
  exact⟨its,r,p,z⟩
 .refine⟨its.toList,r,⟨o,J.f9 a o C,hc,n,by simpa using ay⟩,?_⟩
  have e:=r.length;simp only[alk]at e;omega
def Inv.Nw(J:Inv X zn U H s)(h:dt X.K H a xs)(h':dt X.K H a ys):xs=ys:=by
 obtain⟨its,r,⟨o,n,e,_,_,d⟩,_⟩:=J.list h;obtain⟨its',c,⟨f,g,b,_,_,d'⟩,_⟩:=J.list h';rw[e]at b;cases b;rw[d]at d';injection d' with C _
 have:its=its':=by simpa using congrArg Array.toList C
 subst this;exact r.inj c
def Inv.PK(J:Inv X zn U H s)(h:dB X.K H a xs)(h':dB X.K H a ys):xs=ys:=by
 obtain⟨its,r,⟨o,e,_,n,d⟩,_⟩:=J.tuple h;obtain⟨its',c,⟨f,b,_,g,d'⟩,_⟩:=J.tuple h';rw[e]at b;cases b;rw[d]at d';injection d' with C _
 have:its=its':=by simpa using congrArg Array.toList C
 subst this;exact r.inj c
end
abbrev aV.mC(X:aV)(E:dk):aV:={ X with dN:=E }
abbrev aV.gB(X:aV):aV:=X.mC λ_ _=>False
def aV.Ok.mC{X:aV}(ok:X.Ok)(E:dk):(X.mC E).Ok:=
 ⟨ok.mod,ok.kind,ok.glob,ok.blt,ok.above,ok.inj,ok.has,ok.u5,ok.hd,ok.frames,ok.As,ok.yw,ok.bs,ok.lU,ok.wD,ok.ve,ok.kB,ok.pQ⟩
def aV.Ok.oZ{X:aV}(ok:(X.mC E).Ok):X.Ok:=
 ⟨ok.mod,ok.kind,ok.glob,ok.blt,ok.above,ok.inj,ok.has,ok.u5,ok.hd,ok.frames,ok.As,ok.yw,ok.bs,ok.lU,ok.wD,ok.ve,ok.kB,ok.pQ⟩
section
variable{X:aV}{zn:c3}{U:St}{H:aw}{s:akC}{E:dk}
def Inv.mC(J:Inv X zn U H s)(E:dk):Inv (X.mC E) zn U H s:=⟨J.ok.mC E,J.os,J.bare,J.base,J.loc,J.cell,J.free,J.lZ,J.pin,J.cb,J.len⟩
def Inv.oZ(J:Inv (X.mC E) zn U H s):Inv X zn U H s:=⟨J.ok.oZ,J.os,J.bare,J.base,J.loc,J.cell,J.free,J.lZ,J.pin,J.cb,J.len⟩
def sk.oZ{D:Ends}(h:sk (X.mC E) zn D f o):sk X zn D f o:=by
 cases f with
 |next=>obtain⟨U',H',J,q⟩:=h;exact⟨U',H',J.oZ,q⟩
 |brk=>obtain⟨U',H',J,q⟩:=h;exact⟨U',H',J.oZ,q⟩
 |cont=>obtain⟨U',H',J,q⟩:=h;exact⟨U',H',J.oZ,q⟩
 |ret u=>obtain⟨v,U',H',J,r,q⟩:=h;exact⟨v,U',H',J.oZ,r,q⟩
theorem bZ.gB(h:bZ X.gB e t):bZ X e t:=λzn s U H Q J hw=>
 alu (h zn s U H Q (J.mC _) hw) (λ_ _ ⟨v,H',a,r,q⟩=>⟨v,H',a.oZ,r,q⟩) λ_ _ z=>alf z
theorem ic.gB{st:List Stmt}{t:gK}(h:ic X.gB st t):ic X st t:=λzn s U H D J hw=>
 alu (h zn s U H D (J.mC _) hw) (λ_ _ q=>q.oZ) λ_ _ z=>alf z
end
section
variable{X:aV}{st:Stmt}{rest:List Stmt}{t u:gK}{e:Expr}{te:TE}{pos:Pos}
def afo:gK:=λD U H=>D.bu U H
def afw(t u:gK):gK:=λD U H=>t { D with bu:=u D } U H
def adR:ic X [] afo:=λ_ _ U H _ J h=>anY ⟨U,H,J,h⟩
def OH(a:iH X st t)(b:ic X rest u):ic X (st::rest) (afw t u):=by
 intro zn s U H D J h;refine wpAny_execs_cons (bX (a zn s U H { D with bu:=u D } J h) λf d q=>?_)
 cases f with
 |next=>
  obtain⟨U',H',c,q⟩:=q;exact b zn d U' H' D c q
 |ret v=>exact q|brk=>exact q|cont=>exact q
def OI(a:iH X st t):ic X [st] t:=by
 intro zn s U H D J h;refine wpAny_execs_cons (bX (a zn s U H D J h) λf b q=>?_)
 cases f with
 |next=>exact anY q
 |ret v=>exact q|brk=>exact q|cont=>exact q
def Inv.quiet{s:akC}(J:Inv X zn U H s):interactive X.env=false:=by simp[interactive,J.ok.kind]
def afi(te:TE):gK:=λD U H=>te U H λ_ a=>D.bu U a
def E3(he:bZ X e te)(ay:amj e none pos.line X.env=pure false:=by rfl):iH X (.Expr e pos) (afi te):=by
 intro zn s U H D J h;exact wpAny_Expr_any (bX (he zn s U H _ J h) λv d ⟨x,a,b,c,br⟩=>⟨U,a,b,br⟩) J.quiet ay
def afv(te:TE):gK:=λD U H=>te U H D.cx
def E4(he:bZ X e te):iH X (.Return (some e) pos) (afv te):=by
 intro zn s U H D J h;exact wpAny_Return_some (bX (he zn s U H _ J h) λv d ⟨x,a,c,b,br⟩=>⟨x,U,a,c,b,br⟩)
def afk(c:TT)(t u:gK):gK:=λD U H=>c U H λb a=>if b=true then t D U a else u D U a
def OF(m:ie X c o)(l:ic X a t)(k:ic X b u):iH X (.If c a b pos) (afk o t u):=by
 intro zn s U H D J h;refine wpAny_If (bX (m zn s U H _ J h) λd i j=>?_);obtain⟨f,g,br⟩:=j
 cases d with
 |true=>exact l zn i U f D g br|false=>exact k zn i U f D g br
def afn:gK:=λ_ _ _=>False
def adQ:iH X st afn:=λ_ _ _ _ _ _ h=>h.elim
end
abbrev iI:=V->St->aw->(St->aw->Prop)->Prop
abbrev pA:=List V->St->aw->(St->aw->Prop)->Prop
def nS(X:aV)(a:Expr)(t:iI):Prop:=
 ∀(zn:c3)(s:akC)(U:St)(H:aw)(v:V)(u:Value)(Q:St->aw->Prop),Inv X zn U H s->RelV v u->t v U H Q->
  wpAny (model X.prog X.w) X.A (amY a X.env u) (λ_ b=>∃U' H',Inv X zn U' H' b/\Q U' H') X.dN s
def qJ(X:aV)(dC:List Expr)(t:pA):Prop:=
 ∀(zn:c3)(s:akC)(U:St)(H:aw)(vs:List V)(us:List Value)(Q:St->aw->Prop),Inv X zn U H s->Vals vs us->t vs U H Q->
  wpAny (model X.prog X.w) X.A (assignInOrder ((alw dC X.env).map (·.2)) us) (λ_ a=>∃U' H',Inv X zn U' H' a/\Q U' H') X.dN s
abbrev Bk:=V->V->V->aw->(aw->Prop)->Prop
def GG(X:aV)(t:Bk):Prop:=
 ∀(zn:c3)(s:akC)(U:St)(H:aw)(o i v:V)(bR a u:Value)(Q:aw->Prop),Inv X zn U H s->RelV o bR->RelV i a->RelV v u->t o i v H Q->
  wpAny (model X.prog X.w) X.A (setItem bR a u) (λ_ b=>∃H',Inv X zn U H' b/\Q H') X.dN s
section
variable{X:aV}{pos:Pos}
def kC(i:Nat):iI:=λv U H Q=>Q (U.set i (some v)) H
def tY(hN:X.N.Nodup)(hi:X.N[i]? = some x)(a:Loc X.env.scope x)(c:X.fn x=true\/X.env.scope.names.lookup x=some .local:=by first|exact .inl rfl|exact .inr rfl|assumption):nS X (.Name x pos) (kC i):=by
 intro zn s U H v u Q J r h;exact wpAny_assign_Name (Px J hN hi a r (λd b=>⟨_,H,b,h⟩) c)
def LI:pA:=λvs U H Q=>vs=[]/\Q U H
def LG(t:iI)(u:pA):pA:=λvs U H Q=>∃v r,vs=v::r/\t v U H λU' H'=>u r U' H' Q
def adA:qJ X [] LI:=by
 intro zn s U H vs us Q J r h;obtain⟨e,h⟩:=h;subst e;cases r;exact assignInOrder_nil ⟨U,H,J,h⟩
def ady{e:Expr}{a:List Expr}{t:iI}{u:pA}(d:nS X e t)(f:qJ X a u)
  (ay:(alw (e::a) X.env).map (·.2)=amY e X.env::(alw a X.env).map (·.2):=by rfl):qJ X (e::a) (LG t u):=by
 intro zn s U H vs us Q J r h;obtain⟨v,l,au,h⟩:=h;subst au
 cases r with
 |cons r i=>
  rw[ay];refine assignInOrder_cons (bX (d zn s U H _ _ _ J r h) λ_ k c=>?_);obtain⟨j,b,g,br⟩:=c;exact f zn k j b _ _ Q g i br
def CX(K:aM)(n:Nat)(t:pA):iI:=λv U H Q=>∃a xs,v=.ref a/\dB K H a xs/\xs.length=n/\t xs U H Q
def adx{c:List Expr}{k:Nat}{t:pA}{n:Nat}(m:X.calm=true)(h:qJ X c t)
  (aA:(alw c X.env).length=n:=by rfl) (l:(alw c X.env).findIdx? (·.1)=none:=by rfl):nS X (.Tuple c k pos) (CX X.K n t):=by
 intro zn s U H v u Q J r hw;obtain⟨a,xs,au,f,hl,hw⟩:=hw;subst au;cases r;obtain⟨its,d,i,hz⟩:=J.tuple f;refine assign_Tuple_tuple (J.ok.hd m) i (by simp[aA,<-hl,d.length]) l λh' g=>?_
 have j:Inv X zn U H { s with heap:=h' }:=J.kept (t':=s.toks) λb o e=>g b o (alc (akM e)) e
 exact h zn _ U H xs _ Q j (by simpa using d) hw
def UE(to a:TE)(t:Bk):iI:=λv U H Q=>to U H λo b=>a U b λi c=>t o i v c λd=>Q U d
def adw{o i:Expr}{to c:TE}{t:Bk}(e:bZ X o to)(hi:bZ X i c)(ay:GG X t)
  (g:∀v,amY (.Subscript o i pos) X.env v=(do
   let bR <-alU [v] (eval o X.env)
   let b <-alU [v,bR] (eval i X.env)
   amB pos
   alU [v,bR,b] (setItem bR b v)
   release [v,bR,b] []):=by intro _;rfl):nS X (.Subscript o i pos) (UE to c t):=by
 intro zn s U H v u Q J r h;rw[g];refine akv (al5 (bX (e zn s U H _ J h) λbR w a=>?_));obtain⟨x,d,m,l,br⟩:=a;refine akv (al5 (bX (hi zn w U d _ m br) λb s2 a=>?_));obtain⟨y,f,k,j,bS⟩:=a;refine akv (anI (akv (al5 (bX (ay zn s2 U f x y v bR b u _ k l j r bS) λ_ s3 a=>?_))));obtain⟨n,q,p⟩:=a;exact wpAny_release ⟨U,n,q,p⟩
def ug(te:TE)(g:iI):gK:=λD U H=>te U H λx a=>g x U a D.bu
def adN{cg e:Expr}{te:TE}{g:iI}(he:bZ X e te)(b:nS X cg g)(ay:swapsWithSole [cg] e pos.line X.env=pure false:=by rfl)(hw:swappedStores [cg] e X.env=pure none:=by rfl)
  (c:(alw [cg] X.env).map (·.2)=[amY cg X.env]:=by rfl):iH X (.Assign [cg] e pos) (ug te g):=by
 intro zn s U H D J h;refine wpAny_Assign_stores (bX (he zn s U H _ J h) λv i ⟨x,a,f,d,br⟩=>?_) ay hw;rw[c];exact bX (b zn i U a x v _ f d br) λ_ s2 q=>q
def E5(hN:X.N.Nodup)(hi:X.N[i]? = some x)(b:Loc X.env.scope x)(he:bZ X e te)(ay:amj e (some (.Name x pos')) pos.line X.env=pure false:=by rfl)(g:X.fn x=true\/X.env.scope.names.lookup x=some .local:=by first|exact .inl rfl|exact .inr rfl|assumption) :
  iH X (.Assign [.Name x pos'] e pos) (ug te (kC i)):=by
 intro zn s U H D J h;refine wpAny_Assign_Name (bX (he zn s U H _ J h) λv j ⟨y,a,f,d,br⟩=>?_) ay;exact Px f hN hi b d (λs2 c=>⟨_,a,c,br⟩) g
end
section
variable{X:aV}{pos:Pos}
def FP(c:TT)(cC:gK):gK:=λD U H=>∃W:Nat->St->aw->Prop,(∃m,W m U H)/\∀m U H,W m U H->
 c U H λb a=>if b=true then ∃N:St->aw->Prop,(∀U' H',N U' H'->∃d,d<m/\W d U' H')/\cC { D with bu:=N,cy:=N,bk:=D.bu } U a else D.bu U a
def OG(r:aon (model X.prog X.w) X.A X.env X.dN)(B:ie X c o)(y:ic X body cC):iH X (.While c body [] pos) (FP o cC):=by
 intro zn s U H D J h;obtain⟨W,⟨E,I⟩,turn⟩:=h;refine wpAny_While (codeAny_whileLoop (λn x=>∃U' H',Inv X zn U' H' x/\W n U' H') ?_ E ⟨U,H,J,I⟩);rintro n G ⟨g,p,z,F⟩;refine amC r (bX (B zn G g p _ z (turn n g p F)) λb s2 u=>?_);obtain⟨q,t,bS⟩:=u
 cases b with
 |true=>
  obtain⟨N,hN,bS⟩:=bS;rw[if_pos rfl];refine amC r (bX (y zn s2 g q _ t bS) λf s3 e=>?_)
  cases f with
  |next=>
   obtain⟨d,a,i,l⟩:=e;obtain⟨j,k,m⟩:=hN d a l;exact⟨j,k,d,a,i,m⟩
  |cont=>
   obtain⟨d,a,i,l⟩:=e;obtain⟨j,k,m⟩:=hN d a l;exact⟨j,k,d,a,i,m⟩
  |brk=>exact e|ret v=>exact e
 |false=>
  rw[if_neg akD];exact anY ⟨g,q,t,bS⟩
end
structure ib where
 go:Nat->aw->Prop
 pb:Nat->aw->V->aw->Prop
 stop:Nat->aw->Prop
def gU(X:aV)(zn:c3)(H:aw)(b:Addr):Prop:=
 H b=none/\b≠X.env.locals/\b∉X.aW/\(b∈X.ex\/X.gQ.heap.objs.size<=b)/\(∀x c,X.env.cells.lookup x=some c->c≠b)/\∀p∈X.nG++zn,p.1≠b
def Inv.q_{H H':aw}{s:akC}(J:Inv X zn U H s)(a:s.heap.objs.size<=b)(aA:H' b=none):gU X zn H' b:=by
 refine⟨aA,Nat.ne_of_gt (ala J.lt a),J.abR a,.inr (ald J.oR a),λx c e z=>?_,λp d z=>?_⟩
 .obtain⟨v,q⟩:=J.cell x c e
  exact absurd (ala q.lt (by rw[z];exact a)) (als _)
 .exact absurd (ala (akM (J.pin p d).1) (by rw[z];exact a)) (als _)
structure Turn(P:akZ)(w:World)(K:aM)(cg:Expr)(cq:ib)(aS:List Addr)(it:Addr)(ew:Nat->Heap->Prop):Prop where
 mem:it∈aS
 obj:∀i h,ew i h->∀b∈aS,∃o,h.get? b=some o/\∀v,o.data≠.cell v
 keep:∀i h h',ew i h->(∀b∈aS,∀o,h.get? b=some o->h'.get? b=some o)->ew i h'
 item:∀(X:aV),X.prog=P->X.w=w->X.K=K->X.calm=true->∀(i:Nat)(zn:c3)(s:akC)(U:St)(H:aw)(E:dk),Inv X zn U H s->(∀b∈aS,gU X zn H b)->ew i s.heap->cq.go i H->
  wpAny (model P w) X.A (anr (.ref it)) (λr s1=>∃u,r=some u/\
   wpAny (model P w) X.A (anZ cg (.ref it) u) (λ_ s2=>∃x H',Inv X zn U H' s2/\RelV x u/\cq.pb i H x H'/\ew (i+1) s2.heap/\∀b∈aS,H' b=none) E s1) E s
 done:∀(X:aV),X.prog=P->X.w=w->X.K=K->X.calm=true->∀(i:Nat)(zn:c3)(s:akC)(U:St)(H:aw)(E:dk),Inv X zn U H s->(∀b∈aS,gU X zn H b)->ew i s.heap->cq.stop i H->
  wpAny (model P w) X.A (anr (.ref it)) (λr s1=>r=none/\Inv X zn U H s1) E s
 self:∀(A:ak4)(i:Nat)(s:akC)(Q:dk)(E:dk),ew i s.heap->Q (.ref it) s->wpAny (model P w) A (pyIter (.ref it)) Q E s
abbrev TI:=St->aw->(ib->aw->Prop)->Prop
def GF(X:aV)(zn:c3)(U:St)(cg:Expr)(R:ib->aw->Prop)(d:Value)(s2:akC):Prop:=
 ∃(it:Addr)(a:List Addr)(ew:Nat->Heap->Prop)(c:ib)(H':aw),d=.ref it/\Inv X zn U H' s2/\Turn X.prog X.w X.K cg c a it ew/\ew 0 s2.heap/\(∀b∈a,gU X zn H' b)/\R c H'
def j1(X:aV)(cg a:Expr)(wi:TI):Prop:=
 ∀(zn:c3)(s:akC)(U:St)(H:aw)(R:ib->aw->Prop),Inv X zn U H s->wi U H R->
  wpAny (model X.prog X.w) X.A (eval a X.env) (λv b=>wpAny (model X.prog X.w) X.A (pyIter v) (GF X zn U cg R) X.dN b) X.dN s
def vl{M:Model}{A:ak4}{E:dk}{s:akC}{cg:Expr}{it:Addr}{u:Value}{o:Obj}{n:String}{vs:Array Value}{Q:Unit->akC->Prop}(b:s.heap.get? it=some o)(c:o.cls=.type n)(hd:o.data=.fields vs)
    (aA:["enumerate","zip","dict_itemiterator","dict_reverseitemiterator","odict_iterator","itertools.zip_longest","itertools.pairwise"].contains n=false) (a:Q () s):wpAny M A (anZ cg (.ref it) u) Q E s:=by
  unfold anZ;cases cg<;>first
    |exact akG a
    |(cases u<;>first
        |exact akG a
        | (refine akv (wpAny_load b ?_)
           rw[c,hd];show wpAny M A (if(["enumerate","zip","dict_itemiterator","dict_reverseitemiterator","odict_iterator","itertools.zip_longest","itertools.pairwise"].contains n&&vs[0]? == some (amF _))=true then _ else _) Q E s;rw[if_neg (by intro h;rw[aA,Bool.false_and]at h;cases h)];exact akG a))
def pq(K:aM)(a:Addr):ib:=
 ⟨λi H=>∃xs x,dt K H a xs/\xs[i]? = some x,λi H x H'=>H'=H/\∀xs,dt K H a xs->xs[i]? = some x,λi H=>∃xs,dt K H a xs/\xs.length<=i⟩
def sa(K:aM)(a:Addr):ib:=
 ⟨λi H=>∃xs x,dB K H a xs/\xs[i]? = some x,λi H x H'=>H'=H/\∀xs,dB K H a xs->xs[i]? = some x,λi H=>∃xs,dB K H a xs/\xs.length<=i⟩
def mP(lo:Int)(n:Nat):ib:=⟨λi _=>i<n,λi H x H'=>H'=H/\x=.int (lo+i),λi _=>n<=i⟩
def afY{P:akZ}{w:World}{K:aM}{cg:Expr}(a it:Addr):Turn P w K cg (pq K a) [it] it (λi h=>h.IsListIter it a i) where
 mem:=by simp
 obj:=λi h st b f=>by
  have e:b=it:=by simpa using f
  subst e;obtain⟨o,e,c,d⟩:=st;exact⟨o,e,λv z=>by rw[d]at z;cases z⟩
 keep:=λi h h' st k=>st.at λo e=>k it (by simp) o e
 item:=by
  intro X q hw D G i zn s U H E J j st l;subst q hw D;obtain⟨xs,x,g,m⟩:=l;obtain⟨its,n,p,hz⟩:=J.list g;obtain⟨u,N,O⟩:=n.get m;obtain⟨r,t,Q,A,y,B⟩:=j it (by simp);refine wpAny_pyNext_list_item st p.isList (x:=u) (by simpa using N) λh' F R=>?_
  have L:Inv X zn U H { s with heap:=h' }:=J.turned (t':=s.toks) (λb o f e=>(R.2 b f).trans e) r t A y B;obtain⟨o,e,c,d⟩:=id F;exact⟨u,rfl,vl (s:={ s with heap:=h' }) e c d (by decide) ⟨x,H,L,O,⟨rfl,λys I=>by rw[J.Nw I g];exact m⟩,F,λb f=>(j b f).1⟩⟩
 done:=by
  intro X q hw D G i zn s U H E J j st l;subst q hw D;obtain⟨xs,g,m⟩:=l;obtain⟨its,n,p,hz⟩:=J.list g;obtain⟨r,t,Q,A,y,B⟩:=j it (by simp);have hl:=n.length;exact wpAny_pyNext_list_end (J.ok.hd G) st p.isList (by simp;omega) λh' M=>⟨rfl,J.turned (t':=s.toks) (λb o f e=>M b o f e) r t A y B⟩
 self:=λ_ _ _ _ _ st h=>wpAny_pyIter_listiter st h
def af0{P:akZ}{w:World}{K:aM}{cg:Expr}(a it:Addr):Turn P w K cg (sa K a) [it] it (λi h=>h.IsTupleIter it a i) where
 mem:=by simp
 obj:=λi h st b f=>by
  have e:b=it:=by simpa using f
  subst e;obtain⟨o,e,c,d⟩:=st;exact⟨o,e,λv z=>by rw[d]at z;cases z⟩
 keep:=λi h h' st k=>st.at λo e=>k it (by simp) o e
 item:=by
  intro X q hw D G i zn s U H E J j st l;subst q hw D;obtain⟨xs,x,g,m⟩:=l;obtain⟨its,n,p,hz⟩:=J.tuple g;obtain⟨u,N,O⟩:=n.get m;obtain⟨r,t,Q,A,y,B⟩:=j it (by simp);refine wpAny_pyNext_tuple_item st (show s.heap.IsTuple a its.toArray from p) (x:=u) (by simpa using N) λh' F R=>?_
  have L:Inv X zn U H { s with heap:=h' }:=J.turned (t':=s.toks) (λb o f e=>(R.2 b f).trans e) r t A y B;obtain⟨o,e,c,d⟩:=id F;exact⟨u,rfl,vl (s:={ s with heap:=h' }) e c d (by decide) ⟨x,H,L,O,⟨rfl,λys I=>by rw[J.PK I g];exact m⟩,F,λb f=>(j b f).1⟩⟩
 done:=by
  intro X q hw D G i zn s U H E J j st l;subst q hw D;obtain⟨xs,g,m⟩:=l;obtain⟨its,n,p,hz⟩:=J.tuple g;obtain⟨r,t,Q,A,y,B⟩:=j it (by simp);have hl:=n.length;exact wpAny_pyNext_tuple_end (J.ok.hd G) st (show s.heap.IsTuple a its.toArray from p) (by simp;omega) λh' M=>⟨rfl,J.turned (t':=s.toks) (λb o f e=>M b o f e) r t A y B⟩
 self:=λ_ _ _ _ _ st h=>wpAny_pyIter_tupleiter st h
def afZ{P:akZ}{w:World}{K:aM}{cg:Expr}(it:Addr)(lo:Int)(n:Nat):Turn P w K cg (mP lo n) [it] it (λi h=>IsRangeIter h it (lo+(i:Nat)*1) ((n:Int)-(i:Nat)) 1) where
 mem:=by simp
 obj:=λi h st b a=>by
  have e:b=it:=by simpa using a
  subst e;exact⟨_,st,λv z=>by
   have F:Data.fields _=Data.cell v:=z;cases F⟩
 keep:=λi h h' st k=>k it (by simp) _ st
 item:=by
  intro X f hw q r i zn s U H E J c st d;subst f hw q;obtain⟨g,j,B,m,l,p⟩:=c it (by simp);have W:=Walks.range (prog:=X.prog) (w:=X.w) (J.ok.hd r) it lo 1 n;refine W.item i s _ _ d st λv h' tk x u D=>?_
  obtain⟨t,rfl⟩:=x;have y:Inv X zn U H { s with heap:=h',toks:=tk }:=J.turned (λb o a e=>D b o (by simpa using a) e) g j m l p;refine⟨_,rfl,vl (s:={ s with heap:=h',toks:=tk }) (n:="range_iterator") u rfl rfl (by decide) ⟨.int (lo+i),H,y,⟨t,?_⟩,⟨rfl,rfl⟩,u,λb a=>(c b a).1⟩⟩;rw[Int.mul_one]
 done:=by
  intro X f hw q r i zn s U H E J c st d;subst f hw q;obtain⟨g,j,B,m,l,p⟩:=c it (by simp);exact wpAny_pyNext_range_end (J.ok.hd r) st (by have:n<=i:=d;omega) λh' A=>⟨rfl,J.turned (t':=s.toks) (λb o a e=>A b o a e) g j m l p⟩
 self:=λ_ _ _ _ _ st h=>wpAny_pyIter_rangeiter st h
section
variable{X:aV}{cg:Expr}
def Yn(K:aM)(c:TE):TI:=λU H R=>c U H λx b=>∃a,x=.ref a/\(∃xs,dt K b a xs)/\R (pq K a) b
def Yp(K:aM)(c:TE):TI:=λU H R=>c U H λx b=>∃a,x=.ref a/\(∃xs,dB K b a xs)/\R (sa K a) b
def OB(hl:bZ X l C):j1 X cg l (Yn X.K C):=by
 intro zn s U H R J h;refine bX (hl zn s U H _ J h) λv d i=>?_
 obtain⟨x,f,c,k,br⟩:=i;obtain⟨a,e,⟨xs,g⟩,q⟩:=br;subst e;cases k;obtain⟨its,m,p,hz⟩:=c.list g;refine amG p.isList ?_;refine⟨d.heap.objs.size,[d.heap.objs.size],_,_,f,rfl,c.kept (t':=d.toks) λb o e=>aky _ e,afY a _,⟨_,akK _ rfl,rfl,rfl⟩,λb j=>?_,q⟩;have e:b=d.heap.objs.size:=by simpa using j
 subst e;exact c.q_ (akE _) (c.cb.fresh (akE _))
def OC(hl:bZ X l C):j1 X cg l (Yp X.K C):=by
 intro zn s U H R J h;refine bX (hl zn s U H _ J h) λv c i=>?_
 obtain⟨x,f,d,k,br⟩:=i;obtain⟨a,e,⟨xs,g⟩,q⟩:=br;subst e;cases k;obtain⟨its,m,p,hz⟩:=d.tuple g;refine amZ (show c.heap.IsTuple a its.toArray from p) ?_;refine⟨c.heap.objs.size,[c.heap.objs.size],_,_,f,rfl,d.kept (t':=c.toks) λb o e=>aky _ e,af0 a _,⟨_,akK _ rfl,rfl,rfl⟩,λb j=>?_,q⟩;have e:b=c.heap.objs.size:=by simpa using j
 subst e;exact d.q_ (akE _) (d.cb.fresh (akE _))
def O6{zn:c3}{U:St}{H:aw}{s:akC}{R:ib->aw->Prop}{E:dk}{lo hi:Int}{t u v:Tok}{tk:Nat}(J:Inv X zn U H s)(d:-(2 ^ 62)<=lo)(f:lo<2 ^ 62)(g:-(2 ^ 62)<=hi)(h:hi<2 ^ 62)
  (q:R (mP lo (hi-lo).toNat) H):wpAny (model X.prog X.w) X.A (pyIter (.ref s.heap.objs.size)) (GF X zn U cg R) E { s with heap:=s.heap.push { cls:=.type "range",data:=.fields #[.int lo t,.int hi u,.int 1 v] },toks:=tk }:=by
 refine wpAny_pyIter_range (IsRange.new ..) (small_one d f g h) ?_;have a:Inv X zn U H { s with heap:=s.heap.push { cls:=.type "range",data:=.fields #[.int lo t,.int hi u,.int 1 v] },toks:=tk }:=J.kept λb o e=>aky _ e
 refine⟨(s.heap.push { cls:=.type "range",data:=.fields #[.int lo t,.int hi u,.int 1 v] }).objs.size,[(s.heap.push { cls:=.type "range",data:=.fields #[.int lo t,.int hi u,.int 1 v] }).objs.size],_,_,H,rfl,
  a.kept (t':=tk) λb o e=>aky _ e,afZ _ lo (hi-lo).toNat,?_,λb c=>?_,q⟩
 .have au:lo+((0:Nat):Int)*1=lo:=by simp
  have aF:(((hi-lo).toNat:Nat):Int)-((0:Nat):Int)=Builtin.Range.rangeSize lo hi 1:=by rw[rangeSize_one];split<;>omega
  show IsRangeIter _ _ (lo+((0:Nat):Int)*1) ((((hi-lo).toNat:Nat):Int)-((0:Nat):Int)) 1;rw[au,aF];exact akK _ rfl
 .have e:b=(s.heap.push { cls:=.type "range",data:=.fields #[.int lo t,.int hi u,.int 1 v] }).objs.size:=by simpa using c
  subst e;exact a.q_ (akE _) (a.cb.fresh (akE _))
def DG(b:fQ):TI:=λU H R=>b U H λvs a=>∃j:Int,vs=[.int j]/\-(2 ^ 62)<=j/\j<2 ^ 62/\R (mP 0 j.toNat) a
def Yo(b:fQ):TI:=λU H R=>b U H λvs a=>∃i j:Int,vs=[.int i,.int j]/\(-(2 ^ 62)<=i/\i<2 ^ 62/\-(2 ^ 62)<=j/\j<2 ^ 62)/\R (mP i (j-i).toNat) a
def E2(b:d6 X "range")(i:X.mg "range"=none)(c:gV X [a] o)(ay:akx [a] X.env=[(false,eval a X.env)]:=by rfl):j1 X cg (.Call (.Name "range" p) [a] [] pos) (DG o):=by
 intro zn s U H R J h;refine Call_ (ny J b i boot_range (alR (bX (c pos zn s U H _ J h) λus l ⟨vs,k,f,d,br⟩=>?_) ay rfl));obtain⟨j,e,br,bS,q⟩:=br;subst e
 cases d with
 |cons r g=>
  cases g;obtain⟨t,rfl⟩:=r;exact call_range_1 (O6 f (by omega) (by omega) br bS (by simpa using q))
def adB{p pos:Pos}(f:d6 X "range")(u:X.mg "range"=none)(g:gV X [a,b] o)(ay:akx [a,b] X.env=[(false,eval a X.env),(false,eval b X.env)]:=by rfl)(d:akx [b] X.env=[(false,eval b X.env)]:=by rfl) :
  j1 X cg (.Call (.Name "range" p) [a,b] [] pos) (Yo o):=by
 intro zn s U H R J h;refine Call_ (ny J f u boot_range (alR (bX (g pos zn s U H _ J h) λus y ⟨vs,x,l,k,br⟩=>?_) (by rw[ay,d]) (by rw[d];rfl)));obtain⟨i,j,e,⟨br,bS,n,w⟩,q⟩:=br;subst e
 cases k with
 |cons r c=>
  cases c with
  |cons m c=>
   cases c;obtain⟨t,rfl⟩:=r;obtain⟨t',rfl⟩:=m;exact call_range_2 (O6 l br bS n w q)
def w'(wi:TI)(g:iI)(cC:gK):gK:=λD U H=>wi U H λa c=>∃W:Nat->Nat->St->aw->Prop,(∃m,W 0 m U c)/\∀i m U H,W i m U H->
 (a.stop i H/\D.bu U H)\/(a.go i H/\∃N:St->aw->Prop,(∀U' H',N U' H'->∃b,b<m/\W (i+1) b U' H')/\∀x H',a.pb i H x H'->g x U H' λe d=>cC { D with bu:=N,cy:=N,bk:=D.bu } e d)
def rT(a:List Addr)(h:Heap):List (Addr×Obj):=a.filterMap λb=>(h.get? b).map λo=>(b,o)
def zS{h:Heap}(a:b∈C)(e:h.get? b=some o):(b,o)∈rT C h:=List.mem_filterMap.mpr ⟨b,a,by rw[e];rfl⟩
def ab5{h:Heap}(a:p∈rT C h):p.1∈C/\h.get? p.1=some p.2:=by
 obtain⟨b,c,e⟩:=List.mem_filterMap.mp a
 cases q:h.get? b with
 |none=>rw[q]at e;cases e
 |some o=>
  rw[q]at e;have d:(b,o)=p:=ak1 e;subst d;exact⟨c,q⟩
def Inv.pinned{s:akC}(J:Inv X zn U H s)(k:∀b∈C,gU X zn H b)(f:∀b∈C,∃o,s.heap.get? b=some o/\∀v,o.data≠.cell v):Inv X (zn++rT C s.heap) U H s:=
 J.OD λp g=>(alp.mp g).elim (λz=>J.pin p (alq _ z)) λz=>by
  obtain⟨a,e⟩:=ab5 z;obtain⟨h,i,j,_⟩:=k p.1 a;obtain⟨o,c,d⟩:=f p.1 a;rw[e]at c;cases c;exact⟨e,h,i,j,d⟩
def Inv.xg{s:akC}(J:Inv X (zn++pl) U H s):Inv X zn U H s:=J.OD λp a=>J.pin p (alq _ (List.mem_append_left _ a))
def OE{j:Expr}{body:List Stmt}{wi:TI}{g:iI}{cC:gK}{pos:Pos}(y:aon (model X.prog X.w) X.A X.env X.dN)(Y:X.calm=true)(hi:j1 X cg j wi)(aR:nS X cg g)(a:ic X body cC)
  (ay:∀x,alz j X.env x=pure x:=by intro _;rfl):iH X (.For cg j body [] pos) (w' wi g cC):=by
 intro zn s U H D J h;refine wpAny_For (bX (hi zn s U H _ J h) λv s1 ag=>bX ag λzb s2 ah=>?_) ay;obtain⟨it,z,ew,cq,aK,e,b7,T,bK,S,W,⟨m0,xh⟩,turn⟩:=ah;subst e;have M:∀{H':aw},(∀b∈z,H' b=none)->∀b∈z,gU X zn H' b:=λaA b a=>⟨aA b a,(S b a).2⟩
 refine codeAny_forLoop_any (λn Q=>∃i U' H',Inv X zn U' H' Q/\ew i Q.heap/\(∀b∈z,H' b=none)/\W i n U' H') ?_ m0 ⟨0,U,aK,b7,bK,λb a=>(S b a).1,xh⟩;rintro n s3 ⟨i,B,F,R,V,P,xi⟩;rcases turn i n B F xi with⟨stop,iV⟩|⟨go,N,hN,step⟩
 .refine amC y (bX (T.done X rfl rfl rfl Y i zn s3 B F X.dN R (M P) V stop) λr s4 t=>?_)
  obtain⟨aD,jZ⟩:=t;subst aD;exact anY ⟨B,F,jZ,iV⟩
 .refine amC y (bX (T.item X rfl rfl rfl Y i zn s3 B F X.dN R (M P) V go) λr s4 t=>?_)
  obtain⟨u,aD,cW⟩:=t;subst aD;refine amC y (bX cW λ_ C t=>?_);obtain⟨x,Z,r_,Fe,AZ,O,yD⟩:=t;have QJ:=r_.pinned (M yD) (T.obj _ _ O);refine amC y (bX (aR _ C B Z x u _ QJ Fe (step x Z AZ)) λ_ ua t=>?_);obtain⟨K,QC,uK,t4⟩:=t;refine amC y (bX (a _ ua K QC _ uK t4) λf L q=>?_);have c:∀{p:St}{k:aw},Inv X (zn++rT z C.heap) p k L->N p k->∃m,m<n/\∃i U' H',Inv X zn U' H' L/\ew i L.heap/\(∀b∈z,H' b=none)/\W i m U' H':=λ{p k} l E=>by
   obtain⟨fH,hm,I⟩:=hN p k E;refine⟨fH,hm,i+1,p,k,l.xg,T.keep _ _ _ O λb a o e=>(l.pin (b,o) (alq _ (alq _ (zS a e)))).1,λb a=>?_,I⟩;obtain⟨o,e,d⟩:=T.obj _ _ O b a;exact(l.pin (b,o) (alq _ (alq _ (zS a e)))).2.1
  cases f with
  |next=>obtain⟨p,k,l,E⟩:=q;exact c l E
  |cont=>obtain⟨p,k,l,E⟩:=q;exact c l E
  |brk=>obtain⟨p,k,l,q⟩:=q;exact⟨p,k,l.xg,q⟩
  |ret v=>obtain⟨G,p,k,l,Fg,q⟩:=q;exact⟨G,p,k,l.xg,Fg,q⟩
end
abbrev fg:=V->V->aw->cU->Prop
def dU(X:aV)(f:Value->Value->Sem Value)(r:fg):Prop:=
 ∀(zn:c3)(s:akC)(U:St)(H:aw)(x y:V)(v u:Value)(Q:cU),Inv X zn U H s->RelV x v->RelV y u->r x y H Q->
  wpAny (model X.prog X.w) X.A (f v u) (hr X zn U Q) X.dN s
def jV(X:aV)(f:Value)(r:List V->aw->cU->Prop):Prop:=
 ∀(zn:c3)(s:akC)(U:St)(H:aw)(xs:List V)(us:List Value)(Q:cU),Inv X zn U H s->Vals xs us->r xs H Q->
  wpAny (model X.prog X.w) X.A (call f us) (hr X zn U Q) X.dN s
def xb(r:fg)(c cC:TE):TE:=λU H Q=>c U H λx a=>cC U a λy b=>r x y b Q
def kk(C:Int->Int->Prop)(g:Int->Int->V):fg:=λx y H Q=>∃i j,x=.int i/\y=.int j/\C i j/\Q (g i j) H
def hI(g:Int->Int->V):fg:=λx y H Q=>∃i j,x=.int i/\y=.int j/\Q (g i j) H
section
variable{X:aV}{a b:Expr}{bW cC:TE}{pos:Pos}
def B0(i:bZ X a bW)(g:bZ X b cC){zn:c3}{s:akC}{U:St}{H:aw}{R:V->V->aw->Prop}(J:Inv X zn U H s)
  (h:bW U H λx d=>cC U d λy c=>R x y c) {Q:dk}{f:Value->Value->Sem Value}
  (p:∀v u s2 x y c,Inv X zn U c s2->RelV x v->RelV y u->R x y c->wpAny (model X.prog X.w) X.A (f v u) Q X.dN s2) :
  wpAny (model X.prog X.w) X.A (eval a X.env) (λv n=>wpAny (model X.prog X.w) X.A (eval b X.env) (λu q=>wpAny (model X.prog X.w) X.A (f v u) Q X.dN q) X.dN n) X.dN s:=by
 refine bX (i zn s U H _ J h) λv r e=>?_
 obtain⟨x,d,m,l,br⟩:=e;refine bX (g zn r U d _ m br) λu s2 e=>?_
 obtain⟨y,c,k,j,bS⟩:=e;exact p v u s2 x y c k l j bS
def ado{op:Operator}{r:fg}(c:dU X (amo op) r)(g:bZ X a bW)(f:bZ X b cC):bZ X (.BinOp a op b pos) (xb r bW cC):=by
 intro zn s U H Q J h;exact wpAny_BinOp (B0 g f J h λv u s2 x y e j d i q=>c zn s2 U e x y v u Q j d i q)
def tU{f:Value->Value->Sem Value}{C:Int->Int->Prop}{g:Int->Int->Int}
  (c:∀(i j:Int)(t u:Tok)(s:akC)(Q:dk)(E:dk),C i j->Q (.int (g i j) s.toks) { s with toks:=s.toks+1 }->wpAny (model X.prog X.w) X.A (f (.int i t) (.int j u)) Q E s) :
  dU X f (kk C λi j=>.int (g i j)):=by
 intro zn s U H x y v u Q J d e h;obtain⟨i,j,rfl,rfl,k,q⟩:=h;obtain⟨t,rfl⟩:=d;obtain⟨t',rfl⟩:=e;exact c i j t t' s _ _ k ⟨.int (g i j),H,J.tok _,⟨_,rfl⟩,q⟩
def z_{f:Value->Value->Sem Value}{g:Int->Int->Int}
  (c:∀(i j:Int)(t u:Tok)(s:akC)(Q:dk)(E:dk),Q (.int (g i j) s.toks) { s with toks:=s.toks+1 }->wpAny (model X.prog X.w) X.A (f (.int i t) (.int j u)) Q E s) :
  dU X f (hI λi j=>.int (g i j)):=by
 intro zn s U H x y v u Q J d e h;obtain⟨i,j,rfl,rfl,q⟩:=h;obtain⟨t,rfl⟩:=d;obtain⟨t',rfl⟩:=e;exact c i j t t' s _ _ ⟨.int (g i j),H,J.tok _,⟨_,rfl⟩,q⟩
def z9{f:Value->Value->Sem Value}{g:Int->Int->Bool}
  (c:∀(i j:Int)(t u:Tok)(s:akC)(Q:dk)(E:dk),Q (.bool (g i j)) s->wpAny (model X.prog X.w) X.A (f (.int i t) (.int j u)) Q E s) :
  dU X f (hI λi j=>.ax (g i j)):=by
 intro zn s U H x y v u Q J d e h;obtain⟨i,j,rfl,rfl,q⟩:=h;obtain⟨t,rfl⟩:=d;obtain⟨t',rfl⟩:=e;exact c i j t t' s _ _ ⟨.ax (g i j),H,J,rfl,q⟩
def xB(i j:Int):Prop:=0<=j/\j<=1000000/\i.natAbs<2 ^ 64
def xA(i j:Int):Prop:=(-(2 ^ 64)<i/\i<2 ^ 64)\/(-(2 ^ 64)<j/\j<2 ^ 64)
def xA.ok{i j:Int}(h:xA i j):IntMulOk i j:=by
 rcases h with⟨o,C⟩|⟨o,C⟩
 .exact .of_left (intBits_le_64 o C)
 .exact .of_right (intBits_le_64 o C)
def af2(k:Nat):(0:Int)<=2 ^ k:=by
 rw[two_pow_cast];exact Int.natCast_nonneg _
def acb:dU X (amo .Add) (hI λi j=>.int (i+j)):=z_ λ_ _ _ _ _ _ _ q=>add_int q
def acs:dU X (amo .Sub) (hI λi j=>.int (i-j)):=z_ λ_ _ _ _ _ _ _ q=>sub_int q
def ack:dU X (amo .Mod) (kk (λ_ j=>0<j) λi j=>.int (i % j)):=tU λi j _ _ _ _ _ c q=>by
 have d:(0:Int)<j:=c;exact mod_int' (by omega) (by rw[Int.fmod_eq_emod_of_nonneg i (by omega)];exact q)
def aco:dU X (amo .Pow) (kk xB λi j=>.int (i ^ j.toNat)):=tU λ_ _ _ _ _ _ _ c q=>pow_int_small c.1 c.2.1 c.2.2 q
def acq:dU X (amo .LShift) (kk xB λi j=>.int (i*2 ^ j.toNat)):=tU λ_ _ _ _ _ _ _ c q=>lshift_int_small c.1 c.2.1 c.2.2 q
def acr:dU X (amo .RShift) (kk (λ_ j=>0<=j) λi j=>.int (i / 2 ^ j.toNat)):=tU λi j _ _ _ _ _ c q=>
 rshift_int c (by rw[aou i (af2 _)];exact q)
def ace:dU X (amo .BitAnd) (hI λi j=>.int (al6 i j)):=z_ λ_ _ _ _ _ _ _ q=>and_int q
def acn:dU X (amo .BitOr) (hI λi j=>.int (anJ i j)):=z_ λ_ _ _ _ _ _ _ q=>or_int q
end
section
variable{X:aV}{a b c:Expr}{bW cC nK:TE}{pos:Pos}
def CL{s:akC}{Q:cU}(J:Inv X zn U H s)(q:Q (.ax k) H)(e:k=o):hr X zn U Q (.bool o) s:=by
 subst e;exact⟨.ax k,H,J,rfl,q⟩
def EW:dU X (alj .Lt) (hI λi j=>.ax (decide (i<j))):=z9 λ_ _ _ _ _ _ _ q=>lt_int q
def rP:dU X (alj .LtE) (hI λi j=>.ax (decide (i<=j))):=z9 λ_ _ _ _ _ _ _ q=>le_int q
def ach:dU X (alj .Gt) (hI λi j=>.ax (decide (j<i))):=z9 λ_ _ _ _ _ _ _ q=>gt_int q
def Oc:dU X (alj .GtE) (hI λi j=>.ax (decide (j<=i))):=z9 λ_ _ _ _ _ _ _ q=>ge_int q
def Oe:dU X (alj .In) (λx y H Q=>∃i j,x=.str i/\y=.str j/\Q (.ax (!(amV j i 0 j.length 1).isEmpty)) H):=by
 intro zn s U H x y v u Q J d e h;obtain⟨i,j,rfl,rfl,q⟩:=h;obtain⟨t,rfl⟩:=d;obtain⟨t',rfl⟩:=e;exact in_str (CL J q rfl)
def Of:dU X (alj .Is) (λx y H Q=>y=.aI/\Q (.ax (decide (x=.aI))) H):=by
 intro zn s U H x y v u Q J d e h;obtain⟨rfl,q⟩:=h;cases e;refine is_none_gen (CL J q ?_);cases x<;>first
  |(cases d;rfl)
  |(obtain⟨t,rfl⟩:=d;rfl)
def Og:dU X (alj .IsNot) (λx y H Q=>y=.aI/\Q (.ax (!decide (x=.aI))) H):=by
 intro zn s U H x y v u Q J d e h;obtain⟨rfl,q⟩:=h;cases e;refine isnot_none_gen (CL J q ?_);cases x<;>first
  |(cases d;rfl)
  |(obtain⟨t,rfl⟩:=d;rfl)
def iw(b:Expr){op:CmpOp}(h:op≠.In:=by decide)(d:op≠.NotIn:=by decide):amu op b=false:=by
 have au:(op==CmpOp.In)=false:=by cases op<;>first|rfl|exact absurd rfl h
 have aF:(op==CmpOp.NotIn)=false:=by cases op<;>first|rfl|exact absurd rfl d
 cases b<;>simp[amu,au,aF]
def ada{op:CmpOp}{r:fg}(d:dU X (alj op) r)(i:bZ X a bW)(g:bZ X b cC)(l:amu op b=false):bZ X (.Compare a [op] [b] pos) (xb r bW cC):=by
 intro zn s U H Q J h;exact wpAny_Compare1 (B0 i g J h λv u s2 x y f k e j q=>d zn s2 U f x y v u Q k e j q) l
def xc(t:TE):TT:=λU H Q=>t U H λx H'=>∃k,x=.ax k/\Q k H'
theorem adT{op:CmpOp}{r:fg}(f:dU X (alj op) r)(j:bZ X a bW)(i:bZ X b cC)(B:amu op b=false):ie X (.Compare a [op] [b] pos) (xc (xb r bW cC)):=by
 intro zn s U H Q J h;refine wpAny_isTrue_Compare1 (bX (j zn s U H _ J h) λv D ⟨x,d,p,n,br⟩=>bX (i zn D U d _ p br) λu s2 ⟨y,g,m,l,bS⟩=>
  bX (f zn s2 U g x y v u _ m n l bS) λc s3 ⟨z,q,w,A,k,e,t⟩=>?_) B
 subst e;cases A;exact alG ⟨q,w,t⟩
def FN(r g:fg)(bW cC nK:TE):TE:=λU H Q=>bW U H λx e=>cC U e λy f=>r x y f λz d=>∃k,z=.ax k/\
 (if k=true then nK U d λh i=>g y h i Q else Q (.ax false) d)
def ac9{op f:CmpOp}{r i:fg}(p:dU X (alj op) r)(G:dU X (alj f) i)(w:bZ X a bW)(t:bZ X b cC)(I:bZ X c nK)
  (K:lastMarks [op,f] [b,c]=false:=by with_unfolding_all rfl):bZ X (.Compare a [op,f] [b,c] pos) (FN r i bW cC nK):=by
 intro zn s U H Q J h;refine Compare_chain (bX (w zn s U H _ J h) λv R ⟨x,n,D,B,br⟩=>chain_link (bX (t zn R U n _ D br) λu s2 ⟨y,q,A,g,bS⟩=>
  bX (p zn s2 U q x y v u _ A B g bS) λd s3 ⟨z,j,m,F,k,e,l⟩=>?_)) K
 subst e;cases F;refine alG ?_
 cases k with
 |false=>exact ite_ff ⟨.ax false,j,m,rfl,l⟩|true=>exact ite_tt (chain_last (bX (I zn s3 U j _ m l) λE S ⟨O,L,M,P,N⟩=>G zn S U L y O u E Q M g P N))
def adS{op f:CmpOp}{r i:fg}(t:dU X (alj op) r)(M:dU X (alj f) i)(D:bZ X a bW)(B:bZ X b cC)(O:bZ X c nK)
  (P:lastMarks [op,f] [b,c]=false:=by with_unfolding_all rfl):ie X (.Compare a [op,f] [b,c] pos) (xc (FN r i bW cC nK)):=by
 intro zn s U H Q J h;refine isTrue_chain (bX (D zn s U H _ J h) λv o ⟨x,q,I,F,br⟩=>test_link (bX (B zn o U q _ I br) λu s2 ⟨y,w,E,g,bS⟩=>
  bX (t zn s2 U w x y v u _ E F g bS) λd s3 ⟨z,j,m,L,k,e,l⟩=>?_)) P
 subst e;cases L;refine alG ?_
 cases k with
 |false=>
  obtain⟨kc,G,N⟩:=l;cases G;exact ite_ff ⟨j,m,N⟩
 |true=>
  refine ite_tt (test_last (bX (O zn s3 U j _ m l) λK C ⟨V,R,S,Y,T⟩=>bX (M zn C U R y V u K _ S g Y T) λd' s5 A=>?_));obtain⟨er,W,Z,p,d2,aF,n⟩:=A;subst aF;cases p;exact alG ⟨W,Z,n⟩
def tg:(akA:Nat)<2 ^ 63:=by rw[ak2];decide
def acd:dU X (amo .Add) (λx y H Q=>∃i j,x=.str i/\y=.str j/\i.length+j.length<=akA/\Q (.str (i++j)) H):=by
 intro zn s U H x y v u Q J d e h;obtain⟨i,j,rfl,rfl,hz,q⟩:=h;obtain⟨t,rfl⟩:=d;obtain⟨t',rfl⟩:=e;exact add_str (λt' tk=>⟨.str (i++j),H,J.tok _,⟨_,rfl⟩,q⟩) hz
def vals1(r:Vals [x] us):∃u,us=[u]/\RelV x u:=by
 cases r with
 |cons e d=>cases d;exact⟨_,rfl,e⟩
def vals2(r:Vals [x,y] us):∃u d,us=[u,d]/\RelV x u/\RelV y d:=by
 cases r with
 |cons f e=>
  cases e with
  |cons g h=>cases h;exact⟨_,_,rfl,f,g⟩
def S2:jV X (.builtin "abs") (λxs H Q=>∃i,xs=[.int i]/\Q (.int (if i<0 then -i else i)) H):=by
 intro zn s U H xs us Q J r h;obtain⟨i,rfl,q⟩:=h;obtain⟨u,rfl,t,rfl⟩:=vals1 r;exact call_abs_int λu tk=>⟨.int (if i<0 then -i else i),H,J.tok _,⟨_,rfl⟩,q⟩
def S9(e:X.calm=true):jV X (.builtin "max") (λxs H Q=>∃i j,xs=[.int i,.int j]/\Q (.int (if j > i then j else i)) H):=by
 intro zn s U H xs us Q J r h;obtain⟨i,j,rfl,q⟩:=h;obtain⟨u,f,rfl,⟨t,rfl⟩,⟨t',rfl⟩⟩:=vals2 r;refine max_two_ints (J.ok.hd e) λh' tk k=>⟨_,H,J.kept k,?_,q⟩
 by_cases d:j > i
 .rw[if_pos d,if_pos d];exact⟨_,rfl⟩
 .rw[if_neg d,if_neg d];exact⟨_,rfl⟩
def S_(e:X.calm=true):jV X (.builtin "min") (λxs H Q=>∃i j,xs=[.int i,.int j]/\Q (.int (if j<i then j else i)) H):=by
 intro zn s U H xs us Q J r h;obtain⟨i,j,rfl,q⟩:=h;obtain⟨u,f,rfl,⟨t,rfl⟩,⟨t',rfl⟩⟩:=vals2 r;refine min_two_ints (J.ok.hd e) λh' tk k=>⟨_,H,J.kept k,?_,q⟩
 by_cases d:j<i
 .rw[if_pos d,if_pos d];exact⟨_,rfl⟩
 .rw[if_neg d,if_neg d];exact⟨_,rfl⟩
end
structure qH(h:Heap)(x b' C:Addr)(ed:bl):Prop where
 obj:h.get? x=some (anq C b')
 ns:h.Ns1 b' ed
 ne:b'≠x
def ZI{h:Heap}{d:bl}(n:h.Ns1 C d):∃c,h.get? C=some c/\∀name,W.lookIn name c=some (d name):=by
 obtain⟨o,b,cp,g,hd,j,_,k⟩:=n;refine⟨o,g,λname=>?_⟩;have e:=k name;unfold nsFind aoo at e;rw[<-Array.find?_toList]at e;unfold W.lookIn;rw[hd];dsimp only;split
 .rename_i y q
  rw[q]at e;exact congrArg some e
 .rename_i q
  rw[q]at e;have a:b.toList.any (·.refKey)=false:=by
   rw[List.any_eq_false];intro y i;obtain⟨z,t,l⟩:=j y (Array.mem_toList_iff.mp i);simp[DictEntry.refKey,l]
  have f:¬b.toList.any (·.refKey)=true:=by rw[a];exact akD
  rw[if_neg f];exact congrArg some e
def qH.look{b:bl}(J:qH h x U C b):∃a,W.InstAt h x (anq C U) C (some a)/\∀name,W.lookIn name a=some (b name):=
 let⟨a,o,hl⟩:=ZI J.ns
 ⟨a,⟨J.obj,rfl,rfl,o⟩,hl⟩
section
variable{prog:akZ}{w:World}{A:ak4}{E:dk}{s:akC}{K:aM}{x b' C f:Addr}{ed:bl}{name:Str}{v:Value}
def get_map{a:Bool}{Q:dk}(X:K.In s.heap)(J:qH s.heap x b' C ed)(b:aoH K C name=true)(cX:ao5 K C=true)
  (c:amD K (.ref C) name=some none) (d:ed name=some v) (g:W.handedIn v=true) (h:Q v { s with toks:=s.toks+1 }) :
  wpAny (model prog w) A (getAttr (.ref x) name a) Q E s:=by
 obtain⟨i,e,hl⟩:=J.look;exact W.get_value X e (W.plainGet_of b).1 (W.findObj_own cX c rfl (by rw[hl,d])) g h
def UU{pl:Sem Bool}{Q:Value×List Value->akC->Prop}(X:K.In s.heap)(J:qH s.heap x b' C ed)(a:aoH K C name=true)
  (g:amD K (.ref C) name=some (some (.ref f))) (b:W.isFn K (.ref f)=true) (c:ed name=none) (h:Q (.ref f,[.ref x]) s) :
  wpAny (model prog w) A (amy (.ref x) name pl) Q E s:=by
 obtain⟨e,d,hl⟩:=J.look;exact W.method_fn X d (W.plainGet_of a).1 (W.plainGet_of a).2 g (beq_iff_eq.mp b) (by show(W.lookIn name e).map (·.isSome)=some false;rw[hl,c];rfl) h
def aeH{ns:List Str}{Q:Unit->akC->Prop}(X:K.In s.heap)(J:qH s.heap x b' C ed)
  (ay:amD K (.ref C) "__setattr__"=some (some (.builtin "object.__setattr__"))) (l:W.plainOver K C=true) (t:W.takerIn K C name=some none) (cX:ao5 K C=true)
  (hw:Within ed ns) (B:ns.length<=akA)
  (h:∀h',qH h' x b' C (λy=>if y=name then some v else ed y)->aoO b' s.heap h'->Q () { s with heap:=h',toks:=s.toks+2 }) :
  wpAny (model prog w) A (setAttr (.ref x) name v) Q E s:=by
 obtain⟨z,c,hl⟩:=J.look;refine W.set_plain X c ay (W.osa_open (s:={ s with toks:=s.toks+1 }) (r:=none) X c l t λb=>?_);obtain⟨cd,u,g⟩:=W.any_some cX;have m:s.heap.get? x=some ⟨.ref C,some b',.plain,#[]⟩:=J.obj;refine akv (akG (akv (akv (wpAny_loadPart m (akv (W.Looks.here (s:={ s with toks:=s.toks+1 }) (W.looks_clsIn X u) ?_))))));rw[g];refine akG (a:=some b') (akv (akG (akv ?_)));refine wpAny_nsSet1 (s:={ s with toks:=s.toks+1 }) J.ns λh' e d=>?_
 obtain⟨n,q,p,k,j,i⟩:=e.count (Within.cons name v hw);refine akv (wpAny_lookBehind k (by rw[j];exact pastItsLine_dict (ald i (by rw[alb];omega))) ?_);exact akG (h _ ⟨(d.2 _ (am9 J.ne)).trans J.obj,e,J.ne⟩ d)
def Z0{R:Result->akC->Prop}{vs:List Value}{a:List (Str×Value)}(X:K.In s.heap)(c:W.makesIn K C=true)
  (hi:amD K (.ref C) "__init__"=some (some (.ref f))) (b:W.typeIn K (.ref f)=some (.type "function"))
  (h:ani (model prog w) (A.under (.builtin "type.__call__" ⟨.ref C::vs,a⟩)) (.call (.ref f) ⟨.ref (s.heap.objs.size+1)::vs,a⟩) (W.InitBack (s.heap.objs.size+1) R)
   { s with heap:=(s.heap.push amK).push (anq C s.heap.objs.size) }) :
  ani (model prog w) A (.call (.ref C) ⟨vs,a⟩) R s:=by
 obtain⟨cX,g,d,t,os⟩:=s;exact W.make_core (W.makes_of X c) (W.looks_findIn X hi) (λself=>W.bind_fn X self b) (.inl rfl) h
end
def h6(f:Str)(v:V):List (Str×V)->List (Str×V)
 |[]=>[(f,v)]
 |(g,x)::r=>if g=f then(g,v)::r else(g,x)::h6 f v r
theorem Ny(f g:Str)(v:V):∀aW:List (Str×V),(h6 f v aW).lookup g=if g=f then some v else aW.lookup g
 |[]=>by
  show amf g [(f,v)]=_
  by_cases h:g=f
  .have a:(g==f)=true:=beq_iff_eq.mpr h
   simp only[amf,a,if_pos h]
  .have a:(g==f)=false:=beq_eq_false_iff_ne.mpr h
   simp only[amf,a,if_neg h]
 |(k,x)::r=>by
  have c:=Ny f g v r;rw[show h6 f v ((k,x)::r)=(if k=f then(k,v)::r else(k,x)::h6 f v r)from rfl]
  by_cases b:k=f
  .rw[if_pos b]
   by_cases h:g=k
   .have a:(g==k)=true:=beq_iff_eq.mpr h
    simp only[amf,a,if_pos (h.trans b)]
   .have a:(g==k)=false:=beq_eq_false_iff_ne.mpr h
    simp only[amf,a,if_neg (λe:g=f=>h (e.trans b.symm))]
  .rw[if_neg b]
   by_cases h:g=k
   .have a:(g==k)=true:=beq_iff_eq.mpr h
    simp only[amf,a,if_neg (λe:g=f=>b (h.symm.trans e))]
   .have a:(g==k)=false:=beq_eq_false_iff_ne.mpr h
    simp only[amf,a];exact c
theorem DX(f:Str)(v:V):∀aW:List (Str×V),f∈(h6 f v aW).map (·.1)/\∀g,g∈aW.map (·.1)->g∈(h6 f v aW).map (·.1)
 |[]=>⟨by simp[h6],λg h=>by simp at h⟩
 |(k,x)::r=>by
  obtain⟨b,c⟩:=DX f v r;rw[show h6 f v ((k,x)::r)=(if k=f then(k,v)::r else(k,x)::h6 f v r)from rfl]
  by_cases a:k=f
  .rw[if_pos a]
   subst a;exact⟨by simp,λg h=>by simpa using h⟩
  .rw[if_neg a]
   refine⟨?_,λg h=>?_⟩
   .rw[akO]
    exact akL _ b
   .rw[akO]at h ⊢
    rcases akP.mp h with e|e
    .exact akP.mpr (.inl e)
    .exact akL _ (c g e)
theorem Nt(f:Str)(v:V):∀aW:List (Str×V),(h6 f v aW).length<=aW.length+1
 |[]=>by simp[h6]|(k,x)::r=>by
  have b:=Nt f v r;rw[show h6 f v ((k,x)::r)=(if k=f then(k,v)::r else(k,x)::h6 f v r)from rfl]
  by_cases a:k=f
  .rw[if_pos a,alb,alb];omega
  .rw[if_neg a,alb,alb];omega
def mT.some_of{v:V}(r:mT (some v) o):∃u,o=some u/\RelV v u:=by
 cases o with
 |none=>exact(show False from r).elim|some u=>exact⟨u,rfl,r⟩
def mT.none_of(r:mT none o):o=none:=by
 cases o with
 |none=>rfl|some u=>exact(show False from r).elim
def Vq{v:V}(r:RelV v u):W.handedIn u=true:=by
 cases v with
 |aI=>cases(show u=amX from r);rfl
 |ax b=>cases(show u=aoF b from r);rfl
 |int i=>obtain⟨t,e⟩:=(show ∃t,u=apk i t from r);cases e;rfl
 |str x=>obtain⟨t,e⟩:=(show ∃t,u=apl x t from r);cases e;rfl
 |yc b=>obtain⟨t,e⟩:=(show ∃t,u=Value.bytes b t from r);cases e;rfl
 |yA b=>obtain⟨t,e⟩:=(show ∃t,u=Value.float b t from r);cases e;rfl
 |ref a=>cases(show u=alv a from r);rfl
 |ty n=>cases(show u=apc n from r);rfl
section
variable{P:akZ}{w:World}{H:aw}{h:Heap}{a C b':Addr}{aW:List (Str×V)}
def DK(cb:gd P w H h)(e:H a=some (.ins C b' aW)):∃b,qH h a b' C b/\(∀f,mT (aW.lookup f) (b f))/\Within b (aW.map (·.1))/\aW.length<=1000/\H b'=some (.own a):=by
 obtain⟨d,z,ne,bb,b,n,r,q⟩:=(show iG P w H h a (.ins C b' aW)from cb a _ e);exact⟨b,⟨bb,n,ne⟩,r,q,z,d⟩
end
structure iZ(K:aM)(C:Addr):Prop where
 kQ:aoH K C Str.empty=true
 hd:ao5 K C=true
 po:W.plainOver K C=true
 my:amD K (.ref C) "__setattr__"=some (some (.builtin "object.__setattr__"))
def iZ.get{K:aM}{C:Addr}(c:iZ K C)(f:Str):aoH K C f=true:=c.kQ
def qF(K:aM)(C:Addr)(f:Str):Prop:=amD K (.ref C) f=some none
def qF.afK{K:aM}{C:Addr}{f:Str}(n:qF K C f):W.takerIn K C f=some none:=by
 unfold W.takerIn;rw[show amD K (.ref C) f=some none from n];rfl
structure Meth(K:aM)(C:Addr)(m:Str)(f:Addr):Prop where
 at_:amD K (.ref C) m=some (some (.ref f))
 fn:W.isFn K (.ref f)=true
 kp:amx K (.ref f)=true
section
variable{X:aV}{zn:c3}{U:St}{H:aw}{s:akC}{a C b':Addr}{aW:List (Str×V)}{f:Str}{v:V}{A:ak4}{E:dk}
def UW{b:Bool}{Q:dk}(J:Inv X zn U H s)(e:H a=some (.ins C b' aW))(c:iZ X.K C)(n:qF X.K C f)(l:aW.lookup f=some v)
  (h:∀u d,Inv X zn U H d->RelV v u->Q u d):wpAny (model X.prog X.w) A (getAttr (.ref a) f b) Q E s:=by
 obtain⟨j,O,r,_,_,_⟩:=DK J.cb e;obtain⟨u,i,g⟩:=mT.some_of (v:=v) (o:=j f) (by rw[<-l];exact r f);exact get_map J.f9 O (c.get f) c.hd n i (Vq g) (h u _ (J.tok _) g)
def C0{m:Str}{g:Addr}{pl:Sem Bool}{Q:Value×List Value->akC->Prop}(J:Inv X zn U H s)(e:H a=some (.ins C b' aW))(c:iZ X.K C)(k:Meth X.K C m g)(l:aW.lookup m=none)
  (h:Q (.ref g,[.ref a]) s):wpAny (model X.prog X.w) A (amy (.ref a) m pl) Q E s:=by
 obtain⟨b,O,r,_,_,_⟩:=DK J.cb e;have aA:b m=none:=mT.none_of (by rw[<-l];exact r m);exact UU J.f9 O (c.get m) k.at_ k.fn aA h
def aeJ{y:V}{u:Value}{Q:Unit->akC->Prop}(J:Inv X zn U H s)(e:H a=some (.ins C b' aW))(c:iZ X.K C)(n:qF X.K C f)(hl:aW.length<1000)(p:RelV y u)
  (h:∀j,Inv X zn U (upd H a (.ins C b' (h6 f y aW))) j->Q () j):wpAny (model X.prog X.w) A (setAttr (.ref a) f u) Q E s:=by
 obtain⟨k,O,r,wi,_,i⟩:=DK J.cb e;have hz:(aW.map (·.1)).length<=akA:=by rw[akz,ak2];omega
 refine aeH J.f9 O c.my c.po n.afK c.hd wi hz λh' d t=>h _ ?_
 have hd:∃o,h'.get? b'=some o:=let⟨o,_,_,bL,_⟩:=d.ns;⟨o,bL⟩
 refine J.write (x:=a) (e:=b') (by rw[e];exact an0) (.inr i) (λb q m z=>(t.2 b m).trans z) hd ?_;refine⟨by rw[c5 O.ne];exact i,?_,O.ne,d.obj,_,d.ns,λg=>?_,λg l=>?_⟩
 .have:=Nt f y aW;omega
 .show mT ((h6 f y aW).lookup g) (if g=f then some u else k g)
  rw[Ny]
  by_cases q:g=f
  .rw[if_pos q,if_pos q];exact p
  .rw[if_neg q,if_neg q];exact r g
 .by_cases q:g=f
  .rw[q];exact(DX f y aW).1
  .refine(DX f y aW).2 g (wi g λz=>l ?_)
   show(if g=f then some u else k g)=none;rw[if_neg q];exact z
theorem Inv.made(J:Inv X zn U H s):Inv X zn U (upd (upd H s.heap.objs.size (.own (s.heap.objs.size+1))) (s.heap.objs.size+1) (.ins C s.heap.objs.size []))
  { s with heap:=(s.heap.push amK).push (anq C s.heap.objs.size) }:=by
 have au:(s.heap.push amK).get? s.heap.objs.size=some amK:=akK s.heap rfl;have aF:((s.heap.push amK).push (anq C s.heap.objs.size)).get? (s.heap.objs.size+1)=some (anq C s.heap.objs.size):=by
  have:=akK (s.heap.push amK) (o:=anq C s.heap.objs.size) rfl
  rwa[ana]at this
 have cO:(s.heap.push amK).Ns s.heap.objs.size (λ_=>none):=⟨amK,#[],_,au,rfl,(λe he=>absurd he (by simp)),λ_=>rfl⟩;have d:=J.laid (a:=s.heap.objs.size) (o:=.own (s.heap.objs.size+1)) (h':=s.heap.push amK) (t':=s.toks) (λb u q=>aky _ q) (akE _) ⟨_,au⟩;refine d.laid (a:=s.heap.objs.size+1) (o:=.ins C s.heap.objs.size []) (t':=s.toks) (λb u q=>aky _ q) (ans (ana _ _)) ?_;have ne:s.heap.objs.size≠s.heap.objs.size+1:=alc (anL _);refine⟨by rw[c5 ne,dZ],alh _,ne,aF,λ_=>none,(Heap.Ns1.of_empty cO).at λo q=>aky _ q,λ_=>an0,λy c=>absurd rfl c⟩
def Ro{prog:akZ}{w:World}{env:Env}{e:Expr}{f:Str}{pos:Pos}{s:akC}{Q:dk}(b:amg e f env (eval e env)=eval e env)
  (h:wpAny (model prog w) A (eval e env) (λo c=>wpAny (model prog w) A (getAttr o f true) Q E c) E s):wpAny (model prog w) A (eval (.Attribute e f pos) env) Q E s:=
 Attribute_any_ h (by rw[arm_eval_Attribute,b])
end
def afj(K:aM)(d:TE)(f:Str):TE:=λU H Q=>d U H λx b=>∃a C c aW v,x=.ref a/\b a=some (.ins C c aW)/\iZ K C/\qF K C f/\aW.lookup f=some v/\Q v b
def aeA(K:aM)(g d:TE)(f:Str):gK:=λD U H=>d U H λy e=>g U e λx b=>∃a C c aW,x=.ref a/\b a=some (.ins C c aW)/\iZ K C/\qF K C f/\aW.length<1000/\
 D.bu U (upd b a (.ins C c (h6 f y aW)))
section
variable{X:aV}{o e value:Expr}{f:Str}{pos pos':Pos}{bW AI:TE}
def adb(he:bZ X e bW)(i:amg e f X.env (eval e X.env)=eval e X.env):bZ X (.Attribute e f pos) (afj X.K bW f):=by
 intro zn s U H Q J h;refine Ro i (bX (he zn s U H _ J h) λu t g=>?_);obtain⟨x,b,k,d,a,C,r,aW,v,ex,m,c,n,l,q⟩:=g;subst ex;obtain rfl:u=alv a:=d;exact UW k m c n l λu' s2 j p=>⟨v,b,j,p,q⟩
def adP(g:bZ X o bW)(k:bZ X value AI)(ay:amj value (some (.Attribute o f pos')) pos.line X.env=pure false):iH X (.Assign [.Attribute o f pos'] value pos) (aeA X.K bW AI f):=by
 intro zn s U H D J h;refine plainObj_wpAny_Assign_Attribute (bX (k zn s U H _ J h) λu t ⟨y,b,m,i,q⟩=>bX (g zn t U b _ m q) λbR s2 ⟨x,w,j,d,a,C,z,aW,ex,p,c,n,l,bS⟩=>?_) ay;subst ex;obtain rfl:bR=alv a:=d;exact aeJ j p c n l i λs3 r=>⟨U,_,r,bS⟩
def aj4{pl:Sem Bool}{m:Str}{b:Pos}{args:List Expr}{zn:c3}{s:akC}{U:St}{H:aw}{Q:dk}{te:TE}(he:bZ X e te)(J:Inv X zn U H s)
  (h:te U H λx i=>∃a C j aW g,x=.ref a/\i a=some (.ins C j aW)/\iZ X.K C/\Meth X.K C m g/\aW.lookup m=none/\
   ∀d,Inv X zn U i d->wpAny (model X.prog X.w) X.A (am2 pos (.ref g) [.ref a] (ak3 pos (akx args X.env)) (amh pos (alK [] X.env))) Q X.dN d)
  (r:eval (.Call (.Attribute e m b) args [] pos) X.env=(do
   let bR <-eval e X.env
   amB b.atName
   let(f,first) <-alU [bR] (amy bR m pl)
   am2 pos f first (ak3 pos (akx args X.env)) (amh pos (alK [] X.env)))) :
  wpAny (model X.prog X.w) X.A (eval (.Call (.Attribute e m b) args [] pos) X.env) Q X.dN s:=by
 refine aoZ (pl:=pl) (bX (he zn s U H _ J h) λu d ⟨x,i,n,p,a,C,j,aW,g,ex,t,c,k,l,q⟩=>?_) r;subst ex;obtain rfl:u=alv a:=p;exact C0 n t c k l (q d n)
end
structure cE(k:Nat)(A:ak4):Prop where
 hd:A.handled=none
 u_:A.depth+3*k+5<recursionLimit
 un:A.units+16*k+200<cLine
def cE.mono(r:cE k A)(h:j<=k):cE j A:=⟨r.hd,by have:=r.u_;omega,by have:=r.un;omega⟩
def cE.deeper{A:ak4}(r:cE (k+1) A)(env:Env):cE k (A.deeper env):=
 ⟨r.hd,by have:=r.u_;show A.depth+1+3*k+5 < _;omega,by have:=r.un;show A.units+3+16*k+200 < _;omega⟩
def cE.in1{A:ak4}(r:cE (k+1) A):cE k A.in1:=
 ⟨r.hd,by have:=r.u_;show A.depth+3*k+5 < _;omega,by have:=r.un;show A.units+1+16*k+200 < _;omega⟩
def ZZ{A:ak4}:(A.under (.builtin "type.__call__" ⟨.ref C::us,kw⟩)).depth=A.depth+1:=by
 first|rfl|simp[apo,Code.weight,Code.isCreation,Code.isGuard,Code.isCaller,Code.frames,Code.isFrame,guardIds]
def Z1{A:ak4}:(A.under (.builtin "type.__call__" ⟨.ref C::us,kw⟩)).units=A.units+1:=by
 first|rfl|simp[apo,Code.cUnits,Code.frames,Code.isFrame]
def cE.make{A:ak4}(r:cE (k+1) A)(C:Addr)(us:List Value)(a:List (Str×Value)):cE k (A.under (.builtin "type.__call__" ⟨.ref C::us,a⟩)):=
 ⟨r.hd,by have:=r.u_;rw[ZZ];omega,by have:=r.un;rw[Z1];omega⟩
def cE.depth{A:ak4}(r:cE k A):A.depth<recursionLimit:=by have:=r.u_;omega
def cE.units{A:ak4}(r:cE k A):A.units+64<cLine:=by have:=r.un;omega
def cE.af7{A:ak4}(r:cE k A):A.units<cLine:=by have:=r.un;omega
def xa:fQ:=λ_ H Q=>Q [] H
def afh(c:TE)(d:fQ):fQ:=λU H Q=>c U H λx a=>d U a λxs b=>Q (x::xs) b
section
variable{X:aV}{e:Expr}{az:List Expr}{te:TE}{t:fQ}{pos:Pos}
def Ab:gV X [] xa:=λ_ _ _ _ H Q J h=>aoC ⟨[],H,J,.nil,h⟩
theorem wR(d:bZ X e te)(aD:gV X az t)(ay:akx (e::az) X.env=(false,eval e X.env)::akx az X.env:=by rfl):gV X (e::az) (afh te t):=by
 intro pos zn s U H Q J h;rw[ay];show wpAny _ _ (spliced ((false,eval e X.env)::ak3 pos (akx az X.env))) _ _ s;refine aop (bX (d zn s U H _ J h) λu k c=>?_);obtain⟨x,a,j,i,br⟩:=c;exact bX (aD pos zn k U a _ j br) λus s2 ⟨xs,b,g,f,bS⟩=>⟨x::xs,b,g,.cons i f,bS⟩
def afz(t:fQ):TE:=λU H Q=>t U H λxs a=>xs.length<=akA/\∀p,a p=none->Q (.ref p) (upd a p (.t xs))
def afl(t:fQ):TE:=λU H Q=>t U H λxs a=>xs.length<=akA/\∀p,a p=none->Q (.ref p) (upd a p (.l xs))
theorem adt{o}(h:gV X az t):bZ X (.Tuple az o pos) (afz t):=by
 intro zn s U H Q J f;refine wpAny_Tuple_spliced (bX (h pos zn s U H _ J f) λus a ⟨xs,c,d,r,z,q⟩=>⟨by rw[<-r.length];exact z,?_⟩);have g:c a.heap.objs.size=none:=d.cb.fresh (akE _);refine⟨.ref a.heap.objs.size,upd c a.heap.objs.size (.t xs),d.laid (t':=a.toks) (λb u e=>aky _ e) (akE _) ?_,rfl,q _ g⟩;exact⟨z,us,r,⟨_,akK _ rfl,rfl,_,rfl⟩⟩
theorem adj(h:gV X az t):bZ X (.List az pos) (afl t):=by
 intro zn s U H Q J f;refine wpAny_List_spliced (bX (h pos zn s U H _ J f) λus a ⟨xs,c,d,r,z,q⟩=>⟨by rw[<-r.length];exact z,?_⟩);have g:c a.heap.objs.size=none:=d.cb.fresh (akE _);refine⟨.ref a.heap.objs.size,upd c a.heap.objs.size (.l xs),d.laid (t':=a.toks) (λb u e=>aky _ e) (akE _) ?_,rfl,q _ g⟩;exact⟨z,us,0,r,akK _ rfl⟩
end
abbrev ei:=List V->aw->cU->gy->Prop
abbrev mL:=List Env->aw->akC->gy->Value->akC->Prop
structure k2(P:akZ)(w:World)(K:aM)(mg:bl)(base:Heap)(A:ak4)(outer:List Env)(s:akC)(H:aw):Prop where
 frames:A.frames=some outer
 mod:Mod K mg base
 bs:∀b o,base.get? b=some o->s.heap.get? b=some o/\H b=none
 lU:base.objs.size<=s.heap.objs.size
 kB:s.heap.FunFrames base outer
 pQ:∀b∈l0 outer,H b=none
 cb:gd P w H s.heap
 bare:anQ s.gens
def hp(outer:List Env)(P:akZ)(w:World)(H:aw)(s:akC)(Q:cU)(u:Value)(a:akC):Prop:=
 ∃v H',a.os=s.os/\anQ a.gens/\gL (l0 outer) [] H H' s.heap a.heap/\gd P w H' a.heap/\RelV v u/\Q v H'
def Gn(b:mL)(outer:List Env)(P:akZ)(w:World)(H:aw)(s:akC)(Q:cU)(E:gy)(r:Result)(a:akC):Prop:=
 match r with
 |.ok (.ret u)=>hp outer P w H s Q u a|.ok _=>False|.error e=>b outer H s E e a
structure e3(P:akZ)(w:World)(K:aM)(mg:bl)(base:Heap)(es:mL)(k:Nat)(f:Addr)(fd:alI)(ps:List Str)(sp:ei):Prop where
 len:∀vs H Q E,sp vs H Q E->vs.length=ps.length
 run:∀(A:ak4)(outer:List Env)(s:akC)(H:aw)(args:Args)(us:List Value)(vs:List V)(Q:cU)(E:gy),cE k A->k2 P w K mg base A outer s H->BindsTo s fd args (ps.zip us)->Vals vs us->sp vs H Q E->
  ani (model P w) A (.call (.ref f) args) (Gn es outer P w H s Q E) s
def e3.mono{P:akZ}{w:World}{K:aM}{mg:bl}{base:Heap}{a:mL}{j k:Nat}{f:Addr}{b:alI}{ps:List Str}{sp:ei}(F:e3 P w K mg base a j f b ps sp)(h:j<=k) :
  e3 P w K mg base a k f b ps sp:=⟨F.len,λA outer s H args us vs Q E aD=>F.run A outer s H args us vs Q E (aD.mono h)⟩
def e3.imp{P:akZ}{w:World}{K:aM}{mg:bl}{base:Heap}{b:mL}{k:Nat}{f:Addr}{c:alI}{ps:List Str}{sp a:ei}(F:e3 P w K mg base b k f c ps sp)
  (h:∀vs H Q E,a vs H Q E->sp vs H Q E):e3 P w K mg base b k f c ps a:=
 ⟨λvs H Q E q=>F.len vs H Q E (h _ _ _ _ q),λA outer s H args us vs Q E aD he d e ay=>F.run A outer s H args us vs Q E aD he d e (h _ _ _ _ ay)⟩
def k2.make{P:akZ}{w:World}{K:aM}{mg:bl}{base:Heap}{A:ak4}{outer:List Env}{s:akC}{H:aw}(e:k2 P w K mg base A outer s H)(C:Addr)(us:List Value)(a:List (Str×Value)) :
  k2 P w K mg base (A.under (.builtin "type.__call__" ⟨.ref C::us,a⟩)) outer s H:=⟨by first|exact e.frames|(simpa[apo,Code.envs,Code.isFrame,pushEnvs]using e.frames),e.mod,e.bs,e.lU,e.kB,e.pQ,e.cb,e.bare⟩
def k2.in1{P:akZ}{w:World}{K:aM}{mg:bl}{base:Heap}{A:ak4}{outer:List Env}{s:akC}{H:aw}(e:k2 P w K mg base A outer s H) :
  k2 P w K mg base A.in1 outer s H:=⟨e.frames,e.mod,e.bs,e.lU,e.kB,e.pQ,e.cb,e.bare⟩
section
variable{X:aV}{zn:c3}{U:St}{H:aw}{s aZ:akC}
def Inv.vd(J:Inv X zn U H s):k2 X.prog X.w X.K X.mg X.base X.A X.stack s H:=
 ⟨J.ok.frames,J.ok.mod,J.bs,ald J.ok.lU J.oR,J.stack,J.Pw,J.cb,J.bare⟩
def Inv.after(J:Inv X zn U H s)(h:hp X.stack X.prog X.w H s Q u aZ):hr X zn U Q u aZ:=by
 obtain⟨v,H',os,bare,un,cb,r,q⟩:=h;obtain⟨cX,g,d,t,a⟩:=aZ;obtain rfl:a=s.os:=os;exact⟨v,H',J.call (h':=cX) (g':=g) (d':=d) (t':=t) (ch:=[]) un cb bare (λb z=>absurd z (by simp)),r,q⟩
end
def PC(sp:ei)(dvs:List V)(E:gy)(t:fQ):TE:=λU H Q=>t U H λvs a=>sp (vs++dvs) a Q E
def PD(C:Addr)(m:Str)(sp:ei)(dvs:List V)(E:gy)(e:TE)(t:fQ):TE:=λU H Q=>e U H λx b=>∃a d aW,x=.ref a/\b a=some (.ins C d aW)/\aW.lookup m=none/\
 t U b λvs c=>sp (x::(vs++dvs)) c Q E
def afm(C:Addr)(sp:ei)(dvs:List V)(E:gy)(t:fQ):TE:=λU H Q=>t U H λvs b=>∀x a,b x=none->b a=none->a≠x->
 sp (.ref x::(vs++dvs)) (upd (upd b a (.own x)) x (.ins C a [])) (λv c=>v=.aI/\Q (.ref x) c) E
def Binds(K:aM)(a:alI)(ps:List Str)(ds:List Value):Prop:=
 ∀(s:akC)(us:List Value),K.In s.heap->(us++ds).length=ps.length->BindsTo s a ⟨us,[]⟩ (ps.zip (us++ds))
def Binds.all{K:aM}{a:alI}{ps:List Str}(h:∀us:List Value,us.length=ps.length->amN a ⟨us,[]⟩=pure (ps.zip us)):Binds K a ps []:=λs us _ hl=>by
 rw[alO]at hl ⊢;exact .of_eq (h us hl)
def Passes(b:mL)(X:aV)(E:gy):Prop:=∀(zn:c3)(U:St)(H:aw)(s:akC)(e:Value)(a:akC),Inv X zn U H s->b X.stack H s E e a->X.dN e a
section
variable{X:aV}{es:mL}{k:Nat}{f C:Addr}{fd:alI}{ps:List Str}{sp:ei}{dvs:List V}{ds:List Value}{E:gy}{x m:Str}{p pos apos:Pos}{e o:Expr}{az:List Expr}{bW:TE}{t:fQ}
theorem w0{zn:c3}{U:St}{H:aw}{s:akC}{Q:cU}{us:List Value}{vs:List V}(F:e3 X.prog X.w X.K X.mg X.base es k f fd ps sp)(aD:cE k X.A)(g:Binds X.K fd ps ds)(hd:Vals dvs ds)(i:Passes es X E)
  (J:Inv X zn U H s) (r:Vals vs us) (h:sp (vs++dvs) H Q E):wpAny (model X.prog X.w) X.A (call (.ref f) us) (hr X zn U Q) X.dN s:=by
 have b:Vals (vs++dvs) (us++ds):=r.append hd;have hl:(us++ds).length=ps.length:=by rw[<-b.length];exact F.len _ _ _ _ h
 refine wpAny_call (anb (F.run X.A X.stack s H ⟨us,[]⟩ (us++ds) (vs++dvs) Q E aD J.vd (g s us J.f9 hl) b h) λr d a=>?_)
 cases r with
 |error e=>exact i zn U H s e d J a|ok c=>
  cases c with
  |ret u=>exact J.after a|next=>exact alf a
  |brk=>exact alf a|cont=>exact alf a
def ac4(F:e3 X.prog X.w X.K X.mg X.base es k f fd ps sp)(aD:cE k X.A)(b:d6 X x)(n:X.mg x=some (.ref f))(i:amx X.K (.ref f)=true)(c:Binds X.K fd ps ds)(hd:Vals dvs ds)(d:Passes es X E)
  (g:gV X (e::az) t) (j:(x==("__debug__":Str))=false:=by decide) (he:akx (e::az) X.env=(false,eval e X.env)::akx az X.env:=by rfl) (l:(ak3 pos (akx az X.env)).any (·.1)=false:=by rfl) :
  bZ X (.Call (.Name x p) (e::az) [] pos) (PC sp dvs E t):=by
 intro zn s U H Q J h;refine alS (tf J b n ?_ j);refine aoP (h₀:=X.base) J.ok.mod.tb i (bX (g pos zn s U H _ J h) λus y ⟨vs,u,a,r,q⟩=>⟨a.f9,?_⟩) he l;exact w0 F aD c hd d a r q
def ac5(F:e3 X.prog X.w X.K X.mg X.base es k f fd ps sp)(aD:cE k X.A)(a:d6 X x)(i:X.mg x=some (.ref f))(d:amx X.K (.ref f)=true)(b:Binds X.K fd ps ds)(hd:Vals dvs ds)(c:Passes es X E)
  (g:(x==("__debug__":Str))=false:=by decide):bZ X (.Call (.Name x p) [] [] pos) (PC sp dvs E xa):=by
 intro zn s U H Q J h;refine alS (tf J a i ?_ g);exact W.callWith_K0 J.f9 d (w0 (us:=[]) F aD b hd c J .nil h)
theorem Ov{pl:Sem Bool}(he:bZ X o bW)(c:iZ X.K C)(g:Meth X.K C m f)(F:e3 X.prog X.w X.K X.mg X.base es k f fd ps sp)(aD:cE k X.A)(n:Binds X.K fd ps ds)(hd:Vals dvs ds)(y:Passes es X E)(z:gV X (e::az) t)
  (I:akx (e::az) X.env=(false,eval e X.env)::akx az X.env:=by rfl) (G:(ak3 pos (akx az X.env)).any (·.1)=false:=by rfl)
  (B:eval (.Call (.Attribute o m apos) (e::az) [] pos) X.env=(do
   let bR <-eval o X.env
   amB apos.atName
   let(f,first) <-alU [bR] (amy bR m pl)
   am2 pos f first (ak3 pos (akx (e::az) X.env)) (amh pos (alK [] X.env))):=by rfl) :
  bZ X (.Call (.Attribute o m apos) (e::az) [] pos) (PD C m sp dvs E bW t):=by
 intro zn s U H Q J h;refine aoZ (pl:=pl) (bX (he zn s U H _ J h) λu L ⟨x,i,d,j,a,N,aW,ex,D,l,q⟩=>?_) B;subst ex;obtain rfl:u=alv a:=j;refine C0 d D c g l ?_;refine aoP (first:=[.ref a]) (h₀:=X.base) J.ok.mod.tb g.kp (bX (z pos zn L U i _ d q) λus s2 ⟨vs,M,b,r,bS⟩=>⟨b.f9,?_⟩) I G;exact w0 (us:=.ref a::us) (vs:=.ref a::vs) F aD n hd y b (.cons rfl r) bS
theorem adl{pl:Sem Bool}(he:bZ X o bW)(c:iZ X.K C)(d:Meth X.K C m f)(F:e3 X.prog X.w X.K X.mg X.base es k f fd ps sp)(aD:cE k X.A)(i:Binds X.K fd ps ds)(hd:Vals dvs ds)(j:Passes es X E)
  (n:eval (.Call (.Attribute o m apos) [] [] pos) X.env=(do
   let bR <-eval o X.env
   amB apos.atName
   let(f,first) <-alU [bR] (amy bR m pl)
   am2 pos f first (ak3 pos (akx [] X.env)) (amh pos (alK [] X.env))):=by rfl) :
  bZ X (.Call (.Attribute o m apos) [] [] pos) (PD C m sp dvs E bW xa):=by
 intro zn s U H Q J h;refine aoZ (pl:=pl) (bX (he zn s U H _ J h) λu B ⟨x,y,b,g,a,z,aW,ex,r,l,q⟩=>?_) n;subst ex;obtain rfl:u=alv a:=g;refine C0 b r c d l ?_;exact W.callWith_K0 (first:=[.ref a]) b.f9 d.kp (w0 (us:=[.ref a]) (vs:=[.ref a]) F aD i hd j b (.cons rfl .nil) q)
structure GB(K:aM)(C f:Addr):Prop where
 makes:W.makesIn K C=true
 init:amD K (.ref C) "__init__"=some (some (.ref f))
 fn:W.isFn K (.ref f)=true
 kp:amx K (.ref C)=true
theorem aev{zn:c3}{U:St}{H:aw}{s:akC}{Q:cU}{us:List Value}{vs:List V}(M:GB X.K C f)(F:e3 X.prog X.w X.K X.mg X.base es k f fd ps sp)(aD:cE (k+1) X.A)(n:Binds X.K fd ps ds)(hd:Vals dvs ds)
  (q:Passes es X E) (J:Inv X zn U H s) (r:Vals vs us)
  (h:∀x b,H x=none->H b=none->b≠x->sp (.ref x::(vs++dvs)) (upd (upd H b (.own x)) x (.ins C b [])) (λv i=>v=.aI/\Q (.ref x) i) E) :
  wpAny (model X.prog X.w) X.A (call (.ref C) us) (hr X zn U Q) X.dN s:=by
 have d:=h (s.heap.objs.size+1) s.heap.objs.size (J.cb.fresh (aom _)) (J.cb.fresh (akE _)) (alc (anL _));have c:=Inv.made (C:=C) J;have g:Vals (V.ref (s.heap.objs.size+1)::(vs++dvs)) (alv (s.heap.objs.size+1)::(us++ds)):=.cons rfl (r.append hd);have hl:(alv (s.heap.objs.size+1)::us++ds).length=ps.length:=by
  have e:=g.length;rw[F.len _ _ _ _ d]at e;exact e.symm
 refine wpAny_call (Z0 (f:=f) J.f9 M.makes M.init (beq_iff_eq.mp M.fn) (anb (F.run _ X.stack _ _ ⟨alv (s.heap.objs.size+1)::us,[]⟩ (alv (s.heap.objs.size+1)::(us++ds)) _ _ E (aD.make C us [])
  (c.vd.make C us []) (n _ (alv (s.heap.objs.size+1)::us) c.f9 hl) g d) λr l a=>?_))
 cases r with
 |error e=>exact q zn U _ _ e l c a|ok j=>
  cases j with
  |ret u=>
   obtain⟨v,H',B,y,D,z⟩:=c.after a;subst D;exact⟨y,⟨V.ref (s.heap.objs.size+1),H',B,rfl,z⟩⟩
  |next=>exact alf a
  |brk=>exact alf a|cont=>exact alf a
def adk(M:GB X.K C f)(F:e3 X.prog X.w X.K X.mg X.base es k f fd ps sp)(aD:cE (k+1) X.A)(b:d6 X x)(l:X.mg x=some (.ref C))(c:Binds X.K fd ps ds)(hd:Vals dvs ds)(d:Passes es X E)
  (g:gV X (e::az) t) (i:(x==("__debug__":Str))=false:=by decide) (he:akx (e::az) X.env=(false,eval e X.env)::akx az X.env:=by rfl) (j:(ak3 pos (akx az X.env)).any (·.1)=false:=by rfl) :
  bZ X (.Call (.Name x p) (e::az) [] pos) (afm C sp dvs E t):=by
 intro zn s U H Q J h;refine alS (tf J b l ?_ i);refine aoP (h₀:=X.base) J.ok.mod.tb M.kp (bX (g pos zn s U H _ J h) λus u ⟨vs,n,a,r,q⟩=>⟨a.f9,?_⟩) he j;exact aev M F aD c hd d a r q
end
structure gT(N P:List Str)(sc:Scope):Prop where
 kind:sc.kind=.function:=by rfl
 co:sc.isCoroutine=false:=by rfl
 gen:sc.isGenerator=false:=by rfl
 fB:N.Nodup:=by decide +kernel
 pre:N.take P.length=P:=by rfl
 par:∀x∈P,sc.names.lookup x=some .local\/sc.names.lookup x=some .cell:=by decide +kernel
 abQ:∀y∈sc.names,y.2≠.free:=by decide +kernel
theorem IT{kindOf:Str->Option am3}{x:Str}:∀{binds:List (Str×Value)}{m:bl},(∀v,(x,v)∉binds)->bindL kindOf binds m x=m x
 |[],_,_=>rfl|(n,v)::r,m,h=>by
  unfold bindL;rw[IT λw hw=>h w (akL _ hw)];split
  .have:x≠n:=by rintro rfl;exact h v akS
   simp[this]
  .rfl
theorem IQ{kindOf:Str->Option am3}{x:Str}:∀{binds:List (Str×Value)}{m:bl},(∀v,(x,v)∉binds)->bindC kindOf binds m x=m x
 |[],_,_=>rfl|(n,v)::r,m,h=>by
  unfold bindC;rw[IQ λw hw=>h w (akL _ hw)];split
  .rfl
  .have:x≠n:=by rintro rfl;exact h v akS
   simp[this]
theorem IS{kindOf:Str->Option am3}{v:Value}:∀{P:List Str}{vs:List Value}{i:Nat}{m:bl},P.Nodup->P[i]? = some x->vs[i]? = some v->kindOf x=some .local->
  bindL kindOf (P.zip vs) m x=some v
 |[],_,_,_,_,h,_,_=>by simp at h| _::_,[],_,_,_,_,h,_=>by simp at h|p::P,w::vs,0,m,fB,o,C,J=>by
  simp at o C;subst o;subst C;show bindL kindOf ((p,w)::P.zip vs) m p=_;unfold bindL;rw[IT λv a=>(alx.mp fB).1 (ank a).1,if_pos J];simp
 |p::P,w::vs,i+1,m,fB,o,C,J=>by
  show bindL kindOf ((p,w)::P.zip vs) m x=_;unfold bindL;exact IS (i:=i) (alx.mp fB).2 (by simpa using o) (by simpa using C) J
theorem IP{kindOf:Str->Option am3}{v:Value}:∀{P:List Str}{vs:List Value}{i:Nat}{m:bl},P.Nodup->P[i]? = some x->vs[i]? = some v->kindOf x≠some .local->
  bindC kindOf (P.zip vs) m x=some v
 |[],_,_,_,_,h,_,_=>by simp at h| _::_,[],_,_,_,_,h,_=>by simp at h|p::P,w::vs,0,m,fB,o,C,J=>by
  simp at o C;subst o;subst C;show bindC kindOf ((p,w)::P.zip vs) m p=_;unfold bindC;rw[IQ λv a=>(alx.mp fB).1 (ank a).1,if_neg J];simp
 |p::P,w::vs,i+1,m,fB,o,C,J=>by
  show bindC kindOf ((p,w)::P.zip vs) m x=_;unfold bindC;exact IP (i:=i) (alx.mp fB).2 (by simpa using o) (by simpa using C) J
def start(N:List Str)(vs:List V):St:=vs.map some++akI (N.length-vs.length) none
def gX(b:mL)(P:akZ)(w:World)(K:aM)(mg:bl)(base:Heap)(N:List Str)(qual:Str)(scope:Scope)(f:Addr)(cd:Value)(A:ak4)(outer:List Env)(s:akC)(H:aw)(E:gy):aV where
 prog:=P
 w:=w
 K:=K
 mg:=mg
 base:=base
 A:=A.deeper (anc qual scope s.heap.objs.size f cd)
 N:=N
 gQ:=s
 H₀:=H
 env:=anc qual scope s.heap.objs.size f cd
 outer:=outer
 stack:=anc qual scope s.heap.objs.size f cd::outer
 ex:=[]
 calm:=true
 fn:=λ_=>true
 nG:=[]
 dN:=λe c=>wpAny (model P w) (A.deeper (anc qual scope s.heap.objs.size f cd)) (leaving (anc qual scope s.heap.objs.size f cd) e) (λ_ a=>b outer H s E e a) (λd a=>b outer H s E d a) c
def I6{a:Scope}(h:a.names.lookup x=some .cell):∃c,(cellsFrom n a.names []).lookup x=some c:=by
 have q:=aoQ a.names n [] (.inl h);exact aoR.mp q
def MJ{G:mL}{P:akZ}{w:World}{K:aM}{mg:bl}{base:Heap}{N ps:List Str}{qual:Str}{scope:Scope}{f:Addr}{cd:Value}{A:ak4}{outer:List Env}{s I:akC}{H:aw}{E:gy}{us:List Value}{vs:List V}
  (S:gT N ps scope) (hd:A.handled=none) (g:k2 P w K mg base A outer s H) (hl:vs.length=ps.length) (r:Vals vs us)
  (x:InCallC s s.heap.objs.size (bindL (anc qual scope s.heap.objs.size f cd).kindOf (ps.zip us) λ_=>none) (cellsFrom (s.heap.objs.size+1) scope.names []) (bindC (anc qual scope s.heap.objs.size f cd).kindOf (ps.zip us) λ_=>none) I) :
  Inv (gX G P w K mg base N qual scope f cd A outer s H E) [] (start N vs) H I:=by
 have Q:ps.length<=N.length:=by have:=congrArg amn S.pre;rw[alT]at this;omega
 obtain⟨m,tk,rfl,D⟩:=x.done;have t:∀b:Addr,b∉(gX G P w K mg base N qual scope f cd A outer s H E).ex:=λb z=>absurd (show b∈([]:List Addr)from z) (by simp)
 refine⟨⟨g.mod,S.kind,rfl,rfl,akE _,λy z c m d=>?_,λy j=>?_,λy c _ h=>?_,λ_=>hd,Around.frames_deeper g.frames,.inr ⟨rfl,rfl⟩,λb z=>absurd z (t b),g.bs,g.lU,λb _ _=>t b,λb z=>absurd z (t b),g.kB,g.pQ⟩,
  rfl,g.bare,gL.kept D,⟨_,x.toInCall.ns,λi y v m d O=>?_⟩,λy c h=>⟨_,x.cell y c h⟩,g.cb.fresh (akE _),λy c h=>?_,λp l=>absurd (show p∈([]:c3)from l) (by simp),g.cb.kept D,?_⟩
 .exact name_of_addr x.apart (al0 m) (al0 d)
 .have j:scope.names.lookup y=some .cell\/scope.names.lookup y=some .free:=j
  rcases j with j|j
  .exact I6 j
  .exact absurd rfl (S.abQ _ (al0 j))
 .exact ame (x.above y c (al0 h))
 .have hi:i<vs.length:=by
   unfold start at d
   by_cases hi:i<vs.length
   .exact hi
   .rw[akX (by simpa using hi)]at d
    rw[al8]at d;split at d<;>cases d
  have L:vs[i]? = some v:=by
   unfold start at d;rw[akV (by simpa using hi),akN]at d
   cases e:vs[i]? with
   |none=>rw[e]at d;cases d
   |some a=>rw[e]at d;cases d;rfl
  obtain⟨u,F,M⟩:=r.get L;have l:ps[i]? = some y:=by
   rw[<-S.pre,List.getElem?_take_of_lt (by omega)];exact m
  have B:ps.Nodup:=by rw[<-S.pre];exact S.fB.sublist (List.take_sublist _ _)
  refine⟨u,M,?_⟩;rcases S.par y (ak7 l)with k|k
  .exact .inl ⟨k,IS B l F k⟩
  .obtain⟨c,e⟩:=I6 (n:=s.heap.objs.size+1) k
   refine .inr ⟨.inl k,c,e,?_⟩;have q:=x.cell y c e;rw[IP B l F (by show scope.names.lookup y≠_;rw[k];decide)]at q;exact q
 .exact g.cb.fresh (ame (x.above y c (al0 h)))
 .unfold start
  show _=N.length;rw[akB,akz,alr];omega
def CP{h:mL}{P:akZ}{w:World}{K:aM}{mg:bl}{base:Heap}{k:Nat}{f:Addr}{name qual:Str}{params:ant}{body:List Stmt}{scope:Scope}{D du g B c cy cw:Value}{m X:Option Addr}
  {Y:Array (Option Value)}{N ps:List Str}{sp:ei}(C:K.lookup f=some ⟨cw,X,.func (amv name qual params body scope D du g B m c cy),Y⟩) (Z:aod K c qual=true) (S:gT N ps scope)
  (len:∀vs H Q E,sp vs H Q E->vs.length=ps.length)
  (U:∀(A:ak4)(outer:List Env)(s:akC)(H:aw)(vs:List V)(Q:cU)(E:gy),cE k (A.deeper (anc qual scope s.heap.objs.size f c))->sp vs H Q E->
   ∃t,ic (gX h P w K mg base N qual scope f c A outer s H E) body t/\t { bu:=λ_ H'=>Q .aI H',cx:=Q } (start N vs) H) :
  e3 P w K mg base h (k+1) f (amv name qual params body scope D du g B m c cy) ps sp:=by
 refine⟨len,λA outer s H args us vs Q E aD d R r z=>?_⟩;have hl:=len _ _ _ _ z;have p:K.In s.heap:=d.mod.tb.keeps λb o e=>(d.bs b o e).1
 have l:s.heap.NoLimit:=d.mod.nolimit.keeps λb o e=>(d.bs b o e).1
 have G:∀y∈ps.zip us,scope.names.lookup y.1=some .local\/(scope.names.lookup y.1=some .cell/\((cellsFrom (s.heap.objs.size+1) scope.names []).lookup y.1).isSome=true):=λO I=>by
  obtain⟨n,v⟩:=O;rcases S.par n (ank I).1 with q|q
  .exact .inl q
  .exact .inr ⟨q,aoQ _ _ _ (.inl q)⟩
 refine codeAny_call_function aD.depth (p _ _ C) rfl S.co S.gen rfl (W.codeRec_of p Z) (R _ _ _ _ ?_);refine wpAny_newFunctionEnv_cells S.kind G λenv he F x=>?_
 subst he;refine⟨l.keeps x.toInCall.keep,codeAny_func ?_⟩;obtain⟨t,T,L⟩:=U A outer s H vs Q E (aD.deeper _) z;have J:Inv (gX h P w K mg base N qual scope f c A outer s H E) [] (start N vs) H F:=MJ S aD.hd d hl r x;refine alu (T [] F (start N vs) H _ J L) (λM i ay=>?_) λe i ay=>ay
 have fin:∀{U':St}{H':aw}{v:V}{u:Value},Inv (gX h P w K mg base N qual scope f c A outer s H E) [] U' H' i->RelV v u->Q v H'->hp outer P w H s Q u i:=
  λ{U' H' v u} a j q=>⟨v,H',a.os,a.bare,a.base,a.cb,j,q⟩
 cases M with
 |ret u=>
  obtain⟨v,U',H',a,j,q⟩:=ay;exact fin a j q
 |next=>
  obtain⟨U',H',a,q⟩:=ay;exact fin (v:=V.aI) (u:=amX) a rfl q
 |brk=>
  obtain⟨_,_,_,q⟩:=ay;exact alf q
 |cont=>
  obtain⟨_,_,_,q⟩:=ay;exact alf q
section
variable{X:aV}{x:Str}{p pos:Pos}{e:Expr}{az:List Expr}{t:fQ}{id T:String}{r:List V->aw->cU->Prop}
def FL(r:List V->aw->cU->Prop)(t:fQ):TE:=λU H Q=>t U H λvs a=>r vs a Q
def ac6(k:jV X (.builtin id) r)(b:d6 X x)(l:X.mg x=none)(f:alm x=some (.builtin id))(c:gV X (e::az) t)(aA:x≠"__name__":=by decide)(i:(x==("__debug__":Str))=false:=by decide)
  (he:akx (e::az) X.env=(false,eval e X.env)::akx az X.env:=by rfl) (j:(ak3 pos (akx az X.env)).any (·.1)=false:=by rfl):bZ X (.Call (.Name x p) (e::az) [] pos) (FL r t):=by
 intro zn s U H Q J h;refine alS (ny J b l f ?_ aA i);exact PyProof.Rows.callWith_builtin1 (bX (c pos zn s U H _ J h) λus m ⟨vs,a,g,d,br⟩=>k zn m U a vs us Q g d br) he j
def ac7(k:jV X (.type T) r)(b:d6 X x)(l:X.mg x=none)(f:alm x=some (.type T))(c:gV X (e::az) t)(aA:x≠"__name__":=by decide)(i:(x==("__debug__":Str))=false:=by decide)
  (he:akx (e::az) X.env=(false,eval e X.env)::akx az X.env:=by rfl) (j:(ak3 pos (akx az X.env)).any (·.1)=false:=by rfl):bZ X (.Call (.Name x p) (e::az) [] pos) (FL r t):=by
 intro zn s U H Q J h;refine alS (ny J b l f ?_ aA i);exact alR (bX (c pos zn s U H _ J h) λus m ⟨vs,a,g,d,br⟩=>k zn m U a vs us Q g d br) he j
end
end aC
namespace c1
open PySem PyProof.Rows
def T4(A:ak4)(s:akC)(a:Int)(t:Tok)(c:Int)(u:Tok):∃e,SeqAt.EqAt A s (.int a t) (.int c u) e/\(e=true↔a=c):=
 ⟨(a==c),apq a t c u,by simp⟩
section
variable{prog:akZ}{w:World}{A:ak4}{E:dk}{s:akC}
def cv(n d:Nat):Option Int->Nat
 |none=>d|some v=>if v<0 then(v+(n:Int)).toNat else min v.toNat n
def An(n d:Nat):cv n d none=d:=rfl
def Am(n d k:Nat):cv n d (some (k:Int))=min k n:=by
 show(if(k:Int)<0 then((k:Int)+(n:Int)).toNat else min (k:Int).toNat n)=min k n;rw[if_neg (by omega),am7]
def aeB(n d:Nat)(hd:d<=n)(o:Option Int):cv n d o<=n:=by
 cases o with
 |none=>exact hd|some v=>
  show(if v<0 then(v+(n:Int)).toNat else min v.toNat n)<=n
  by_cases a:v<0
  .rw[if_pos a];omega
  .rw[if_neg a];exact Nat.min_le_right _ _
def I_(v:Int)(n d:Nat):(if v<0 then max (v+(n:Int)) 0 else min v (n:Int))=((cv n d (some v):Nat):Int):=by
 show(if v<0 then max (v+(n:Int)) 0 else min v (n:Int))=(((if v<0 then(v+(n:Int)).toNat else min v.toNat n):Nat):Int)
 by_cases a:v<0
 .simp only[if_pos a];omega
 .simp only[if_neg a];omega
def Q7(lo hi:Option Int)(n:Nat):anl lo hi 1 (n:Int)=(((cv n 0 lo:Nat):Int),((cv n n hi:Nat):Int)):=by
 have a:¬((1:Int)<0):=by omega
 unfold anl;simp only[a,if_false];refine Prod.ext ?_ ?_
 .cases lo with
  |none=>rfl|some v=>exact I_ v n 0
 .cases hi with
  |none=>rfl|some v=>exact I_ v n n
def adI(i j:Nat):amJ (i:Int) (j:Int) 1=j-i:=by
 unfold amJ;have a:(1:Int) > 0:=by omega
 simp only[a,if_true,Int.ediv_one];split<;>omega
def Po{v:Value}{o:Option Int}{Q:Option Int->akC->Prop}(p:anB v o)(h:Q o s):wpAny (model prog w) A (Builtin.Slice.slicePartIndex v) Q E s:=by
 cases p with
 |none=>exact slicePart_none h|int i t=>exact slicePart_int h
def Pn{ba:Addr}{a b:Value}{lo hi:Option Int}{n:Nat}{Q:Int×Int×Nat->akC->Prop}(ay:s.heap.IsSliceOf ba a b .none)(pl:anB a lo)(e:anB b hi)
  (h:Q (((cv n 0 lo:Nat):Int),1,cv n n hi-cv n 0 lo) s):wpAny (model prog w) A (aov (.ref ba) (pure (n:Int))) Q E s:=by
 obtain⟨os,d,f,c⟩:=id ay;unfold aov Builtin.Slice.sliceFields;refine akv (akv (alP d c (x:=a) rfl (akv (alP d c (x:=b) rfl (akv (alP d c (x:=.none) rfl (akG ?_)))))));refine akv (slicePart_none ?_);show wpAny _ _ (if((1:Int)==0)=true then _ else _) _ _ s;rw[if_neg (by decide)];refine akv (Po pl (akv (Po e (akv (akG ?_)))));show wpAny _ _ (match anl lo hi 1 (n:Int)with|(lo,hi)=>pure (lo,(1:Int),amJ lo hi 1)) _ _ s;rw[Q7 lo hi n];show wpAny _ _ (pure (((cv n 0 lo:Nat):Int),(1:Int),amJ ((cv n 0 lo:Nat):Int) ((cv n n hi:Nat):Int) 1)) _ _ s;rw[adI];exact akG h
def adE(xs:Array Value)(i k:Nat):((akR k).filterMap λ(m:Nat)=>xs[((i:Int)+(m:Int)*1).toNat]?).toArray=((xs.toList.drop i).take k).toArray:=by
 have e:(λ(m:Nat)=>xs[((i:Int)+(m:Int)*1).toNat]?)=λm=>xs[i+m]?:=by
  funext m
  have:((i:Int)+(m:Int)*1).toNat=i+m:=by omega
  rw[this]
 rw[e];have:=pick_run xs i k;rw[List.filterMap_map]at this;have aF:((λx=>xs[x]?)∘λx=>i+x)=λm=>xs[i+m]?:=rfl
 rw[aF]at this;rw[this]
def UP{t ba:Addr}{a:Array Value}{d e:Value}{lo hi:Option Int}{Q:dk}(b:IsTup s.heap t a)(ay:s.heap.IsSliceOf ba d e .none)(pl:anB d lo)(i:anB e hi)
  (hw:¬(cv a.size 0 lo=0/\cv a.size a.size hi=a.size))
  (h:Q (.ref s.heap.objs.size) { s with heap:=s.heap.push { cls:=.type "tuple",data:=.seq ((a.toList.drop (cv a.size 0 lo)).take (cv a.size a.size hi-cv a.size 0 lo)).toArray } })
  (n:a.size<=akA):wpAny (model prog w) A (anR (.ref t) (.ref ba)) Q E s:=by
 have c:sizeOk (.seq ((a.toList.drop (cv a.size 0 lo)).take (cv a.size a.size hi-cv a.size 0 lo)).toArray):=by
  show((a.toList.drop (cv a.size 0 lo)).take (cv a.size a.size hi-cv a.size 0 lo)).toArray.size<=akA;rw[akH,alT,alE,alk];omega
 have l:cv a.size a.size hi<=a.size:=aeB _ _ (akE _) hi;obtain⟨os,j,k,p⟩:=id ay;have f:s.TypeIs (.ref ba) "slice":=⟨os,j,k⟩;unfold anR
 try with_reducible refine al5 ?_
 first|refine akv (akG ?_)|skip
 refine akv (wpAny_sequenceKey b.typeIs (by decide) ?_);refine akv (al9 (name:=akT "__getitem__") b.typeIs alH
  (amO alH b.typeIs entry_tuple_getitem ?_ (args_tuple_getitem _ _)))
 show wpAny _ _ (aow (.ref t) >>= _) _ _ s;refine akv (tupleItemsOf_ b ?_);refine akv (wpAny_typeOf f ?_);rw[if_pos (by decide)];refine akv (Pn ay pl i ?_);have g:¬((((cv a.size 0 lo:Nat):Int)==0&&(1:Int)==1&&(cv a.size a.size hi-cv a.size 0 lo)==a.size)=true):=by
  intro q;rw[ak0,ak0]at q;have br:((cv a.size 0 lo:Nat):Int)=0:=eq_of_beq q.1.1;have bS:cv a.size a.size hi-cv a.size 0 lo=a.size:=eq_of_beq q.2;exact hw ⟨by omega,by omega⟩
 show wpAny _ _ (if(((cv a.size 0 lo:Nat):Int)==0&&(1:Int)==1&&(cv a.size a.size hi-cv a.size 0 lo)==a.size)=true then _ else _) _ _ s;rw[if_neg g,adE]
 first
  |exact akv (m:=amP _) (amt (akG ⟨_,rfl,akG h⟩) c)
  |exact akv (m:=amP _) (amt (akv (akG (akG ⟨_,rfl,akG h⟩))) c)
  |exact akv (akv (m:=amP _) (amt (akG (akG ⟨_,rfl,akG h⟩)) c))
  |exact akv (akv (m:=amP _) (amt (akG ⟨_,rfl,akG h⟩) c))
end
end c1
namespace aC
open PySem PySem.Spec PyProof.Rows
abbrev dO:=St->aw->(Option Int->aw->Prop)->Prop
def uN(X:aV)(e:Option Expr)(t:dO):Prop:=
 ∀(zn:c3)(s:akC)(U:St)(H:aw)(Q:Option Int->aw->Prop),Inv X zn U H s->t U H Q->
  wpAny (model X.prog X.w) X.A (evalPart e X.env) (λu a=>∃o H',Inv X zn U H' a/\anB u o/\Q o H') X.dN s
def afp:dO:=λ_ H Q=>Q none H
def afu(t:TE):dO:=λU H Q=>t U H λx a=>∃i,x=.int i/\Q (some i) a
def intsAre_of{ns:List Int}:∀{us:List Value},Vals (ns.map V.int) us->amM us ns:=by
 induction ns with
 |nil=>intro us r;rw[List.map_nil]at r;cases r;exact .nil
 |cons n ns a=>
  intro us r;rw[akO]at r
  cases r with
  |cons c b=>
   obtain⟨t,e⟩:=c;subst e;exact .cons n t (a b)
section
variable{X:aV}{e:Expr}{te:TE}{lo hi:Option Expr}{jn AD:dO}{pos cD:Pos}
def adJ:uN X none afp:=by
 intro zn s U H Q J h;rw[evalPart_none];exact akG ⟨none,H,J,.none,h⟩
def adK(h:bZ X e te):uN X (some e) (afu te):=by
 intro zn s U H Q J hw;rw[evalPart_some];refine bX (h zn s U H _ J hw) λu f b=>?_
 obtain⟨x,a,d,c,br⟩:=b;obtain⟨i,rfl,q⟩:=br;obtain⟨t,rfl⟩:=c;exact⟨some i,a,d,.int i t,q⟩
def nU(X:aV)(r:V->Option Int->Option Int->aw->cU->Prop):Prop:=
 ∀(zn:c3)(s:akC)(U:St)(H:aw)(x:V)(v a b:Value)(lo hi:Option Int)(ba:Addr)(Q:cU),Inv X zn U H s->RelV x v->s.heap.IsSliceOf ba a b .none->anB a lo->anB b hi->r x lo hi H Q->
  ∃T id,typeLookup (.type T) "__getitem__"=pure (some (.builtin id))/\s.TypeIs v T/\wpAny (model X.prog X.w) X.A (anR v (.ref ba)) (hr X zn U Q) X.dN s
def nU.or{r b:V->Option Int->Option Int->aw->cU->Prop}(h:nU X r)(h':nU X b):nU X (λx lo hi H Q=>r x lo hi H Q\/b x lo hi H Q):=by
 intro zn s U H x v c d lo hi ba Q J a ay pl f q;rcases q with q|q
 .exact h zn s U H x v c d lo hi ba Q J a ay pl f q
 .exact h' zn s U H x v c d lo hi ba Q J a ay pl f q
def afx(r:V->Option Int->Option Int->aw->cU->Prop)(te:TE)(jn AD:dO):TE:=λU H Q=>te U H λx a=>jn U a λl b=>AD U b λu c=>r x l u c Q
def E1{r:V->Option Int->Option Int->aw->cU->Prop}(aD:nU X r)(he:bZ X e te)(hl:uN X lo jn)(t:uN X hi AD):bZ X (.Subscript e (.Slice lo hi none cD) pos) (afx r te jn AD):=by
 intro zn s U H Q J h;refine Subscript_ (bX (he zn s U H _ J h) λv F d=>?_);obtain⟨x,g,p,m,br⟩:=d;refine wpAny_Slice (bX (hl zn F U g _ p br) λa s2 ⟨l,i,k,pl,bS⟩=>bX (t zn s2 U i _ k bS) λc s3 d=>?_);obtain⟨u,f,z,E,y⟩:=d;rw[evalPart_none];refine akG ?_;have D:Inv X zn U f { s3 with heap:=s3.heap.push { cls:=.type "slice",data:=.fields #[a,c,.none] } }:=z.kept (t':=s3.toks) λb bb q=>aky _ q
 obtain⟨T,id,B,n,j⟩:=aD zn { s3 with heap:=s3.heap.push { cls:=.type "slice",data:=.fields #[a,c,.none] } } U f x v a c l u s3.heap.objs.size Q D m (Heap.IsSliceOf.new ..) pl E y;show wpAny (model X.prog X.w) X.A (subscriptTail e (.Slice lo hi none cD) v (.ref s3.heap.objs.size)) (hr X zn U Q) X.dN { s3 with heap:=s3.heap.push { cls:=.type "slice",data:=.fields #[a,c,.none] } };exact tail_any (ops:=[.ref s3.heap.objs.size,v]) n B j (by with_unfolding_all rfl)
def pG(xs:List V)(lo hi:Option Int):List V:=(xs.drop (c1.cv xs.length 0 lo)).take (c1.cv xs.length xs.length hi-c1.cv xs.length 0 lo)
def Jj(xs:List V)(lo hi:Option Int):(pG xs lo hi).length<=xs.length:=by
 unfold pG;rw[alT,alE];omega
def aee(K:aM):V->Option Int->Option Int->aw->cU->Prop:=λx lo hi H Q=>∃a xs,x=.ref a/\dB K H a xs/\
 ¬(c1.cv xs.length 0 lo=0/\c1.cv xs.length xs.length hi=xs.length)/\∀p,H p=none->Q (.ref p) (upd H p (.t (pG xs lo hi)))
theorem Pm:nU X (aee X.K):=by
 intro zn s U H x v j k lo hi ba Q J f ay pl i h;obtain⟨a,xs,rfl,g,hw,q⟩:=h;cases f;obtain⟨its,r,d,hz⟩:=J.tuple g;have c:its.toArray.size=xs.length:=by rw[akH];exact r.length.symm
 refine⟨"tuple",_,alH.lookup,d.typeIs,?_⟩;refine c1.UP d ay pl i (by rw[c];exact hw) ?_ (by rw[c];exact hz);rw[c];refine⟨.ref s.heap.objs.size,_,J.laid (t':=s.toks) (o:=.t (pG xs lo hi)) (λb bb q=>aky _ q) (akE _) ?_,rfl,q _ (J.cb.fresh (akE _))⟩;exact⟨ald (Jj xs lo hi) hz,_,(r.drop (c1.cv xs.length 0 lo)).take (c1.cv xs.length xs.length hi-c1.cv xs.length 0 lo),IsTup.new _ _⟩
end
def oj(n:Nat)(i:Int):Option Nat:=if 0<=i then(if i<n then some i.toNat else none)else if -(n:Int)<=i then some (i+n).toNat else none
def dY{α:Type}(xs:List α)(i:Int):Option α:=(oj xs.length i).bind λj=>xs[j]?
def MR{i:Int}(h:oj n i=some j):seqIndex? i n=some j/\j<n/\-(n:Int)<=i/\i<n:=by
 unfold oj at h
 by_cases b:0<=i
 .rw[if_pos b]at h
  by_cases a:i<n
  .rw[if_pos a]at h
   have e:i.toNat=j:=ak1 h;exact⟨by rw[seqIndex_of b a,e],by omega,by omega,a⟩
  .rw[if_neg a]at h;cases h
 .rw[if_neg b]at h
  by_cases a:-(n:Int)<=i
  .rw[if_pos a]at h
   have e:(i+n).toNat=j:=ak1 h;exact⟨by rw[seqIndex_neg (by omega) a,e],by omega,a,by omega⟩
  .rw[if_neg a]at h;cases h
def x3{α:Type}{xs:List α}{i:Int}{v:α}(h:dY xs i=some v):∃j,seqIndex? i xs.length=some j/\xs[j]? = some v/\j<xs.length/\-(xs.length:Int)<=i/\i<xs.length:=by
 unfold dY at h
 cases e:oj xs.length i with
 |none=>rw[e]at h;cases h
 |some j=>
  rw[e]at h;obtain⟨a,b,c,d⟩:=MR e;exact⟨j,a,h,b,c,d⟩
def GY{α:Type}{xs:List α}{j:Nat}{v:α}(h:xs[j]? = some v):dY xs (j:Int)=some v:=by
 have a:j<xs.length:=(akw.mp h).1;have e:oj xs.length (j:Int)=some j:=by
  unfold oj;rw[if_pos (by omega),if_pos (by omega)];simp
 unfold dY;rw[e];exact h
def GH(b:Expr):Prop:=∀o i,ao6 b false o i=operate [o,i] (anR o i)
def mQ(X:aV)(r:fg):Prop:=
 ∀(value a:Expr)(zn:c3)(s:akC)(U:St)(H:aw)(x y:V)(v u:Value)(Q:cU),Inv X zn U H s->RelV x v->RelV y u->r x y H Q->
  ao6 a false v u=operate [v,u] (anR v u)->wpAny (model X.prog X.w) X.A (subscriptTail value a v u) (hr X zn U Q) X.dN s
def uM(X:aV)(id:String)(r:V->List V->aw->cU->Prop):Prop:=
 ∀(zn:c3)(s:akC)(U:St)(H:aw)(x:V)(xs:List V)(v:Value)(us:List Value)(Q:cU),Inv X zn U H s->RelV x v->Vals xs us->r x xs H Q->
  wpAny (model X.prog X.w) X.A (call (.builtin id) (v::us)) (hr X zn U Q) X.dN s
section
variable{X:aV}{a b:Expr}{bW cC:TE}{pos:Pos}
def mQ.or{r f:fg}(h:mQ X r)(h':mQ X f):mQ X (λx y H Q=>r x y H Q\/f x y H Q):=by
 intro value c zn s U H x y v u Q J d e q ay;rcases q with q|q
 .exact h value c zn s U H x y v u Q J d e q ay
 .exact h' value c zn s U H x y v u Q J d e q ay
def adh{r:fg}(aD:mQ X r)(f:bZ X a bW)(e:bZ X b cC)(ay:GH b):bZ X (.Subscript a b pos) (xb r bW cC):=by
 intro zn s U H Q J h;exact Subscript_ (B0 f e J h λv u s2 x y d i c g q=>aD a b zn s2 U d x y v u Q i c g q (ay _ _))
def O2(K:aM):fg:=λx y H Q=>∃p xs i v,x=.ref p/\y=.int i/\dt K H p xs/\dY xs i=some v/\Q v H
def O4(K:aM):fg:=λx y H Q=>∃p xs i v,x=.ref p/\y=.int i/\dB K H p xs/\dY xs i=some v/\Q v H
def O3:fg:=λx y H Q=>∃z i c,x=.str z/\y=.int i/\z.length<=akA/\dY z.cps.toList i=some c/\Q (.str ⟨#[c]⟩) H
def YM:mQ X (O2 X.K):=by
 intro value e zn s U H x y v u Q J l A h ay;obtain⟨p,xs,i,z,rfl,rfl,k,he,q⟩:=h;cases l;obtain⟨t,rfl⟩:=A;obtain⟨its,r,pl,hz⟩:=J.list k;obtain⟨j,c,n,E,B,D⟩:=x3 he;obtain⟨w,f,jk⟩:=r.get n;have hl:=r.length;have aA:=tg;have fin:hr X zn U Q w s:=⟨z,H,J,jk,q⟩
 by_cases g:0<=i
 .have d:i.toNat=j:=by
   rw[seqIndex_of g D]at c;exact ak1 c
  exact item_listR pl.isList g (by omega) (by rw[d];simpa using f) fin ay
 .have d:(i+(its.toArray.size:Int)).toNat=j:=by
   rw[seqIndex_neg (by omega) B]at c;rw[akH,<-hl];exact ak1 c
  exact subscriptTail_builtinR (x:=w) pl.isList.typeIs slot_list_getitem.lookup
   (wpAny_getItem_list_neg (Q:=λr m=>r=w/\hr X zn U Q r m) pl.isList (by omega) (by rw[akH]<;>omega) (by omega) (by rw[d];simpa using f) ⟨rfl,fin⟩) ay
def YO:mQ X (O4 X.K):=by
 intro value c zn s U H x y v u Q J e l h ay;obtain⟨p,xs,i,z,rfl,rfl,d,he,q⟩:=h;cases e;obtain⟨t,rfl⟩:=l;obtain⟨its,r,pl,hz⟩:=J.tuple d;obtain⟨j,g,k,n,A,B⟩:=x3 he;obtain⟨w,m,jk⟩:=r.get k;have hl:=r.length;have aA:=tg;have fin:hr X zn U Q w s:=⟨z,H,J,jk,q⟩;exact subscriptTail_builtinR (x:=w) pl.typeIs slot_tuple_getitem.lookup
  (getItem_tuple (j:=j) (Q:=λr f=>r=w/\hr X zn U Q r f) pl (by omega) (by omega) (by rw[akH,<-hl];exact g) (by simpa using m) ⟨rfl,fin⟩) ay
def YN:mQ X O3:=by
 intro value d zn s U H x y v u Q J f k h ay;obtain⟨z,i,c,rfl,rfl,hz,he,q⟩:=h;obtain⟨t,rfl⟩:=f;obtain⟨t',rfl⟩:=k;obtain⟨j,e,g,n,l,m⟩:=x3 he;have hl:z.cps.toList.length=z.length:=by simp[Str.length]
 rw[hl]at e l m;have aA:=tg;exact tail_any (typeIs_str s z t) slot_str_getitem.lookup (getItem_str (c:=c) (by
  have au:decide (i < -(2 ^ 63:Int))=false:=decide_eq_false (by omega);have aF:decide (i≥2 ^ 63)=false:=decide_eq_false (by omega);rw[au,aF,Bool.or_false]) (by rw[e];simpa using g) ⟨.str ⟨#[c]⟩,H,J.tok _,⟨_,rfl⟩,q⟩) ay
def O1(K:aM):fg:=λx y H Q=>O2 K x y H Q\/O4 K x y H Q\/O3 x y H Q
def hg:mQ X (O1 X.K):=YM.or (YO.or YN)
def Z3(its:List Value)(n j:Nat)(u:Value):ak6 (·.setIfInBounds j u) { cls:=.type "list",data:=.seq its.toArray n }={ cls:=.type "list",data:=.seq (its.set j u).toArray n }:=by
 simp[ak6]
def Inv.l{zn:c3}{U:St}{H:aw}{s:akC}{p:Addr}{xs:List V}(J:Inv X zn U H s)(h:H p=some (.l xs)) :
  ∃(its:List Value)(n:Nat),Vals xs its/\s.heap.get? p=some { cls:=.type "list",data:=.seq its.toArray n }/\xs.length<=akA:=by
 obtain⟨z,its,n,r,e⟩:=J.cb p _ h;exact⟨its,n,r,e,z⟩
theorem Inv.ZM{zn:c3}{U:St}{H:aw}{s:akC}{p:Addr}{xs ys:List V}{its its':List Value}{n c:Nat}{f:Obj->Obj}(J:Inv X zn U H s)(h:H p=some (.l xs))
  (g:s.heap.get? p=some { cls:=.type "list",data:=.seq its.toArray n }) (d:f { cls:=.type "list",data:=.seq its.toArray n }={ cls:=.type "list",data:=.seq its'.toArray c }) (r:Vals ys its') (hz:ys.length<=akA) (t:Nat) :
  Inv X zn U (upd H p (.l ys)) { s with heap:=s.heap.update p f,toks:=t }:=by
 have e:(s.heap.update p f).get? p=some { cls:=.type "list",data:=.seq its'.toArray c }:=by
  rw[Heap.get?_update_self f g (by rw[d]<;>rfl),d]
 refine J.write (x:=p) (e:=p) (by rw[h];trivial) (.inl rfl) (λb u i q=>(ao7 _ _ (am9 i)).trans q) ⟨_,e⟩ ?_;exact⟨hz,its',c,r,e⟩
def aec:V->V->V->aw->(aw->Prop)->Prop:=λo i v H Q=>∃p xs k j,o=.ref p/\i=.int k/\H p=some (.l xs)/\oj xs.length k=some j/\Q (upd H p (.l (xs.set j v)))
def set_list:GG X aec:=by
 intro zn s U H o i v bR E u Q J B e A h;obtain⟨p,xs,k,j,rfl,rfl,g,z,q⟩:=h;cases B;obtain⟨t,rfl⟩:=e;obtain⟨its,n,r,d,hz⟩:=J.l g;obtain⟨c,D,m,w⟩:=MR z;have hl:=r.length;have aA:=tg;have x:Inv X zn U (upd H p (.l (xs.set j v))) { s with heap:=s.heap.update p (ak6 (·.setIfInBounds j u)) }:=
  J.ZM g d (Z3 its n j u) (r.set A j) (by rw[ak8];exact hz) s.toks
 by_cases y:0<=k
 .have f:k.toNat=j:=by
   rw[seqIndex_of y w]at c;exact ak1 c
  exact W.ki_setAt d y (by omega) (by rw[akH,<-hl];exact w) (by rw[f];exact⟨_,x,q⟩)
 .have f:(k+(its.toArray.size:Int)).toNat=j:=by
   rw[seqIndex_neg (by omega) m]at c;rw[akH,<-hl];exact ak1 c
  exact W.ki_setBack d (by omega) (by rw[akH,<-hl];exact m) (by omega) (by rw[f];exact⟨_,x,q⟩)
def Pp(lo hi:Option Int)(n:Nat):(amL lo hi none n).1=((c1.cv n 0 lo:Nat):Int)/\(amL lo hi none n).2.1=((c1.cv n n hi:Nat):Int)/\(amL lo hi none n).2.2=1:=by
 refine⟨?_,?_,rfl⟩
 .cases lo with
  |none=>simp[amL,c1.cv]|some i=>
   simp only[amL,c1.cv,Option.getD_none,show(1:Int) > 0 by decide,if_true]
   by_cases h:i<0
   .simp only[h,if_true]<;>omega
   .simp only[h,if_false]<;>omega
 .cases hi with
  |none=>simp[amL,c1.cv]|some i=>
   simp only[amL,c1.cv,Option.getD_none,show(1:Int) > 0 by decide,if_true]
   by_cases h:i<0
   .simp only[h,if_true]<;>omega
   .simp only[h,if_false]<;>omega
def aeP(its:List Value)(lo hi:Option Int):slicePick its.toArray lo hi none=((its.drop (c1.cv its.length 0 lo)).take (c1.cv its.length its.length hi-c1.cv its.length 0 lo)).toArray:=by
 obtain⟨c,d,e⟩:=Pp lo hi its.toArray.size;unfold slicePick;rw[c,d,e];simp only[sliceRange_one,pick_run,akH]<;>rfl
def aed(K:aM):V->Option Int->Option Int->aw->cU->Prop:=λx lo hi H Q=>∃a xs,x=.ref a/\dt K H a xs/\∀p,H p=none->Q (.ref p) (upd H p (.l (pG xs lo hi)))
theorem aeM:nU X (aed X.K):=by
 intro zn s U H x v i j lo hi ba Q J e ay pl g h;obtain⟨a,xs,rfl,f,q⟩:=h;cases e;obtain⟨its,r,d,hz⟩:=J.list f;have c:=r.length;refine⟨"list",_,slot_list_getitem.lookup,d.isList.typeIs,?_⟩;refine wpAny_getItem_list_slice d.isList ay pl g .none (by simp) ?_ (by rw[akH]<;>omega);rw[aeP,<-c];refine⟨.ref s.heap.objs.size,_,J.laid (t':=s.toks) (o:=.l (pG xs lo hi)) (λb bb q=>aky _ q) (akE _) ?_,rfl,q _ (J.cb.fresh (akE _))⟩;exact⟨ald (Jj xs lo hi) hz,_,0,(r.drop (c1.cv xs.length 0 lo)).take (c1.cv xs.length xs.length hi-c1.cv xs.length 0 lo),akK _ rfl⟩
def nd:V->Bool
 |.aI=>true|.ax _=>true|.int _=>true|.str _=>true|_=>false
def m_:V->V->Bool
 |.aI,.aI=>true|.ax a,.ax b=>a==b|.ax a,.int b=>(if a then 1 else 0)==b|.int a,.ax b=>a==(if b then 1 else 0)|.int a,.int b=>a==b|.str a,.str b=>a==b|_,_=>false
theorem T3{s:akC}{u v:Value}(d:RelV y u)(c:RelV x v)(f:nd y=true)(e:nd x=true):SeqAt.EqAt A s u v (m_ y x):=by
 cases y with
 |aI=>
  cases d
  cases x with
  |aI=>cases c;exact SeqAt.EqAt.same _
  |ax b=>cases c;exact SeqAt.EqAt.none_bool b
  |int b=>obtain⟨t,rfl⟩:=c;exact SeqAt.EqAt.none_int b t
  |str b=>obtain⟨t,rfl⟩:=c;exact SeqAt.EqAt.none_str b t
  |_=>exact absurd (show false=true from e) akD
 |ax a=>
  cases d
  cases x with
  |aI=>cases c;exact SeqAt.EqAt.bool_none a
  |ax b=>cases c;exact SeqAt.EqAt.bool_bool a b
  |int b=>obtain⟨t,rfl⟩:=c;exact SeqAt.EqAt.bool_int a b t
  |str b=>obtain⟨t,rfl⟩:=c;exact SeqAt.EqAt.bool_str a b t
  |_=>exact absurd (show false=true from e) akD
 |int a=>
  obtain⟨t',rfl⟩:=d
  cases x with
  |aI=>cases c;exact SeqAt.EqAt.int_none a t'
  |ax b=>cases c;exact SeqAt.EqAt.int_bool a t' b
  |int b=>obtain⟨t,rfl⟩:=c;exact apq a t' b t
  |str b=>obtain⟨t,rfl⟩:=c;exact apm a t' b t
  |_=>exact absurd (show false=true from e) akD
 |str a=>
  obtain⟨t',rfl⟩:=d
  cases x with
  |aI=>cases c;exact SeqAt.EqAt.str_none a t'
  |ax b=>cases c;exact SeqAt.EqAt.str_bool a t' b
  |int b=>obtain⟨t,rfl⟩:=c;exact apn a t' b t
  |str b=>obtain⟨t,rfl⟩:=c;exact SeqAt.EqAt.str_str a t' b t
  |_=>exact absurd (show false=true from e) akD
 |_=>exact absurd (show false=true from f) akD
def n6(x:V)(u:Value):Bool:=match u with
 |.none=>m_ .aI x|.bool b=>m_ (.ax b) x|.int i _=>m_ (.int i) x|.str z _=>m_ (.str z) x|_=>false
theorem Li(r:RelV y u)(f:nd y=true):n6 x u=m_ y x:=by
 cases y with
 |aI=>cases r;rfl
 |ax b=>cases r;rfl
 |int i=>obtain⟨t,rfl⟩:=r;rfl
 |str z=>obtain⟨t,rfl⟩:=r;rfl
 |_=>exact absurd (show false=true from f) akD
theorem Bt:∀{xs:List V}{us:List Value},Vals xs us->xs.all nd=true->us.any (n6 x)=xs.any λy=>m_ y x
 |_,_,.nil,_=>rfl|y::xs,u::us,.cons r t,f=>by
  rw[anf,ak0]at f;rw[aox,aox,Li r f.1,Bt t f.2]
theorem Ex{s:akC}{v:Value}(d:RelV x v)(e:nd x=true):∀{xs:List V}{us:List Value},Vals xs us->xs.all nd=true->∀u∈us,SeqAt.EqAt A s u v (n6 x u)
 |_,_,.nil,_=>λu c=>by cases c
 |y::xs,u::us,.cons r t,f=>λu' c=>by
  rw[anf,ak0]at f;rcases akP.mp c with rfl|c
  .rw[Li r f.1];exact T3 r d f.1 e
  .exact Ex d e t f.2 u' c
def DI(x:V)(xs:List V):Bool:=xs.any λy=>m_ y x
def OZ(K:aM)(neg:Bool):fg:=λx y H Q=>∃p xs,y=.ref p/\(dt K H p xs\/dB K H p xs)/\nd x=true/\xs.all nd=true/\Q (.ax (if neg then !DI x xs else DI x xs)) H
def Od:dU X (alj .In) (OZ X.K false):=by
 intro zn s U H x y v u Q J d f h;obtain⟨p,xs,rfl,c,e,aW,q⟩:=h;cases f;rcases c with c|c
 .obtain⟨its,r,pl,hz⟩:=J.list c
  refine SeqAt.in_listAt (n6 x) pl.isList (λw hw=>Ex d e r aW w (by simpa using hw)) ⟨.ax _,H,J,rfl,?_⟩;rw[show its.toArray.any (n6 x)=its.any (n6 x)by simp,Bt r aW];exact q
 .obtain⟨its,r,pl,hz⟩:=J.tuple c
  refine SeqAt.in_tupleAt (n6 x) pl (λw hw=>Ex d e r aW w (by simpa using hw)) ⟨.ax _,H,J,rfl,?_⟩;rw[show its.toArray.any (n6 x)=its.any (n6 x)by simp,Bt r aW];exact q
def S6:jV X (.builtin "len") (λxs H Q=>∃p ys,xs=[.ref p]/\(dt X.K H p ys\/dB X.K H p ys)/\Q (.int ys.length) H):=by
 intro zn s U H xs us Q J r h;obtain⟨p,ys,rfl,d,q⟩:=h;obtain⟨u,rfl,f⟩:=vals1 r;cases f;have aA:=tg;rcases d with d|d
 .obtain⟨its,e,pl,hz⟩:=J.list d
  have c:=e.length;exact Calls.call_len_list pl.isList (by simp only[akH]<;>omega) ⟨.int ys.length,H,J.tok _,⟨s.toks+1,by rw[akH,c]⟩,q⟩
 .obtain⟨its,e,pl,hz⟩:=J.tuple d
  have c:=e.length;exact len_tuple pl (by simp only[akH]<;>omega) ⟨.int ys.length,H,J.tok _,⟨s.toks+1,by rw[akH,c]⟩,q⟩
def S7:jV X (.builtin "len") (λxs H Q=>∃z,xs=[.str z]/\z.length<=akA/\Q (.int z.length) H):=by
 intro zn s U H xs us Q J r h;obtain⟨z,rfl,hz,q⟩:=h;obtain⟨u,rfl,t,rfl⟩:=vals1 r;have aA:=tg;exact len_str (by omega) ⟨.int z.length,H,J.tok _,⟨_,rfl⟩,q⟩
theorem S8:jV X (.type "list") (λxs H Q=>∃p ys,xs=[.ref p]/\(dt X.K H p ys\/dB X.K H p ys)/\∀l,H l=none->Q (.ref l) (upd H l (.l ys))):=by
 intro zn s U H xs us Q J r h;obtain⟨p,ys,rfl,d,q⟩:=h;obtain⟨u,rfl,k⟩:=vals1 r;cases k;have fin:∀(its:List Value),Vals ys its->ys.length<=akA->∀(h':Heap)(c':Nat),(∀b j,s.heap.get? b=some j->h'.get? b=some j)->
   h'.get? s.heap.objs.size=some { cls:=.type "list",dict:=none,data:=.seq its.toArray c',slots:=#[] }->hr X zn U Q (.ref s.heap.objs.size) { s with heap:=h' }:=λits c hz h' c' kp e=>
  ⟨.ref s.heap.objs.size,_,J.laid (t':=s.toks) kp (akE _) (show iG X.prog X.w _ h' _ (.l ys)from⟨hz,its,c',c,e⟩),rfl,q _ (J.cb.fresh (akE _))⟩
 rcases d with d|d
 .obtain⟨its,c,pl,hz⟩:=J.list d
  have f:=c.length;obtain⟨o,g,i,n,hd⟩:=pl.isList;exact call_list_seq p (.inl rfl) g i hd (λh' c' kp e=>fin its c hz h' c' kp e) (by simp only[akH]<;>omega)
 .obtain⟨its,c,pl,hz⟩:=J.tuple d
  have f:=c.length;obtain⟨o,g,i,n,hd⟩:=pl;exact call_list_seq p (.inr rfl) g i hd (λh' c' kp e=>fin its c hz h' c' kp e) (by simp only[akH]<;>omega)
theorem yi:jV X (.type "tuple") (λxs H Q=>∃p ys,xs=[.ref p]/\((dt X.K H p ys/\∀l,H l=none->Q (.ref l) (upd H l (.t ys)))\/(dB X.K H p ys/\Q (.ref p) H))):=by
 intro zn s U H xs us Q J r h;obtain⟨p,ys,rfl,h⟩:=h;obtain⟨u,rfl,g⟩:=vals1 r;cases g;rcases h with⟨C,q⟩|⟨C,q⟩
 .obtain⟨its,c,pl,hz⟩:=J.list C
  have f:=c.length;refine call_tuple_list pl.isList (λh' kp=>?_) (by simp only[akH]<;>omega);have d:Inv X zn U H { s with heap:=h' }:=J.kept (t':=s.toks) kp;have i:Inv X zn U (upd H h'.objs.size (.t ys)) { s with heap:=h'.push { cls:=.type "tuple",data:=.seq its.toArray } }:=
   d.laid (t':=s.toks) (λb o e=>aky _ e) (akE _) (show iG X.prog X.w _ _ _ (.t ys)from⟨hz,its,c,IsTup.new _ _⟩)
  exact⟨.ref h'.objs.size,_,i,rfl,q _ (d.cb.fresh (akE _))⟩
 .obtain⟨its,c,pl,hz⟩:=J.tuple C
  exact call_tuple_same pl ⟨.ref p,H,J,rfl,q⟩
def AJ(K:aM)(T:String)(x:V)(H:aw):Prop:=match x with
 |.str _=>T="str"|.int _=>T="int"|.ref p=>(T="list"/\∃xs,dt K H p xs)\/(T="tuple"/\∃o,K.lookup p=some o/\o.cls=.type "tuple"/\o.dict=none)\/
   (T="dict"/\((∃c,H p=some (.sA c))\/∃c,H p=some (.gi c)))\/(T="set"/\∃S n,H p=some (.set S n))
 |_=>False
def PO{s:akC}{v:Value}(J:Inv X zn U H s)(r:RelV x v)(ty:AJ X.K T x H) :
  s.TypeIs v T/\∀a,v=.ref a->∃bb,s.heap.get? a=some bb/\bb.dict=none:=by
 cases x with
 |str z=>
  obtain⟨t,rfl⟩:=r;cases(show T="str" from ty);exact⟨typeIs_str s z t,λ_ e=>nomatch e⟩
 |int i=>
  obtain⟨t,rfl⟩:=r;cases(show T="int" from ty);exact⟨typeIs_int s i t,λ_ e=>nomatch e⟩
 |ref p=>
  cases r;rcases ty with⟨rfl,xs,a6⟩|⟨rfl,o,C,hc,hd⟩|⟨rfl,C⟩|⟨rfl,S,n,C⟩
  .obtain⟨its,_,pl,_⟩:=J.list a6
   refine⟨pl.isList.typeIs,λa e=>?_⟩;cases e;obtain⟨o,n,e,c,hd,_⟩:=pl;exact⟨o,e,hd⟩
  .refine⟨⟨o,J.f9 p o C,hc⟩,λa e=>?_⟩
   cases e;exact⟨o,J.f9 _ o C,hd⟩
  .have z:∃o,s.heap.get? p=some o/\o.ExactDict:=by
    rcases C with⟨dm,C⟩|⟨dm,C⟩
    .obtain⟨_,_,_,_,o,_,_,e,ex,_⟩:=J.cb p _ C
     exact⟨o,e,ex⟩
    .obtain⟨_,_,_,_,o,_,_,e,ex,_⟩:=J.cb p _ C
     exact⟨o,e,ex⟩
   obtain⟨o,e,ex⟩:=z;refine⟨⟨o,e,ex.1⟩,λa aF=>?_⟩;cases aF;exact⟨o,e,ex.2.1⟩
  .obtain⟨o,_,_,_,e,ex,_⟩:=J.cb p _ C
   refine⟨⟨o,e,ex.1⟩,λa aF=>?_⟩;cases aF;exact⟨o,e,ex.2.1⟩
 |_=>exact alf ty
def afg(K:aM)(T:String)(r:V->List V->aw->cU->Prop)(to:TE):TE:=λU H Q=>to U H λx c=>AJ K T x c/\r x [] c Q
def aff(K:aM)(T:String)(r:V->List V->aw->cU->Prop)(to:TE)(t:fQ):TE:=λU H Q=>to U H λx c=>AJ K T x c/\t U c λxs d=>r x xs d Q
variable{o e:Expr}{az:List Expr}{to:TE}{t:fQ}{name:Str}{apos dJ:Pos}{T id:String}{r:V->List V->aw->cU->Prop}
def ac3(f:PlainAttrs T)(slot:Slot T name id)(q:typeOf (.builtin id)=pure (.type "method_descriptor"))(m:uM X id r)(i:bZ X o to)
  (n:amg o name X.env (eval o X.env)=eval o X.env:=by rfl) (p:(apos.endLine==dJ.line)=true:=by rfl):bZ X (.Call (.Attribute o name apos) [] [] dJ) (afg X.K T r to):=by
 intro zn s U H Q J h;refine wpAny_Call_method0_late n p (bX (i zn s U H _ J h) λv u j=>?_);obtain⟨x,g,d,c,ty,br⟩:=j;obtain⟨k,l⟩:=PO d c ty;exact⟨T,id,f,slot,q,k,l,anC rfl (PySem.evalArgs_none (m zn u U g x [] v [] Q d c .nil br))⟩
def EZ(g:PlainAttrs T)(slot:Slot T name id)(B:typeOf (.builtin id)=pure (.type "method_descriptor"))(y:uM X id r)(j:bZ X o to)(p:gV X (e::az) t)
  (z:amg o name X.env (eval o X.env)=eval o X.env:=by rfl)
  (D:((ak3 dJ (akx (e::az) X.env)).all (λx=>!x.1)&&(amh dJ (alK [] X.env)).all (λx=>x.1.isSome)
&&decide ((e::az).length+([]:List anz).length+(if([]:List anz).isEmpty then 0 else 1)<30))=true:=by rfl)
  (A:(apos.endLine==dJ.line)=true:=by rfl) (ay:akx (e::az) X.env=(false,eval e X.env)::akx az X.env:=by rfl) (w:(ak3 dJ (akx az X.env)).any (·.1)=false:=by rfl) :
  bZ X (.Call (.Attribute o name apos) (e::az) [] dJ) (aff X.K T r to t):=by
 intro zn s U H Q J h;refine wpAny_Call_method_late z D A rfl (bX (j zn s U H _ J h) λv E l=>?_);obtain⟨x,i,d,c,ty,br⟩:=l;obtain⟨m,n⟩:=PO d c ty;refine⟨T,id,g,slot,B,m,n,?_⟩;have f:=p dJ zn E U i _ d br;rw[ay]at f ⊢;refine anC (by show(false||(ak3 dJ (akx az X.env)).any (·.1))=false;rw[w]<;>rfl) (Calls.evalArgs_plain ?_);exact bX f λus s2 ⟨vs,k,u,q,bS⟩=>y zn s2 U k x vs v us Q u c q bS
end
def uL(X:aV)(id:String)(r:V->List V->aw->cU->Prop):Prop:=
 ∀(zn:c3)(s:akC)(U:St)(H:aw)(x:V)(xs:List V)(v:Value)(us:List Value)(Q:cU),Inv X zn U H s->RelV x v->Vals xs us->r x xs H Q->
  wpAny (model X.prog X.w) X.A (call (.builtin id) (v::us)) (hr X zn U Q) X.dN s
def Vals.one:∀{x:V}{us:List Value},Vals [x] us->∃u,us=[u]/\RelV x u
 |_,_,.cons r .nil=>⟨_,rfl,r⟩
theorem Vals.rep(h:Vals xs us):∀k:Nat,Vals (akI k xs).flatten (akI k us).flatten
 |0=>.nil|k+1=>by
  rw[amb,amb,amH,amH];exact Vals.append h (Vals.rep h k)
theorem foldl_rep(its:List Value):∀(k:Nat)(acc:List Value),
  List.foldl (λa b=>a++b) acc.toArray (akI k its.toArray)=(acc++(akI k its).flatten).toArray
 | 0,acc=>by simp|k+1,acc=>by
  have e:acc.toArray++its.toArray=(acc++its).toArray:=by simp
  have aF:(acc++its)++(akI k its).flatten=acc++(akI (k+1) its).flatten:=by
   rw[amb,amH,amI]
  rw[<-aF,<-foldl_rep its k (acc++its),<-e,amb,ao0]
section
variable{X:aV}{zn:c3}{U:St}{H:aw}{s:akC}{l:Addr}{xs ys:List V}
def Inv.Ec{its its':List Value}{n:Nat}{f:Array Value->Array Value}{t':Nat}(J:Inv X zn U H s)(d:H l=some (.l xs))
  (e:s.heap.get? l=some { cls:=.type "list",data:=.seq its.toArray n }) (g:f its.toArray=its'.toArray) (b:Vals ys its') (hz:ys.length<=akA) :
  Inv X zn U (upd H l (.l ys)) { s with heap:=s.heap.update l (ak6 f),toks:=t' }:=by
 have q:=IsL.update e f;rw[g]at q;refine J.write (x:=l) (e:=l) (by rw[d];exact trivial) (.inl rfl) (λh u a c=>(ao7 s.heap (ak6 f) (am9 a)).trans c) ⟨_,q⟩ ?_;exact⟨hz,its',_,b,q⟩
def Inv.D'{t':Nat}(J:Inv X zn U H s)(a:Vals ys its)(hz:ys.length<=akA) :
  Inv X zn U (upd H s.heap.objs.size (.l ys)) { s with heap:=s.heap.push { cls:=.type "list",data:=.seq its.toArray },toks:=t' }:=
 J.laid (λ_ _ q=>aky _ q) (akE _) ⟨hz,its,0,a,akK _ rfl⟩
def Inv.fresh(J:Inv X zn U H s):H s.heap.objs.size=none:=J.cb.fresh (akE _)
def Inv.rx(J:Inv X zn U H s)(a:H l=some (.l xs)):xs.length<=akA/\∃(its:List Value)(n:Nat),Vals xs its/\xs.length=its.length/\s.heap.get? l=some { cls:=.type "list",data:=.seq its.toArray n }:=by
 obtain⟨z,its,n,r,e⟩:=J.cb l _ a;exact⟨z,its,n,r,r.length,e⟩
def EH(h:n<=akA):al4 n=false:=by
 unfold al4;exact decide_eq_false (by omega)
end
section
variable{X:aV}
def OV:V->List V->aw->cU->Prop:=λx vs H Q=>∃l xs y,x=.ref l/\vs=[y]/\H l=some (.l xs)/\xs.length<akA/\Q .aI (upd H l (.l (xs++[y])))
def tI:uL X "list.append" OV:=by
 intro zn s U H x vs v us Q J b c h;obtain⟨l,xs,y,rfl,rfl,a,hz,q⟩:=h;cases b;obtain⟨u,rfl,d⟩:=c.one;obtain⟨z,its,n,r,hl,e⟩:=J.rx a;refine aoI F.slot_list_append ⟨_,e,rfl⟩ F.entry_list_append (F.args_list_append_2 _ _) (PySem.list_append l its.toArray n u (by rw[akH];omega)) ⟨e,?_⟩;refine⟨.aI,_,J.Ec (its':=its++[u]) a e (by simp) (r.append (.cons d .nil)) ?_,rfl,q⟩;rw[akB,aly];omega
def OY:V->List V->aw->cU->Prop:=λx vs H Q=>∃l b xs a,x=.ref l/\vs=[.ref b]/\H l=some (.l xs)/\H b=some (.l a)/\xs.length+a.length<=akA/\Q .aI (upd H l (.l (xs++a)))
def aad:uL X "list.extend" OY:=by
 intro zn s U H x vs v us Q J d g h;obtain⟨l,b,xs,y,rfl,rfl,c,m,hz,q⟩:=h;cases d;obtain⟨u,rfl,i⟩:=g.one;cases i;obtain⟨z,its,n,r,hl,e⟩:=J.rx c;obtain⟨t,a,j,f,w,aF⟩:=J.rx m;have k:its.toArray.size+a.toArray.size<=akA:=by rw[akH,akH];omega
 have p:¬(!its.toArray.isEmpty&&al4 (its.toArray.size+a.toArray.size))=true:=by
  rw[EH k,Bool.and_false];exact akD
 refine aoI F.slot_list_extend ⟨_,e,rfl⟩ F.entry_list_extend (F.args_list_extend_2 _ _)
  (AutoSeq1.list_extend_list_list_0 l its.toArray n b a.toArray j p (by rw[akH];omega) (by omega)) ⟨e,aF,?_⟩
 refine⟨.aI,_,J.Ec (its':=its++a) c e (by simp) (r.append f) ?_,rfl,q⟩;rw[akB];omega
def OW:fg:=λx y H Q=>∃l b xs a,x=.ref l/\y=.ref b/\H l=some (.l xs)/\H b=some (.l a)/\xs.length+a.length<=akA/\∀p,H p=none->Q (.ref p) (upd H p (.l (xs++a)))
def acf:dU X (amo .Add) OW:=by
 intro zn s U H x y v u Q J c f h;obtain⟨l,b,xs,t,rfl,rfl,i,j,hz,q⟩:=h;cases c;cases f;obtain⟨z,its,n,r,hl,e⟩:=J.rx i;obtain⟨k,a,m,d,p,aF⟩:=J.rx j;refine P.add_list e aF ?_ (by rw[akH,akH];omega);have g:its.toArray++a.toArray=(its++a).toArray:=by simp
 rw[g];exact⟨.ref _,_,J.D' (t':=s.toks) (r.append d) (by rw[akB];omega),rfl,q _ J.fresh⟩
def O5:fg:=λx y H Q=>∃l k xs,x=.ref l/\y=.int k/\H l=some (.l xs)/\-(2 ^ 63)<=k/\k<2 ^ 63/\xs.length*k.toNat<=akA/\
 ∀p,H p=none->Q (.ref p) (upd H p (.l (akI k.toNat xs).flatten))
def len_rep{α:Type}(xs:List α)(k:Nat):(akI k xs).flatten.length=k*xs.length:=by
 induction k with
 |zero=>simp|succ k a=>rw[amb,amH,akB,a,Nat.succ_mul,Nat.add_comm]
def acp:dU X (amo .Mult) O5:=by
 intro zn s U H x y v u Q J j B h;obtain⟨l,k,xs,rfl,rfl,D,w,A,hz,q⟩:=h;cases j;obtain⟨t,rfl⟩:=B;obtain⟨z,its,n,r,hl,e⟩:=J.rx D;have b:its.toArray.size*k.toNat<=akA:=by rw[akH,<-hl];exact hz
 have f:¬its.toArray.size*k.toNat > (2 ^ 63-1) / 8:=by
  have:(akA:Nat)<=(2 ^ 63-1) / 8:=by decide
  omega
 have i:¬(!Builtin.List.listFitsIndex k)=true:=by
  rw[fitsIndex_both w A];exact akD
 have G:¬al4 (its.toArray.size*k.toNat)=true:=by
  rw[EH b];exact akD
 have g:List.foldl (λc d=>c++d) #[] (akI (if its.toArray.isEmpty=true then 0 else k.toNat) its.toArray)=(akI k.toNat its).flatten.toArray:=by
  have E:∀m:Nat,List.foldl (λc d=>c++d) #[] (akI m its.toArray)=(akI m its).flatten.toArray:=λm=>by
   have:=foldl_rep its m [];rw[List.nil_append]at this;exact this
  rw[E]
  cases its with
  |nil=>simp| cons a I=>rw[if_neg (by simp)]
 refine wpAny_binaryOp_repeat_ref (T:="list") (U:="int") (by decide) ⟨_,e,rfl⟩ (λp=>typeIs_int p k t) noFill_list_mul F.fills_int_mul F.slot_int_rmul repeat_list F.slot_int_index.lookup
  (aoI F.slot_int_rmul (typeIs_int s k t) F.entry_int_rmul (F.args_int_rmul_2 _ _) (int___rmul___int_list k t l its.toArray n)
   ⟨e,rfl,⟨_,e,rfl⟩,aoI F.slot_list_mul ⟨_,e,rfl⟩ F.entry_list_mul (F.args_list_mul_2 _ _) (AutoListH.list___mul___list_int_3 l its.toArray n k t i f G) ⟨e,?_⟩⟩)
 rw[g];exact⟨.ref _,_,J.D' (t':=s.toks) (r.rep k.toNat) (by rw[len_rep,Nat.mul_comm];exact hz),rfl,q _ J.fresh⟩
end
end aC
namespace Gi
open PySem PySem.W PySem.Calls PyProof.Rows
def Yz:∀(ns:List Int)(vs:List Value),WellAll P h vs (ns.map WData.int)->amM vs ns:=by
 intro ns
 induction ns with
 |nil=>
  intro vs w;rw[List.map_nil]at w;cases w;exact .nil
 |cons n ns c=>
  intro vs w;rw[akO]at w
  cases w with
  |cons a b=>
   cases a;exact .cons _ _ (c _ b)
def aeE{l:OpenLaw}{n:Nat}(aA:l.most=some n){P:Params}{h:Heap}{args:List WData}{b:List Value}
  (j:l.row.toRowW.claim.pre args=true) (k:WellAll P h b args) :
  ∃a vs ns,b=[alv a]/\args=[WData.list (ns.map WData.int)]/\h.get? a=some { cls:=.type "list",data:=.seq vs.toArray }/\amM vs ns/\ns.length<=n:=by
 have w:WShape.hasAll [] args [.list .int]=true:=(pre_splitW j).1;have i:l.pre.holds [] { args:=args }=true:=(pre_splitW j).2;obtain⟨d,r,rfl,p,s⟩:=hasAllW_cons w;obtain rfl:=hasAllW_nil s;obtain⟨xs,rfl,t⟩:=hasW_list p;obtain⟨ns,rfl⟩:=items_int t;have e:ns.length<=n:=by
  unfold OpenLaw.pre at i;have f:(WTm.not (.lt (.lit (.int (n:Int))) (.len (.arg 0)))).holds [] { args:=[.list (ns.map .int)] }=true:=by
   have f:=(holds_andW i).1;rw[aA]at f;exact f
  have g:=condW_of f (w_not (w_lt w_lit (w_len_list (w_arg rfl))));rw[akz]at g;refine Nat.le_of_not_lt λq=>?_
  have u:(n:Int)<((ns.length:Nat):Int):=by omega
  first
   |(rw[decide_eq_true u]at g;exact absurd g (by decide))
   |(simp at g;omega)
 cases k with
 |cons x y=>
  cases y
  cases x with
  |list m c=>exact⟨_,_,ns,rfl,rfl,m,Yz ns _ c,e⟩
def adL(l:OpenLaw)(args:List WData):l.row.toRowW.claim.post args (.bool true) args=true:=
 postW_of (r:=l.row.toRowW) (X:=(true==true))
  (show WShape.has [] (.bool true) .bool=true by first|rfl|decide|simp[WShape.has,WShape.arms,WShape.armsAll])
  (show(WTm.eq .res (.lit (.bool true))).value [] { args:=args,res:=some (.bool true),after:=args }=some (.bool (true==true))from w_eq_bool (w_res rfl) w_lit) rfl
def Rn{l:OpenLaw}{n:Nat}{q:akZ}{c:List Str}{t:(Str->Option Value)->Heap->Prop}{p:World->Heap->Prop}{d:DefRec}
  (aA:l.most=some n) (x:d.params.defaults=[])
  (call:∀(w:World)(gQ b:akC)(mg j:bl)(fa:Addr)(o:Obj)(k cd e:Value)(a:Addr)(vs:List Value)(ns:List Int),
   Ground q c [] t w gQ mg j b.heap->p w b.heap->
   b.heap.get? fa=some o->o.data=.func (docDef d.name d.params d.body d.scope k cd e)->b.heap.CodeRec cd d.name->mg d.name=some (.ref fa)->
   b.heap.get? a=some { cls:=.type "list",data:=.seq vs.toArray }->amM vs ns->ns.length<=n->b.gens=#[]->
   ani (model l.prog w) aoN (.call (.ref fa) ⟨[.ref a],[]⟩) (λr i=>r=.ok (.ret (.bool true))/\OldK b.heap i.heap/\i.os=b.os/\anQ i.gens) b) :
  WalkO q c t p l.row.toRowW d [] (λf vs=>PySem.call f vs):=by
 intro w gQ b mg j G Y fa o k cd e N du z hd L m O B args s as P E H u F;obtain rfl:N=.none:=Dflts.none m x;obtain rfl:du=.none:=Dflts.noKw m;obtain⟨a,vs,ns,rfl,rfl,y,g,h⟩:=aeE aA P u;refine enter_call (anb (call w gQ b mg j fa o k cd e a vs ns G Y z (fd_plain hd) L O y g h B) λr i A=>?_);obtain⟨rfl,D,I,K⟩:=A;exact⟨.inl ⟨.bool true,.bool true,[],rfl,λ_=>rfl,.bool true,adL l _,λ_=>⟨List.Pairwise.nil,λ_ M=>(nomatch M)⟩⟩,D,I,K⟩
end Gi
namespace aC
open PySem PySem.Spec PyProof.Rows
theorem PU:∀{vs:List Value}{ns:List Int},amM vs ns->Vals (ns.map V.int) vs
 |_,_,.nil=>.nil|_,_,.cons n t h=>.cons ⟨t,rfl⟩ (PU h)
abbrev iE{K:aM}{h:Heap}(_:K.In h):aM:=K
def inClass(s:Stmt)(j:Nat):Stmt:=match s with
 |.ClassDef _ _ _ body _ _ _ _ _ _ _=>body.getD j (.Pass ⟨0,0,0,0⟩)|_=>.Pass ⟨0,0,0,0⟩
def iM(s:Stmt):ant:=match s with
 |.FunctionDef _ a _ _ _ _ _ _ _ _=>a|_=>{ posonlyargs:=[],args:=[],vararg:=none,kwonlyargs:=[],kw_defaults:=[],kwarg:=none,defaults:=[] }
def fF(s:Stmt):List Stmt:=match s with
 |.FunctionDef _ _ b _ _ _ _ _ _ _=>b|_=>[]
def dg(s:Stmt):Scope:=match s with
 |.FunctionDef _ _ _ _ _ _ a _ _ _=>a|_=>{ kind:=.function,names:=[],isGenerator:=false,isCoroutine:=false }
abbrev eA:mL:=λ_ _ _ _ _ _=>False
abbrev i0:gy:=λ_ _ _=>False
def rQ:Passes eA X i0:=λ_ _ _ _ _ _ _ h=>h.elim
structure k3(K:aM)(x qual:Str)(st:Stmt)(f:Addr)(fd:alI):Prop where
 ex:∃(cw:Value)(dc:Option Addr)(du doc pm:Value)(an:Option Addr)(bN cy:Value)(f':Array (Option Value)),
  fd=amv x qual (iM st) (fF st) (dg st) .none du doc pm an bN cy/\K.lookup f=some ⟨cw,dc,.func fd,f'⟩/\aod K bN qual=true
 kp:amx K (.ref f)=true
section
variable{P:akZ}{w:World}{K:aM}{mg:bl}{base:Heap}
def k3.ok{x qual:Str}{st:Stmt}{f:Addr}{b:alI}{N ps:List Str}{k:Nat}{sp:ei}(F:k3 K x qual st f b)(S:gT N ps (dg st))(len:∀vs H Q E,sp vs H Q E->vs.length=ps.length)
  (i:∀(a:Value)(A:ak4)(outer:List Env)(s:akC)(H:aw)(vs:List V)(Q:cU)(E:gy),cE k (A.deeper (anc qual (dg st) s.heap.objs.size f a))->sp vs H Q E->
   ∃t,ic (gX eA P w K mg base N qual (dg st) f a A outer s H E).gB (fF st) t/\t { bu:=λ_ H'=>Q .aI H',cx:=Q } (start N vs) H):e3 P w K mg base eA (k+1) f b ps sp:=by
 obtain⟨cw,l,du,c,n,j,a,cy,m,rfl,g,d⟩:=F.ex;refine CP g d S len λA outer s H vs Q E aD e=>?_
 obtain⟨t,h,q⟩:=i a A outer s H vs Q E aD e;exact⟨t,h.gB,q⟩
def k3.binds{x qual:Str}{st:Stmt}{f:Addr}{e:alI}{ps:List Str}(F:k3 K x qual st f e)
  (h:∀(du a d:Value)(b:Option Addr)(c cy:Value)(us:List Value),us.length=ps.length->amN (amv x qual (iM st) (fF st) (dg st) .none du a d b c cy) ⟨us,[]⟩=pure (ps.zip us)):Binds K e ps []:=by
 obtain⟨cw,g,du,a,d,b,c,cy,i,rfl,k,j⟩:=F.ex;exact .all (h du a d b c cy)
def yF{x qual:Str}{st:Stmt}{f:Addr}{cw:Value}{g d:Option Addr}{h:Array (Option Value)}{du a e b cy:Value}(l:K.lookup f=some ⟨cw,g,.func (amv x qual (iM st) (fF st) (dg st) .none du a e d b cy),h⟩)
  (c:aod K b qual=true) (k:amx K (.ref f)=true):k3 K x qual st f (amv x qual (iM st) (fF st) (dg st) .none du a e d b cy):=⟨⟨cw,g,du,a,e,d,b,cy,h,rfl,l,c⟩,k⟩
end
def fU(h:n<=1000):n<akA:=Nat.lt_of_le_of_lt h (by decide)
def nr{A B:Prop}(h:B):if false=true then A else B:=by
 rw[if_neg akD];exact h
def nt{A B:Prop}(h:A):if true=true then A else B:=by
 rw[if_pos rfl];exact h
end aC
set_option maxHeartbeats 4000000
namespace aC
open PySem PySem.Spec PyProof.Rows
section
variable{κ:Type}[DecidableEq κ]
def FZ(a:List (κ×V))(k:κ):Option V:=(a.find? λkv=>decide (kv.1=k)).map (·.2)
end
def Be(i:Expr):Prop:=∀bR a,ao6 i false bR a=operate [bR,a] (anR bR a)
def ae7{prog:akZ}{w:World}{A:ak4}{E:dk}{s:akC}{env:Env}{value a:Expr}{pos:Pos}{T id:String}{Q:dk}
  (hl:typeLookup (.type T) "__getitem__"=pure (some (.builtin id))) (ay:Be a)
  (h:wpAny (model prog w) A (eval value env) (λo d=>wpAny (model prog w) A (eval a env) (λi b=>b.TypeIs o T/\wpAny (model prog w) A (anR o i) Q E b) E d) E s) :
  wpAny (model prog w) A (eval (.Subscript value a pos) env) Q E s:=by
 refine Subscript_ (alu h (λo d g=>alu g (λi b c=>?_) λ_ _ x=>x) λ_ _ x=>x);obtain⟨e,c⟩:=c;unfold subscriptTail;refine akv ?_;rw[getitemInPython_of_ne e.not_modules];refine akv (wpAny_specialOf e hl ?_);have fin:wpAny (model prog w) A (ao6 a false o i) (λr f=>wpAny (model prog w) A (letTemporaryGo value o r >>= λ_=>pure r) Q E f) E b:=by
  rw[ay o i];exact wpAny_operating (alu c (λr f j=>akv (wpAny_letTemporaryGo (akG j))) λ_ _ x=>x)
 first
  |exact akG (akv fin)
  |exact akv (akG (akv fin))
  |exact akv fin
structure gf(X:aV)(o:Expr)(m:Str)(apos:Pos)(e:Expr)(dJ:Pos):Prop where
 base:amg o m X.env (eval o X.env)=eval o X.env
 Ug:((ak3 dJ (akx [e] X.env)).all (λx=>!x.1)&&(amh dJ (alK [] X.env)).all (λx=>x.1.isSome)
&&decide (([e]:List Expr).length+([]:List anz).length+(if([]:List anz).isEmpty then 0 else 1)<30))=true
 line:(apos.endLine==dJ.line)=true
 trees:ak3 dJ (akx [e] X.env)=[(false,eval e X.env)]
class a4 where
 h9:Addr->Prop
 t5:Addr->Str
def oD:gJ->Prop
 |.gc _=>False|_=>True
def qS(c:Addr)(q:Str):Heap->Prop:=λh=>h.CodeRec (.ref c) q
def QV[a4](H:aw)(P:Addr):Prop:=∃ps:Array Value,H P=some (.gc ps)/\ao1 ps.toList/\∀pos a,anS pos ps.toList=some a->∃c,a=.ref c/\H c=some (.ext (qS c (a4.t5 P)))
def TabsOk[a4](H:aw):Prop:=∀P,a4.h9 P->QV H P
structure eC[a4](H H':aw):Prop where
 at':∀b o,H b=some o->(h:oD o:=by exact trivial)->H' b=some o
 cC:∀b ps,H b=some (.gc ps)->∃lu,H' b=some (.gc lu)
 b3:TabsOk H->TabsOk H'
variable[a4]
def aak(o:gJ):oD o\/∃ps,o=.gc ps:=by cases o<;>first|exact .inl trivial|exact .inr ⟨_,rfl⟩
def eC.refl(H:aw):eC H H:=⟨λ_ _ h _=>h,λ_ ps h=>⟨ps,h⟩,id⟩
def eC.trans(a:eC H H1)(b:eC H1 C):eC H C:=
 ⟨λc o h n=>b.at' c o (a.at' c o h n) n,λc ps h=>let⟨p1,au⟩:=a.cC c ps h;b.cC c p1 au,λg=>b.b3 (a.b3 g)⟩
def eC.some{H H':aw}(s:eC H H')(h:H b≠none):H' b≠none:=by
 cases e:H b with
 |none=>exact absurd e h|some o=>
  rcases aak o with n|⟨ps,rfl⟩
  .rw[s.at' b o e n];intro z;cases z
  .obtain⟨p,q⟩:=s.cC b ps e;rw[q];intro z;cases z
def eC.free{H H':aw}(e:eC H H')(h:H' l=Option.none):H l=Option.none:=by
 cases q:H l with
 |none=>rfl| some o=>exact absurd h (e.some (by rw[q];intro z;cases z))
def eC.seq{K:aM}{H H':aw}{a:Addr}{xs:List V}(e:eC H H')(h:dt K H a xs):dt K H' a xs:=by
 rcases h with(h|⟨o,h⟩)|h
 .exact .inl (.inl (e.at' _ _ h))
 .exact .inl (.inr ⟨o,e.at' _ _ h⟩)
 .exact .inr h
def TabsOk.put{H:aw}(g:TabsOk H)(o:gJ)(a:∀ps,H p≠some (.gc ps))(b:∀q,H p≠some (.ext (qS p q))):TabsOk (upd H p o):=λP d=>by
 obtain⟨ps,e,t,c⟩:=g P d;refine⟨ps,by rw[c5 (by rintro rfl;exact a _ e)];exact e,t,λpos h f=>?_⟩;obtain⟨c',au,aF⟩:=c pos h f;exact⟨c',au,by rw[c5 (by rintro rfl;exact b _ aF)];exact aF⟩
def TabsOk.new{H:aw}(g:TabsOk H)(h:H p=none)(o:gJ):TabsOk (upd H p o):=g.put o (λps=>by rw[h];intro z;cases z) (λa=>by rw[h];intro z;cases z)
def TabsOk.l{H:aw}{p:Addr}{a:List V}(g:TabsOk H)(h:H p=some (.l a))(o:gJ):TabsOk (upd H p o):=g.put o (λps=>by rw[h];intro z;cases z) (λb=>by rw[h];intro z;cases z)
def ub{H:aw}(h:H p=none)(o:gJ):eC H (upd H p o):=
 ⟨λb u q _=>by rw[c5 (kM q h)];exact q,λb ps q=>⟨ps,by rw[c5 (kM q h)];exact q⟩,λg=>g.new h o⟩
def uu{a H:aw}{D:Addr}(c:a D=none)(s:eC a H)(hl:H D=some (.l zs))(o:gJ):eC a (upd H D o):=
 ⟨λb u q n=>by rw[c5 (kM q c)];exact s.at' b u q n,λb ps q=>by rw[c5 (kM q c)];exact s.cC b ps q,λg=>(s.b3 g).l hl o⟩
end aC
namespace aC
open PySem
def n1(env:Env):List (Str×am3)->List (Str×Addr)->List (Str×Addr)
 |[],acc=>acc|(n,k)::r,acc=>if(k==ang)=true then n1 env r ((n,(env.cells.lookup n).getD 0)::acc)else n1 env r acc
abbrev m7(scope:Scope)(env:Env):List (Str×Addr):=n1 env scope.names []
def I'{scope:Scope}{env:Env}(h:∀y∈scope.names,y.2=.free->∃c,env.cells.lookup y.1=some c):am0 scope env=pure (m7 scope env):=by
 unfold am0 m7;generalize scope.names=ns at h;generalize([]:List (Str×Addr))=acc;show(forIn ns acc _ >>= _)=_
 induction ns generalizing acc with
 |nil=>rfl|cons y r f=>
  obtain⟨n,k⟩:=y;rw[ao2];have b:=λacc=>f (λy e=>h y (akL _ e)) acc
  by_cases a:(k==ang)=true
  .have g:k=.free:=by simpa using a
   obtain⟨c,d⟩:=h (n,k) akS g;have au:cellOf env n=pure c:=by unfold cellOf;rw[d]
   simp only[a,if_true,au,pure_bind,n1,d,Option.getD_some];exact b _
  .simp only[a,n1]
   exact b _
theorem Cc{env:Env}:∀{ns:List (Str×am3)}{acc:List (Str×Addr)}{p:Str×Addr},p∈n1 env ns acc->p∈acc\/∃k,(p.1,k)∈ns/\k=ang/\p.2=(env.cells.lookup p.1).getD 0
 |[],_,_,h=>.inl h|(n,k)::r,acc,p,h=>by
  unfold n1 at h;split at h
  .rename_i c
   rcases Cc h with h|⟨o,a,b⟩
   .rcases akP.mp h with rfl|h
    .exact .inr ⟨k,akS,by simpa using c,rfl⟩
    .exact .inl h
   .exact .inr ⟨o,akL _ a,b⟩
  .rcases Cc h with h|⟨o,a,b⟩
   .exact .inl h
   .exact .inr ⟨o,akL _ a,b⟩
theorem Cb:∀{ns:List (Str×am3)}{acc:List (Str×Addr)}{y:Str},((y,ang)∈ns\/∃c,(y,c)∈acc)->∃c,(y,c)∈n1 env ns acc
 |[],_,_,h=>by
  rcases h with h|h
  .cases h
  .exact h
 |(n,k)::r,acc,y,h=>by
  unfold n1;split
  .refine Cb ?_
   rcases h with h|⟨c,h⟩
   .rcases akP.mp h with e|h
    .cases e;exact .inr ⟨_,akS⟩
    .exact .inl h
   .exact .inr ⟨c,akL _ h⟩
  .rename_i a
   refine Cb ?_;rcases h with h|h
   .rcases akP.mp h with e|h
    .cases e;exact absurd rfl a
    .exact .inl h
   .exact .inr h
theorem Nx{α:Type}{y:Str}{c:α}:∀{l:List (Str×α)},(y,c)∈l->∃c',l.lookup y=some c'
 |(n,k)::r,h=>by
  by_cases e:(y==n)=true
  .exact⟨k,by rw[akQ,e]⟩
  .have a:(y==n)=false:=by simpa using e
   rcases akP.mp h with z|z
   .cases z;simp at e
   .obtain⟨c',q⟩:=Nx z
    exact⟨c',by rw[akQ,a];exact q⟩
def Ti{scope:Scope}{env:Env}(h:∀y∈scope.names,y.2=.free->∃c,env.cells.lookup y.1=some c)(e:(m7 scope env).lookup y=some c):env.cells.lookup y=some c:=by
 rcases Cc (al0 e)with z|⟨k,a,b,d⟩
 .cases z
 .obtain⟨c',q⟩:=h _ a b
  have d':c=(env.cells.lookup y).getD 0:=d;have f:env.cells.lookup y=some c':=q;rw[f]at d' ⊢;exact congrArg some d'.symm
def I9{scope:Scope}(h:scope.names.lookup y=some .free):∃c,(m7 scope env).lookup y=some c:=by
 obtain⟨c,q⟩:=Cb (env:=env) (acc:=[]) (.inl (al0 h));exact Nx q
theorem NH{g:Str×am3->Str×am3}{y:Str}(c:∀p,(g p).1=p.1)(d:∀p,p.2≠.cell->(g p).2=.cell\/(g p).2=.free->p.2=.free) :
  ∀{ns:List (Str×am3)},(∀z∈ns,z.2≠aoy)->((ns.map g).lookup y=some .cell\/(ns.map g).lookup y=some .free)->ns.lookup y=some .free
 | [],_,h=>by simp at h|p::r,hc,h=>by
  rw[akO]at h;have f:=NH (g:=g) (y:=y) c d (ns:=r) λz hz=>hc z (akL _ hz)
  have b:=hc p akS;have br:=c p;have bS:=d p b;generalize g p=q at h br bS;obtain⟨iV,a⟩:=q;obtain⟨n,k⟩:=p;have br:iV=n:=br;subst br;have bS:a=.cell\/a=.free->k=.free:=bS;rw[akQ]at h ⊢
  cases e:(y==iV)with
  |true=>
   rw[e]at h;have h':some a=some aoy\/some a=some ang:=h;exact congrArg some (bS (h'.imp ak1 ak1))
  |false=>
   rw[e]at h;exact f h
def aei{scope:Scope}(c:∀z∈scope.names,z.2≠aoy)(h:(relabel scope env).names.lookup y=some .cell\/(relabel scope env).names.lookup y=some .free):scope.names.lookup y=some .free:=by
 refine NH (λp=>?_) (λp a q=>?_) c h
 .obtain⟨n,k⟩:=p
  dsimp only;split<;>rfl
 .obtain⟨n,k⟩:=p
  dsimp only at q a ⊢;split at q
  .rename_i b
   have:=(ak0 _ _▸(ak0 _ _▸b).1).1;simpa using this
  .exact q.elim (λz=>absurd z a) id
end aC
namespace aC
open PySem PySem.Spec PyProof.Rows
def cL(X:aV)(scope:Scope)(N:List Str)(C:Addr)(a:List Addr)(s:akC)(H:aw):aV where
 prog:=X.prog
 w:=X.w
 K:=X.K
 mg:=X.mg
 base:=X.base
 A:=X.A
 N:=N
 gQ:=s
 H₀:=H
 env:=compEnvC scope (m7 scope X.env) C X.env
 outer:=X.stack
 stack:=X.stack
 ex:=a
 fn:=λ_=>false
 calm:=X.calm
 nG:=[]
 dN:=λ_ _=>False
structure k1(esc scope:Scope)(EN N:List Str)(n:Nat)(cap:List Nat):Prop where
 kind:scope.kind=.function
 cell:∀y∈scope.names,y.2≠.cell
 loc:∀y∈scope.names,y.2=.local->scope.names.lookup y.1=some .local
 free:∀y∈scope.names,y.2=.free->esc.names.lookup y.1=some .cell\/esc.names.lookup y.1=some .free
 fB:N.Nodup
 len:N.length=n+cap.length
 Ta:∀j<cap.length,N[n+j]? = EN[cap.getD j 0]?/\∀x,N[n+j]? = some x->scope.names.lookup x=some .free
def f5(n:Nat)(cap:List Nat)(U:St):St:=akI n none++cap.map λk=>(U[k]?).join
def Tr{cap:List Nat}:(f5 n cap U).length=n+cap.length:=by
 unfold f5;rw[akB,alr,akz]
def Tq{cap:List Nat}{U:St}{v:V}(h:(f5 n cap U)[i]? = some (some v)):∃j,i=n+j/\j<cap.length/\U[cap.getD j 0]? = some (some v):=by
 unfold f5 at h
 by_cases hi:i<n
 .rw[akV (by simpa using hi),al8,if_pos hi]at h
  cases h
 .rw[akX (by simpa using hi),alr,akN]at h
  cases e:cap[i-n]? with
  |none=>rw[e]at h;cases h
  |some k=>
   rw[e]at h;have hl:i-n<cap.length:=(akw.mp e).1;refine⟨i-n,by omega,hl,?_⟩;have h':(U[k]?).join=some v:=ak1 h;rw[alJ,e,Option.getD_some]
   cases q:U[k]? with
   |none=>rw[q]at h';cases h'
   |some z=>rw[q]at h';exact congrArg some h'
section
variable{X:aV}{scope esc:Scope}{EN N:List Str}{n:Nat}{cap:List Nat}{zn:c3}{U:St}{H:aw}{s:akC}{aS:List Addr}
def YC{h':Heap}{tk:Nat}{m:bl}(S:k1 esc scope EN N n cap)(he:X.env.scope=esc)(hN:X.N=EN)(J:Inv X zn U H s)(g:∀b∈aS,gU X zn H b)(I:∀b∈aS,∃o,s.heap.get? b=some o)
  (V:h'.Ns s.heap.objs.size m) (k:∀b o,s.heap.get? b=some o->h'.get? b=some o) :
  Inv (cL X scope N s.heap.objs.size aS s H) [] (f5 n cap U) H { s with heap:=h',toks:=tk }:=by
 have W:∀y∈scope.names,y.2=.free->∃c,X.env.cells.lookup y.1=some c:=λy A Q=>by
  refine J.ok.has y.1 ?_;show X.env.scope.names.lookup y.1=_\/X.env.scope.names.lookup y.1=_;rw[he];exact S.free y A Q
 have up:∀{y:Str}{c:Addr},(m7 scope X.env).lookup y=some c->X.env.cells.lookup y=some c:=λ{y c} e=>Ti W e
 have G:∀y,(cL X scope N s.heap.objs.size aS s H).env.kindOf y=some .cell\/(cL X scope N s.heap.objs.size aS s H).env.kindOf y=some .free->scope.names.lookup y=some .free:=λy h=>aei S.cell h
 have a:∀c v,s.heap.IsCell c v->h'.IsCell c v:=λc v ⟨o,e,d⟩=>⟨o,k c o e,d⟩
 refine⟨⟨J.ok.mod,S.kind,J.ok.glob,J.ok.blt,akE _,λx y c M O=>J.ok.inj x y c (up M) (up O),λy A=>I9 (G y A),λ_ _ z=>absurd z akD,J.ok.hd,J.ok.frames,.inl rfl,λb f=>⟨?_,λx c e=>(g b f).2.2.2.2.1 x c (up e)⟩,J.bs,ald J.ok.lU J.oR,λb o e f=>?_,λb f hz=>?_,J.stack,J.Pw⟩,
  rfl,J.bare,gL.kept k,⟨m,V,λi x v au aF cO=>?_⟩,λx c e=>?_,J.cb.fresh (akE _),λx c e=>J.lZ x c (up e),λp K=>absurd (show p∈([]:c3)from K) (by simp),J.cb.kept k,?_⟩
 .obtain⟨o,e⟩:=I b f
  exact alc (akM e)
 .rcases(g b f).2.2.2.1 with z|z
  .exact J.ok.wD b o e z
  .exact absurd (ala (akM e) (ald J.ok.lU z)) (als _)
 .rcases akP.mp (J.FG b hz)with z|z
  .exact(g b f).2.1 z
  .exact(g b f).2.2.1 z
 .obtain⟨j,rfl,L,eJ⟩:=Tq aF
  obtain⟨bf,ae⟩:=S.Ta j L;have au:N[n+j]? = some x:=au;have t:=ae x au;rw[au,<-hN]at bf;obtain⟨c,E⟩:=I9 (env:=X.env) t;obtain⟨Y,P,hl⟩:=J.loc;have F:X.env.scope.names.lookup x=some .cell\/X.env.scope.names.lookup x=some .free:=by
   rw[he];exact S.free (x,.free) (al0 t) rfl
  obtain⟨u,r,l⟩:=hl _ x v bf.symm eJ (F.elim (λz=>.inr (.inl z)) λz=>.inr (.inr z));refine⟨u,r,.inr ⟨?_,c,E,?_⟩⟩
  .rcases cO with z|z|z
   .exfalso
    have R:(relabel scope X.env).names.lookup x=some .local:=z;have hz:∀ns:List (Str×am3),ns.lookup x=some .free->(ns.map λ(n,k)=>if(k==ang&&X.env.scope.kind==.function&&X.env.kindOf n==some .cell)then(n,aoy)else(n,k)).lookup x≠some .local:=by
     intro ns
     induction ns with
     |nil=>intro h;simp at h|cons p r B=>
      obtain⟨nG,T⟩:=p;intro h;rw[akO];rw[akQ]at h
      cases q:(x==nG)with
      |true=>
       rw[q]at h;have h':T=.free:=ak1 h;subst h';dsimp only;split
       .rw[akQ,q];intro w;cases w
       .rw[akQ,q];intro w;cases w
      |false=>
       rw[q]at h;dsimp only;split
       .rw[akQ,q];exact B h
       .rw[akQ,q];exact B h
    exact hz _ t R
   .exact .inl z
   .exact .inr z
  .rcases l with⟨q,_⟩|⟨_,c',i8,z⟩
   .exfalso
    have D:X.env.scope.names.lookup x=some .local:=q;rcases F with w|w<;>rw[w]at D<;>cases D
   .rw[up E]at i8
    cases i8;exact a c _ z
 .obtain⟨v,z⟩:=J.cell x c (up e)
  exact⟨v,a c v z⟩
 .show(f5 n cap U).length=N.length
  rw[Tr,S.len]
def YA{N:List Str}(J:Inv X zn U H s)(d:∀b∈aS,gU X zn H b)(c:Inv (cL X scope N C aS s H) akb U' H' o):Inv X zn U H' o:=
 J.SY c.os c.base c.cb c.bare λb a=>⟨(d b a).2.2.2.1,(d b a).2.1,(d b a).2.2.2.2.1,(d b a).2.2.2.2.2⟩
end
section
variable{X:aV}
def se(X:aV)(a:List Expr)(t:TT):Prop:=
 ∀(zn:c3)(s:akC)(U:St)(H:aw)(Q:Bool->aw->Prop),Inv X zn U H s->t U H Q->
  wpAny (model X.prog X.w) X.A (forIn a true λc r=>if r=true then do let ok <-isTrue c X.env (eval c X.env);pure (an1 ok)else pure (an1 r)) (Bj X zn U Q) X.dN s
def FO:TT:=λ_ H Q=>Q true H
def Oz:se X [] FO:=λ_ _ _ H _ J h=>wpAny_tests_nil ⟨H,J,h⟩
def adv(h:ie X c t):se X [c] t:=λzn s U H Q J a=>wpAny_tests_one (h zn s U H Q J a)
end
section
variable{prog:akZ}{w:World}{A:ak4}{R:Result->akC->Prop}{s:akC}
def Tj{d a b:Expr}{e:List Expr}{scope:Scope}{pos:Pos}{it acc:Value}{env:Env}(J:Nat->akC->Prop)
  (turn:∀n s,J n s->wpAny (model prog w) A (anr it) (λr f=>match r with
   |none=>R (.ok .next) f| some v=>wpAny (model prog w) A (anZ a it v) (λ_ k=>wpAny (model prog w) A (amY a env v) (λ_ p=>
     wpAny (model prog w) A (forIn e true λc r=>if r=true then do let ok <-isTrue c env (eval c env);pure (an1 ok)else pure (an1 r)) (λok g=>
      if ok=true then wpAny (model prog w) A (eval d env) (λx i=>
       wpAny (model prog w) A (call (.builtin "list.append") [acc,x]) (λ_ j=>∃m,m<n/\J m j) (λ_ _=>False) i) (λ_ _=>False) g
      else ∃m,m<n/\J m g) (λ_ _=>False) p) (λ_ _=>False) k) (λ_ _=>False) f) (λ_ _=>False) s)
  (n:Nat) (h:J n s) :
  ani (model prog w) A (.compLoop (.ListComp d [⟨a,b,e,0⟩] scope pos) 0 it acc env) R s:=by
 refine codeAny_loop rfl J (λn s y=>?_) n h;show wpAny _ A ((compTurn (.ListComp d [⟨a,b,e,0⟩] scope pos) 0 it acc env).onRaise (λx=>do noteFrame x env;theTreesLotGoes x)) _ _ s;refine wpAny_noted ?_;rw[compTurn_list];refine akv (anI (akv (alu (turn n s y) (λr f l=>?_) λ_ _ h'=>h'.elim)))
 cases r with
 |none=>exact akG l|some v=>
  refine akv (alu l (λ_ k t=>?_) λ_ _ h'=>h'.elim);refine akv (alu t (λ_ p z=>akv (alu z (λok g q=>?_) λ_ _ h'=>h'.elim)) λ_ _ h'=>h'.elim)
  cases ok with
  |false=>exact akG ⟨rfl,q⟩|true=>
   exact akv (akv (alu q (λx i B=>akv (alu B (λ_ j u=>akG (akG ⟨rfl,u⟩)) λ_ _ h'=>h'.elim)) λ_ _ h'=>h'.elim))
end
def mO(U a:St):Prop:=U.length=a.length/\∀(i:Nat) v,U[i]? = some (some v)->a[i]? = some (some v)
def mO.refl(U:St):mO U U:=⟨rfl,λ_ _ h=>h⟩
def mO.set{U b:St}(h:mO U b)(aA:U[i]? = some none):mO U (b.set i (some x)):=by
 refine⟨by rw[ak8];exact h.1,λj v e=>?_⟩
 by_cases a:i=j
 .subst a;rw[aA]at e;cases e
 .rw[akF a];exact h.2 j v e
def Cg(d:ib)(U':St)(g:iI)(tt:TT)(te:TE)(D:Addr)(h:aw)(Q:cU):Prop:=
  ∃W:Nat->Nat->List V->aw->Prop,(∃m,W 0 m [] (upd h D (.l [])))/\∀i m ys H,W i m ys H->
   ((d.stop i H/\Q (.ref D) H)\/(d.go i H/\∀x H',d.pb i H x H'->g x U' H' λc j=>mO U' c/\tt c j λb e=>
       if b=true then te c e λy f=>f D=some (.l ys)/\ys.length<akA/\∃a,a<m/\W (i+1) a (ys++[y]) (upd f D (.l (ys++[y])))else ∃a,a<m/\W (i+1) a ys e))
def uh(n:Nat)(cap:List Nat)(wi:TI)(g:iI)(tt:TT)(te:TE):TE:=λU H Q=>wi U H λb a=>∀D,a D=none->Cg b (f5 n cap U) g tt te D a Q
section
variable{X:aV}{scope esc:Scope}{EN N:List Str}{n:Nat}{cap:List Nat}{zn:c3}{U:St}{s:akC}{elt cg iter:Expr}{ifs:List Expr}{pos:Pos}{g:iI}{tt:TT}{te:TE}
def Jg{E:dk}{H:aw}{cq:ib}{a:List Addr}{it:Addr}{ew:Nat->Heap->Prop}{Q:cU}{xT:Value->Addr->Result->akC->Prop}(S:k1 esc scope EN N n cap)(he:X.env.scope=esc)(hN:X.N=EN)(hc:X.calm=true)
  (aR:∀C a s H,nS (cL X scope N C a s H) cg g) (bF:∀C a s H,se (cL X scope N C a s H) ifs tt) (hU:∀C a s H,bZ (cL X scope N C a s H) elt te)
  (J:Inv X zn U H s) (T:Turn X.prog X.w X.K cg cq a it ew) (st:ew 0 s.heap) (hf:∀b∈a,gU X zn H b) (a6:∀D,H D=none->Cg cq (f5 n cap U) g tt te D H Q)
  (Vm:∀D C H' f m,Inv X zn U H' f->gU X zn H' C->f.heap.Ns C m->Q (.ref D) H'->xT (.ref D) C (.ok .next) f) :
  wpAny (model X.prog X.w) X.A (newList []) (λacc j=>wpAny (model X.prog X.w) X.A (newFunctionEnv scope X.env.globals (m7 scope X.env) [] X.env.qual none .none (some X.env)) (λI7 Av=>
   ani (model X.prog X.w) X.A (.compStart (.ListComp elt [⟨cg,iter,ifs,0⟩] scope pos) 0 (.ref it) acc { I7 with scope:=relabel scope X.env }) (xT acc I7.locals) Av) E j) E s:=by
 refine amt (wpAny_newFunctionEnv S.cell (by intro y a3;simp at a3) (λG M O=>?_) S.kind);have B:=J.D' (t':=s.toks) (ys:=[]) (its:=[]) .nil (alh _);have gZ:H s.heap.objs.size=none:=J.fresh;obtain⟨W,⟨m0,xh⟩,turn⟩:=a6 _ gZ;generalize pU:({ s with heap:=s.heap.push { cls:=.type "list",data:=.seq ([]:List Value).toArray },toks:=s.toks }:akC)=s3 at B;have vN:∀b o,s.heap.get? b=some o->s3.heap.get? b=some o:=λb o e=>by rw[<-pU];exact aky _ e
 have ajP:({ s with heap:=s.heap.push { cls:=.type "list",data:=.seq ([]:List Value).toArray } }:akC)=s3:=pU;have cX:s.heap.push { cls:=.type "list",data:=.seq ([]:List Value).toArray }=s3.heap:=by rw[<-pU]
 dsimp only at M O ⊢
 try rw[cX]at M
 try rw[cX]at O
 have L:∀b∈a,gU X zn (upd H s.heap.objs.size (.l [])) b:=λb c=>by
  refine⟨?_,(hf b c).2⟩;obtain⟨o,e,_⟩:=T.obj _ _ st b c;rw[c5 (alc (akM e))];exact(hf b c).1
 have s_:∀b o,s3.heap.get? b=some o->G.get? b=some o:=λb o e=>O.extBut b o (alc (akM e)) (aky _ e)
 have bb:∀b∈a,∃o,s3.heap.get? b=some o:=λb c=>by
  obtain⟨o,e,_⟩:=T.obj _ _ st b c;exact⟨o,vN b o e⟩
 have jZ:=YC (tk:=s3.toks) S he hN B L bb M s_;have ud:ew 0 G:=T.keep _ _ _ st λb _ o e=>s_ b o (vN b o e)
 have Vg:s3.heap.objs.size<=s3.heap.objs.size:=akE _;have h:∀j:akC,j.heap=G->Inv (cL X scope N s3.heap.objs.size a s3 (upd H s.heap.objs.size (.l []))) [] (f5 n cap U) (upd H s.heap.objs.size (.l [])) j->
   ani (model X.prog X.w) X.A (.compLoop (.ListComp elt [⟨cg,iter,ifs,0⟩] scope pos) 0 (.ref it) (.ref s.heap.objs.size) (compEnvC scope (m7 scope X.env) s3.heap.objs.size X.env)) (xT (.ref s.heap.objs.size) s3.heap.objs.size) j:=by
  intro j Ub I;have rW:∀{H':aw},(∀b∈a,H' b=none)->∀b∈a,gU (cL X scope N s3.heap.objs.size a s3 (upd H s.heap.objs.size (.l []))) [] H' b:=λ{H'} aA b c=>
   ⟨aA b c,(I.ok.yw b c).1,I.ok.ve b c,.inl c,(I.ok.yw b c).2,λp aN=>absurd (show p∈([]:c3)from aN) (by simp)⟩
  refine Tj (λk f=>∃i ys H',Inv (cL X scope N s3.heap.objs.size a s3 (upd H s.heap.objs.size (.l []))) [] (f5 n cap U) H' f/\ew i f.heap/\(∀b∈a,H' b=none)/\W i k ys H') ?_ m0
   ⟨0,[],_,I,by rw[Ub];exact ud,λb c=>(L b c).1,xh⟩
  rintro k s5 ⟨i,ys,F,r_,ue,yD,Y⟩;rcases turn i k ys F Y with⟨stop,q⟩|⟨go,step⟩
  .refine bX (T.done (cL X scope N s3.heap.objs.size a s3 (upd H s.heap.objs.size (.l []))) rfl rfl rfl hc i [] s5 _ F _ r_ (rW yD) ue stop) λr ua ⟨aD,uK⟩=>?_
   subst aD;obtain⟨m,aA,_⟩:=uK.loc;exact Vm _ _ F ua m (YA B L uK) (B.q_ Vg uK.free) aA q
  .refine bX (T.item (cL X scope N s3.heap.objs.size a s3 (upd H s.heap.objs.size (.l []))) rfl rfl rfl hc i [] s5 _ F (λ_ _=>False) r_ (rW yD) ue go) λr ua ⟨u,aD,gM⟩=>?_
   subst aD;refine bX gM λ_ gC ⟨x,jY,ks,Fg,A0,P,Uz⟩=>?_
   have QK:=ks.pinned (rW Uz) (T.obj _ _ P);refine bX (aR _ _ _ _ _ gC _ jY x u _ QK Fg (step x jY A0)) λ_ jl ⟨t,QD,QL,yy,R⟩=>?_
   refine bX (bF _ _ _ _ _ jl t QD _ QL R) λb Pf ⟨Gv,Gx,OR⟩=>?_
   have back:∀{H':aw}{f:akC},Inv (cL X scope N s3.heap.objs.size a s3 (upd H s.heap.objs.size (.l []))) ([]++rT a gC.heap) t H' f->
     Inv (cL X scope N s3.heap.objs.size a s3 (upd H s.heap.objs.size (.l []))) [] (f5 n cap U) H' f/\ew (i+1) f.heap/\∀b∈a,H' b=none:=λ{H' f} gv=>by
    refine⟨gv.xg.weak yy.1 yy.2,T.keep _ _ _ P λb c o e=>(gv.pin (b,o) (alq _ (alq _ (zS c e)))).1,λb c=>?_⟩;obtain⟨o,e,d⟩:=T.obj _ _ P b c;exact(gv.pin (b,o) (alq _ (alq _ (zS c e)))).2.1
   cases b with
   |false=>
    obtain⟨fH,hm,ey⟩:=OR;obtain⟨Z,ct,g6⟩:=back Gx;exact⟨fH,hm,i+1,ys,Gv,Z,ct,g6,ey⟩
   |true=>
    refine bX (hU _ _ _ _ _ Pf t Gv _ Gx OR) λv ly ⟨y,Gu,QH,V,Vi,hz,fH,hm,ey⟩=>?_
    refine bX (tI _ ly t Gu (.ref s.heap.objs.size) [y] (.ref s.heap.objs.size) [v] (λz H'=>z=.aI/\H'=upd Gu s.heap.objs.size (.l (ys++[y]))) QH rfl (.cons V .nil) ⟨_,ys,y,rfl,rfl,Vi,hz,rfl,rfl⟩) λz nI ⟨ahb,ahP,QI,_,_,sD⟩=>?_
    subst sD;obtain⟨Z,ct,g6⟩:=back QI;exact⟨fH,hm,i+1,ys++[y],_,Z,ct,g6,ey⟩
 have Gw:Inv (cL X scope N s3.heap.objs.size a s3 (upd H s.heap.objs.size (.l []))) [] (f5 n cap U) (upd H s.heap.objs.size (.l [])) { heap:=G,gens:=s3.gens,drawn:=s3.drawn,toks:=s3.toks+([]:List (Str×Value)).length,os:=s3.os }:=jZ;exact codeAny_compStart_list (h _ rfl Gw) (T.self _ 0 _ _ _ ud (h _ rfl Gw))
theorem E0(S:k1 esc scope EN N n cap){wi:TI}(hi:j1 X cg iter wi)(j:∀C a s H,nS (cL X scope N C a s H) cg g)(w:∀C a s H,se (cL X scope N C a s H) ifs tt)(B:∀C a s H,bZ (cL X scope N C a s H) elt te)
  (he:X.env.scope=esc:=by rfl) (hN:X.N=EN:=by rfl) (E:X.calm=true:=by rfl) (ay:∀x,alz iter X.env x=pure x:=by intro _;rfl):bZ X (.ListComp elt [⟨cg,iter,ifs,0⟩] scope pos) (uh n cap wi g tt te):=by
 intro zn s U H Q J h;rw[eval_ListComp];have d:am0 scope X.env=pure (m7 scope X.env):=I' λy f t=>J.ok.has y.1 (by
  show X.env.scope.names.lookup y.1=_\/X.env.scope.names.lookup y.1=_;rw[he];exact S.free y f t)
 refine wpAny_comprehension_free (use:=none) rfl ay d S.kind S.loc (bX (hi zn s U H _ J h) λv K p=>bX p λL s2 r=>?_);obtain⟨it,a,ew,I,G,e,u,T,bK,z,i⟩:=r;subst e;refine Jg S he hN E j w B u T bK z i λD C H' k m A c aA q=>?_
 exact⟨m,aA,λh' F=>⟨.ref D,H',A.turned (t':=k.toks) (λb o l e=>F.extBut b o l e) c.1 c.2.1 c.2.2.2.1 c.2.2.2.2.1 c.2.2.2.2.2,rfl,q⟩⟩
theorem adO{i:Nat}{y:Str}{py p:Pos}(S:k1 esc scope EN N n cap){wi:TI}(rg:X.N.Nodup)(Y:X.N[i]? = some y)(f:X.env.scope.names.lookup y=some .local)(hi:j1 X cg iter wi)(E:∀C d s H,nS (cL X scope N C d s H) cg g)(O:∀C d s H,se (cL X scope N C d s H) ifs tt)(V:∀C d s H,bZ (cL X scope N C d s H) elt te)
  (he:X.env.scope=esc:=by rfl) (hN:X.N=EN:=by rfl) (W:X.calm=true:=by rfl) (ay:∀x,alz iter X.env x=pure x:=by intro _;rfl)
  (Z:amj (.ListComp elt [⟨cg,iter,ifs,0⟩] scope pos) (some (.Name y py)) p.line X.env=pure true:=by rfl) :
  iH X (.Assign [.Name y py] (.ListComp elt [⟨cg,iter,ifs,0⟩] scope pos) p) (ug (uh n cap wi g tt te) (kC i)):=by
 intro zn s U H D J h;have r:am0 scope X.env=pure (m7 scope X.env):=I' λy f L=>J.ok.has y.1 (by
  show X.env.scope.names.lookup y.1=_\/X.env.scope.names.lookup y.1=_;rw[he];exact S.free y f L)
 rw[exec_Assign_Name_used _ _ _ _ Z];refine akv (anI (akv ?_));show wpAny _ X.A (do let _ <-comprehension (.ListComp elt [⟨cg,iter,ifs,0⟩] scope pos) scope X.env _ (newList []) false (eval iter X.env) (some (amY (.Name y py) X.env))) _ _ s;refine akv (alu (wpAny_comprehension_free (use:=some (amY (.Name y py) X.env)) (Q:=λ_ k=>sk X zn D .next k) rfl ay r S.kind S.loc
  (bX (hi zn s U H _ J h) λv s1 G=>bX G λzb s2 I=>?_)) (λ_ k j=>akG (akG j)) λ_ _ e=>e)
 obtain⟨it,d,ew,cq,aK,e,M,T,bK,P,j⟩:=I;subst e;refine Jg S he hN W E O V M T bK P j λl C H' k m R c aA q=>?_
 show wpAny _ X.A (amY (.Name y py) X.env (.ref l)) _ _ _;refine wpAny_assign_Name (Py (v:=.ref l) R rg Y (.inl f) rfl (λw2 t ch=>?_) (.inr f));obtain⟨a,B,K⟩:=ch;have u:C≠a:=by
  rcases K with z|z
  .rw[z];exact c.2.1
  .exact λw=>c.2.2.2.2.1 y a z w.symm
 refine⟨m,aA.sameBut B u,λh' vD=>?_⟩;exact⟨_,H',t.turned (t':=w2.toks) (λb o F e=>vD.extBut b o F e) c.1 c.2.1 c.2.2.2.1 c.2.2.2.2.1 c.2.2.2.2.2,q⟩
end
def dW(p:V->V->aw->cU->Prop):ei:=λvs H Q _=>∃a b,vs=[a,b]/\p a b H Q
structure eU(P:akZ)(w:World)(K:aM)(mg:bl)(base:Heap)(x:Str)(ps:List Str)(k:Nat)(sp:ei):Prop where
 ex:∃f fd,e3 P w K mg base eA k f fd ps sp/\Binds K fd ps []/\amx K (.ref f)=true/\mg x=some (.ref f)
structure gR(K:aM)(mg:bl)(x:Str)(st:Stmt)(ps:List Str):Prop where
 ex:∃f fd,k3 K x x st f fd/\Binds K fd ps []/\mg x=some (.ref f)
section
variable{P:akZ}{w:World}{K:aM}{mg:bl}{base:Heap}{x:Str}{ps:List Str}{k:Nat}{sp:ei}
def eU.mono(h:eU P w K mg base x ps k sp)(c:k<=j):eU P w K mg base x ps j sp:=by
 obtain⟨f,d,a,b⟩:=h.ex;exact⟨f,d,a.mono c,b⟩
end
section
variable{X:aV}{x:Str}{ps:List Str}{k:Nat}{sp:ei}{p pos:Pos}{e:Expr}{az:List Expr}{t:fQ}
def Ax(sp:ei)(t:fQ):TE:=λU H Q=>t U H λvs a=>sp vs a Q i0
def Ou(h:eU X.prog X.w X.K X.mg X.base x ps k sp)(aD:cE k X.A)(d:d6 X x)(g:gV X (e::az) t)(i:(x==("__debug__":Str))=false:=by decide)
  (he:akx (e::az) X.env=(false,eval e X.env)::akx az X.env:=by rfl) (j:(ak3 pos (akx az X.env)).any (·.1)=false:=by rfl):bZ X (.Call (.Name x p) (e::az) [] pos) (Ax sp t):=by
 obtain⟨f,n,F,b,kp,m⟩:=h.ex;intro zn s U H Q J c;refine ac4 (dvs:=[]) (ds:=[]) F aD d m kp b .nil rQ g i he j zn s U H Q J ?_;have l:t U H λvs a=>sp vs a Q i0:=c
 show t U H λvs a=>sp (vs++[]) a Q i0
 simpa only[alO]using l
def ade(h:eU X.prog X.w X.K X.mg X.base x ps k sp)(aD:cE k X.A)(c:d6 X x)(d:(x==("__debug__":Str))=false:=by decide):bZ X (.Call (.Name x p) [] [] pos) (Ax sp xa):=by
 obtain⟨f,g,F,b,kp,m⟩:=h.ex;intro zn s U H Q J a;exact ac5 (dvs:=[]) (ds:=[]) F aD c m kp b .nil rQ d zn s U H Q J a
end
structure xN(K:aM):Prop where
 df:∀t∈["NoneType","bool","int","str","list","tuple"],∀c∈["int","bool","tuple","list","str"],W.kitOne K (.type t) (.type c)=some (t==c||(t == "bool"&&c == "int"))
inductive mU(K:aM)(H:aw):V->String->Prop where
 |aI:mU K H .aI "NoneType"
 |ax (x:Bool):mU K H (.ax x) "bool"
 |int (i:Int):mU K H (.int i) "int"
 |str (x:Str):mU K H (.str x) "str"
 |l {a:Addr}{xs:List V}(e:dt K H a xs):mU K H (.ref a) "list"
 |t {a:Addr}{xs:List V}(e:dB K H a xs):mU K H (.ref a) "tuple"
abbrev af5:List String:=["NoneType","bool","int","str","list","tuple"]
def mU.mem{K:aM}{H:aw}{x:V}{t:String}(h:mU K H x t):t∈af5:=by
 cases h<;>decide
section
variable{X:aV}
def vM(t n:String):Bool:=t==n||(t == "bool"&&n == "int")
def O0(K:aM):List V->aw->cU->Prop:=λxs H Q=>∃x n t,xs=[x,.ty n]/\mU K H x t/\n∈["int","bool","tuple","list","str"]/\Q (.ax (vM t n)) H
def S5(kt:xN X.K):jV X (.builtin "isinstance") (O0 X.K):=by
 intro zn s U H xs us Q J j h;obtain⟨x,n,t,rfl,ty,aA,q⟩:=h;obtain⟨u,k,rfl,b,g⟩:=vals2 j;cases(show k=apc n from g);have e:=kt.df t ty.mem n aA;have fin:∀tk,hr X zn U Q (.bool (vM t n)) { s with toks:=tk }:=λtk=>⟨.ax _,H,J.tok tk,rfl,q⟩
 cases ty with
 |aI=>cases(show u=amX from b);exact aoq W.kitx_none J.f9 an0 e (λz=>nomatch z) fin
 |ax y=>cases(show u=aoF y from b);exact aoq W.kitx_bool J.f9 an0 e (λz=>nomatch z) fin
 |int i=>obtain⟨t,q⟩:=(show ∃t,u=apk i t from b);cases q;exact aoq W.kitx_int J.f9 an0 e (λz=>nomatch z) fin
 |str y=>obtain⟨t,q⟩:=(show ∃t,u=apl y t from b);cases q;exact aoq W.kitx_str J.f9 an0 e (λz=>nomatch z) fin
 |@l a xs f=>
  cases(show u=alv a from b);obtain⟨its,_,⟨o,m,c,d,_⟩,_⟩:=J.list f;exact aoq W.kitx_list J.f9 ⟨o,c,d⟩ e (λz=>nomatch z) fin
 |@t a xs f=>
  cases(show u=alv a from b);obtain⟨its,_,⟨o,c,d,_⟩,_⟩:=J.tuple f;exact aoq W.kitx_tuple J.f9 ⟨o,c,d⟩ e (λz=>nomatch z) fin
def aab:uM X "int.bit_length" (λx xs H Q=>∃i,x=.int i/\xs=[]/\Q (.int (alL i:Nat)) H):=by
 intro zn s U H x xs v us Q J a b h;obtain⟨i,rfl,rfl,q⟩:=h;obtain⟨t,rfl⟩:=a;cases b;exact call_int_bit_length ⟨.int _,H,J.tok _,⟨_,rfl⟩,q⟩
end
mutual
def Rep(K:aM)(H:aw):PyData->V->Prop
 |.none,v=>v=.aI|.bool b,v=>v=.ax b|.int i,v=>v=.int i|.str x,v=>v=.str x|.list ds,v=>∃a xs,v=.ref a/\dt K H a xs/\bj K H ds xs|.tuple ds,v=>∃a xs,v=.ref a/\dB K H a xs/\bj K H ds xs|.dict _,_=>False
def bj(K:aM)(H:aw):List PyData->List V->Prop
 |[],xs=>xs=[]|d::ds,xs=>∃x r,xs=x::r/\Rep K H d x/\bj K H ds r
end
def eC.w4[a4]{K:aM}{H H':aw}{a:Addr}{xs:List V}(e:eC H H')(h:dB K H a xs):dB K H' a xs:=by
 rcases h with(h|⟨o,h⟩)|h
 .exact .inl (.inl (e.at' _ _ h))
 .exact .inl (.inr ⟨o,e.at' _ _ h⟩)
 .exact .inr h
section
variable{X:aV}{zn:c3}{U:St}{H:aw}{s:akC}
mutual
theorem Rep.reads(J:Inv X zn U H s):∀{d:PyData}{v:V}{u:Value},Rep X.K H d v->RelV v u->∃as,Reads s.heap u d as
 |.none,_,_,h,r=>by cases h;cases r;exact⟨_,.none⟩
 |.bool _,_,_,h,r=>by cases h;cases r;exact⟨_,.bool _⟩
 |.int _,_,_,h,r=>by cases h;obtain⟨t,rfl⟩:=r;exact⟨_,.int _ _⟩
 |.str _,_,_,h,r=>by cases h;obtain⟨t,rfl⟩:=r;exact⟨_,.str _ _⟩
 |.list _,_,_,h,r=>by
  obtain⟨a,xs,rfl,l,q⟩:=h;cases r;obtain⟨its,b,⟨o,n,e,c,_,d⟩,_⟩:=J.list l;obtain⟨as,z⟩:=bj.reads J q b;exact⟨_,.list e c d (by simpa using z)⟩
 |.tuple _,_,_,h,r=>by
  obtain⟨a,xs,rfl,l,q⟩:=h;cases r;obtain⟨its,b,⟨o,e,c,n,d⟩,_⟩:=J.tuple l;obtain⟨as,z⟩:=bj.reads J q b;exact⟨_,.tuple e c d (by simpa using z)⟩
 |.dict _,_,_,h,_=>h.elim
theorem bj.reads(J:Inv X zn U H s):∀{ds:List PyData}{xs:List V}{us:List Value},bj X.K H ds xs->Vals xs us->∃as,ReadsAll s.heap us ds as
 |[],_,_,h,r=>by cases h;cases r;exact⟨_,.nil⟩
 |_::_,_,_,h,r=>by
  obtain⟨x,t,rfl,a,b⟩:=h
  cases r with
  |cons d c=>
   obtain⟨as,f⟩:=Rep.reads J a d;obtain⟨bs,e⟩:=bj.reads J b c;exact⟨_,.cons f e⟩
end
end
section
variable{X:aV}
def Ah(K:aM)(neg:Bool):fg:=λx y H Q=>∃d e,Rep K H d x/\Rep K H e y/\apr d=true/\apr e=true/\Q (.ax (if neg then !apd d e else apd d e)) H
def EV(i:X.A.units+64<cLine):dU X (alj .Eq) (Ah X.K false):=by
 intro zn s U H x y v u Q J c f h;obtain⟨d,e,a,b,my,j,q⟩:=h;obtain⟨as,g⟩:=a.reads J c;obtain⟨bs,k⟩:=b.reads J f;exact eq_dataH g k my j i ⟨.ax _,H,J,rfl,q⟩
def tV(i:X.A.units+64<cLine):dU X (alj .NotEq) (Ah X.K true):=by
 intro zn s U H x y v u Q J c f h;obtain⟨d,e,a,b,my,j,q⟩:=h;obtain⟨as,g⟩:=a.reads J c;obtain⟨bs,k⟩:=b.reads J f;exact ne_dataH g k my j i ⟨.ax _,H,J,rfl,q⟩
end
def IZ:alm "len"=some (.builtin "len"):=by decide +kernel
def SP:alm "isinstance"=some (.builtin "isinstance"):=by decide +kernel
def SQ:alm "max"=some (.builtin "max"):=by decide +kernel
def SM:alm "any"=some (.builtin "any"):=by decide +kernel
def SK:alm "all"=some (.builtin "all"):=by decide +kernel
def SO:alm "int"=some (.type "int"):=by decide +kernel
def SN:alm "bool"=some (.type "bool"):=by decide +kernel
def B3:alm "list"=some (.type "list"):=by decide +kernel
def u0:alm "tuple"=some (.type "tuple"):=by decide +kernel
def SV:alm "str"=some (.type "str"):=by decide +kernel
variable[a4]
def xI(a:ib)(b:aw)(xs:List V):Prop:=∀H,eC b H->∀i,(i<xs.length->a.go i H/\∀x H',a.pb i H x H'->H'=H/\xs[i]? = some x)/\(xs.length<=i->a.stop i H)
def MO{K:aM}{H:aw}{a:Addr}{xs:List V}(h:dt K H a xs):xI (pq K a) H xs:=λH' s i=>
 ⟨λhi=>⟨⟨xs,xs[i],s.seq h,by simp[hi]⟩,λx b y=>⟨y.1,y.2 xs (s.seq h)⟩⟩,λhi=>⟨xs,s.seq h,hi⟩⟩
def MQ{K:aM}{H:aw}{a:Addr}{xs:List V}(h:dB K H a xs):xI (sa K a) H xs:=λH' s i=>
 ⟨λhi=>⟨⟨xs,xs[i],s.w4 h,by simp[hi]⟩,λx b y=>⟨y.1,y.2 xs (s.w4 h)⟩⟩,λhi=>⟨xs,s.w4 h,hi⟩⟩
def mx(lo:Int)(n:Nat):List V:=(akR n).map λi=>V.int (lo+(i:Nat))
def DM(lo:Int)(n:Nat):xI (mP lo n) H (mx lo n):=λH' s i=>by
 have hl:(mx lo n).length=n:=by unfold mx;rw[akz,alZ]
 refine⟨λhi=>⟨by rw[hl]at hi;exact hi,λx a y=>⟨y.1,?_⟩⟩,λhi=>by rw[hl]at hi;exact hi⟩;rw[hl]at hi;rw[y.2];unfold mx;rw[akN,amc hi];rfl
end aC
namespace aC
open PySem PySem.Spec PyProof.Rows
def gR.none{P:akZ}{w:World}{K:aM}{mg:bl}{base:Heap}{x:Str}{st:Stmt}{ps:List Str}{k:Nat}{sp:ei}(D:gR K mg x st ps)(no:∀vs H Q E,¬sp vs H Q E):eU P w K mg base x ps k sp:=by
 obtain⟨f,a,F,b,m⟩:=D.ex;exact⟨f,a,⟨λvs H Q E h=>absurd h (no vs H Q E),λA outer s H args us vs Q E _ _ _ _ h=>absurd h (no vs H Q E)⟩,b,F.kp,m⟩
def Zb(K:aM):xN K:=⟨by
 intro t a c b;simp only[akP,List.mem_nil_iff,or_false]at a b;rcases a with rfl|rfl|rfl|rfl|rfl|rfl<;>rcases b with rfl|rfl|rfl|rfl|rfl<;>kernel_rfl⟩
def range_any(bs:List Bool):(akR bs.length).any (λi=>bs.getD i false)=bs.any id:=by
 rw[ama,anM,anM];constructor
 .rintro⟨i,hi,h⟩
  have a:=ali.mp hi;refine⟨bs[i],ami a,?_⟩;rw[alJ,akJ a]at h;exact h
 .rintro⟨b,c,h⟩
  obtain⟨i,hi,rfl⟩:=List.getElem_of_mem c;refine⟨i,ali.mpr hi,?_⟩;rw[alJ,akJ hi];exact h
def range_all(bs:List Bool):(akR bs.length).all (λi=>bs.getD i false)=bs.all id:=by
 rw[ama,alg,alg];constructor
 .intro h b c
  obtain⟨i,hi,rfl⟩:=List.getElem_of_mem c;have:=h i (ali.mpr hi);rw[alJ,akJ hi]at this;exact this
 .intro h i hi
  have a:=ali.mp hi;rw[alJ,akJ a];exact h _ (ami a)
section
variable{X:aV}{K:aM}
def PJ{bs:List Bool}{its:List Value}(a:Vals (bs.map V.ax) its):TruthOf prog w A (λi v=>its.toArray[i]? = some v) (λi=>bs.getD i false):=by
 intro i v s Q E g e;have d:its[i]? = some v:=by simpa using g
 have hi:i<bs.length:=by
  have j:=(akw.mp d).1;have f:=a.length;rw[akz]at f;omega
 obtain⟨u,b,h⟩:=a.get (i:=i) (x:=.ax bs[i]) (by rw[akN,akJ hi];rfl);rw[d]at b;cases b;cases h;have c:Q (bs.getD i false) s:=e;rw[alJ,akJ hi]at c;exact alG c
def S4(m:X.calm=true):jV X (.builtin "any") (λxs H Q=>∃(l:Addr)(bs:List Bool),xs=[.ref l]/\dt X.K H l (bs.map V.ax)/\Q (.ax (bs.any id)) H):=by
 intro zn s U H xs us Q J f h;obtain⟨l,bs,rfl,j,q⟩:=h;obtain⟨u,rfl,d⟩:=vals1 f;cases d;obtain⟨its,c,p,hz⟩:=J.list j;have g:l<s.heap.objs.size:=by obtain⟨o,n,e,_⟩:=p;exact akM e
 refine call_any_walk (amG p.isList ?_);refine⟨s.heap.objs.size,_,_,_,_,_,λi=>bs.getD i false,rfl,ape (A:=X.A.in1) (show X.A.in1.handled=none from J.ok.hd m) s.heap.objs.size l (alc g) its.toArray,⟨⟨_,akK _ rfl,rfl,rfl⟩,p.isList.at λo e=>aky _ e⟩,PJ c,λh' tk k=>?_⟩;have aA:its.toArray.size=bs.length:=by
  have a:=c.length;rw[akz]at a;simp[a]
 rw[aA,range_any];exact⟨.ax _,H,J.kept (h':=h') (t':=tk) λb o e=>k b o (by intro z;rw[akY.mp z]at e;exact absurd (akM e) (als _)) (aky _ e),rfl,q⟩
def S3(m:X.calm=true):jV X (.builtin "all") (λxs H Q=>∃(l:Addr)(bs:List Bool),xs=[.ref l]/\dt X.K H l (bs.map V.ax)/\Q (.ax (bs.all id)) H):=by
 intro zn s U H xs us Q J f h;obtain⟨l,bs,rfl,j,q⟩:=h;obtain⟨u,rfl,d⟩:=vals1 f;cases d;obtain⟨its,c,p,hz⟩:=J.list j;have g:l<s.heap.objs.size:=by obtain⟨o,n,e,_⟩:=p;exact akM e
 refine call_all_walk (amG p.isList ?_);refine⟨s.heap.objs.size,_,_,_,_,_,λi=>bs.getD i false,rfl,ape (A:=X.A.in1) (show X.A.in1.handled=none from J.ok.hd m) s.heap.objs.size l (alc g) its.toArray,⟨⟨_,akK _ rfl,rfl,rfl⟩,p.isList.at λo e=>aky _ e⟩,PJ c,λh' tk k=>?_⟩;have aA:its.toArray.size=bs.length:=by
  have a:=c.length;rw[akz]at a;simp[a]
 rw[aA,range_all];exact⟨.ax _,H,J.kept (h':=h') (t':=tk) λb o e=>k b o (by intro z;rw[akY.mp z]at e;exact absurd (akM e) (als _)) (aky _ e),rfl,q⟩
end
section
variable{X:aV}
def qi{v:V}(a:d6 X x)(h:∃u,X.mg x=some u/\RelV v u)(hd:(x==("__debug__":Str))=false:=by decide):bZ X (.Name x pos) (oS v):=by
 obtain⟨u,b,r⟩:=h;exact adf a b r hd
variable[a4]
end
end aC
set_option maxHeartbeats 1000000
namespace aE
open PySem PySem.Spec aC
variable[aC.a4]
inductive D where
 |aI|ax (b:Bool)|int (i:Int)|str (x:Str)|t (xs:List D)|l (xs:List D)|ref (n:Nat)|fn (f:Str)|ty (n:String)
inductive Slot where
 |e|v (d:D)|d9 (p:Bool) (xs:List D)|bU (xs:List D)
abbrev aJ:=List Slot
inductive fZ where
 |l (xs:List D)|K4 (dm:List (Key×D))|qZ (dm:List (List Key×D))|bb (c:Str) (aW:List (Str×D))
abbrev bH:=List fZ
inductive Out(α:Type) where
 |ok (a:α) (S:bH)|exc (c:Str) (S:bH)|bad
structure M(α:Type):Type where
 run:bH->Out α
 fb:∀S a ao,run S=.ok a ao->ao=S
def M.hv{α g:Type}(m:M α)(f:α->M g):M g:=⟨λS=>match m.run S with
 |.ok a d=>(f a).run d|.exc c d=>.exc c d|.bad=>.bad,λS b d h=>by
  cases e:m.run S with
  |ok a S1=>rw[e]at h;exact((f a).fb _ _ _ h).trans (m.fb _ _ _ e)|exc c S1=>rw[e]at h;cases h
  |bad=>rw[e]at h;cases h⟩
noncomputable instance:Monad M where
 pure a:=⟨λS=>.ok a S,λ_ _ _ h=>by cases h;rfl⟩
 bind:=M.hv
omit [aC.a4]in
theorem M.ext{α:Type}{x y:M α}(h:∀S,x.run S=y.run S):x=y:=by
 cases x with|mk f p=>cases y with|mk g q=>obtain rfl:f=g:=funext h;rfl
omit [aC.a4]in
theorem M.Ss{α a:Type}(m:M α)(f:α->M a):(m >>= f)=M.hv m f:=rfl
instance:LawfulMonad M:=LawfulMonad.mk'
 (id_map:=λx=>M.ext λS=>by show(M.hv x (λa=>pure (id a))).run S=x.run S;unfold M.hv;dsimp only;cases x.run S<;>rfl)
 (pure_bind:=λx f=>rfl)
 (bind_assoc:=λx f g=>M.ext λS=>by show(M.hv (M.hv x f) g).run S=(M.hv x (λa=>M.hv (f a) g)).run S;unfold M.hv;dsimp only;cases x.run S<;>rfl)
 (bind_pure_comp:=λf x=>rfl)
def bad{α:Type}:M α:=⟨λ_=>.bad,λ_ _ _ h=>by cases h⟩
omit [aC.a4]in
theorem M.inv{α g:Type}{m:M α}{f:α->M g}{S d:bH}{b:g}(h:(m >>= f).run S=.ok b d):∃a S1,m.run S=.ok a S1/\(f a).run S1=.ok b d:=by
 rw[M.Ss]at h;unfold M.hv at h;dsimp only at h
 cases e:m.run S with
 |ok a S1=>rw[e]at h;exact⟨a,S1,rfl,h⟩|exc c S1=>rw[e]at h;cases h
 |bad=>rw[e]at h;cases h
def hx(p:Prop)[Decidable p]:M Unit:=if p then pure ()else bad
omit [aC.a4]in
theorem I8{p:Prop}[Decidable p](h:p):hx p=pure ():=if_pos h
omit [aC.a4]in
theorem qT{p:Prop}[Decidable p]{S b:bH}(h:(hx p).run S=.ok u b):p/\S=b:=by
 unfold hx at h
 by_cases a:p
 .rw[if_pos a]at h;cases h;exact⟨a,rfl⟩
 .rw[if_neg a]at h;cases h
inductive R where
 |v (d:D)|fr (xs:List D)|bU (xs:List D)|mv (xs:List D)
abbrev bw:=aJ->M R
inductive Own where
 |free|out|dn|loc (i:Nat)
 deriving DecidableEq
structure a7 where
 own:Addr->Own
 bG:List Addr
instance:CoeFun a7 (λ_=>Addr->Own):=⟨a7.own⟩
def Bb(K:aM)(a:Addr)(xs:List V):Prop:=
 ∃(o:Obj)(its:Array Value)(n:Nat),K.lookup a=some o/\o.cls=.type "list"/\o.dict=none/\o.data=.seq its n/\its.size<=akA/\Vals xs its.toList
def sb(_:aM)(O:a7)(H:aw)(a:Addr)(ys:List V):Prop:=H a=some (.l ys)/\O a=.free
mutual
def Rep(K:aM)(mg:bl)(O:a7)(H:aw):D->V->Prop
 |.aI,v=>v=.aI|.ax b,v=>v=.ax b|.int i,v=>v=.int i|.str x,v=>v=.str x|.t xs,v=>∃a ys,v=.ref a/\dB K H a ys/\bj K mg O H xs ys|.l xs,v=>∃a ys,v=.ref a/\sb K O H a ys/\bj K mg O H xs ys|.ref n,v=>∃a,v=.ref a/\O.bG[n]? = some a|.fn f,v=>∃a,v=.ref a/\mg f=some (.ref a)|.ty n,v=>v=.ty n
def bj(K:aM)(mg:bl)(O:a7)(H:aw):List D->List V->Prop
 |[],ys=>ys=[]|x::xs,ys=>∃y r,ys=y::r/\Rep K mg O H x y/\bj K mg O H xs r
end
structure Go(O ak:a7)(H H':aw):Prop where
 same:eC H H'
 own:∀b,H b≠none->ak b=O b
 bG:ak.bG=O.bG
def Go.refl(O:a7)(H:aw):Go O O H H:=⟨eC.refl _,λ_ _=>rfl,rfl⟩
def Go.trans{O d e:a7}(a:Go O d H H1)(b:Go d e H1 o):Go O e H o:=
 ⟨a.same.trans b.same,λc h=>(b.own c (a.same.some h)).trans (a.own c h),b.bG.trans a.bG⟩
def hs.same(s:eC H H')(h:hs H a u)(n:oD u:=by exact trivial):hs H' a u:=by
 rcases h with h|⟨o,h⟩
 .exact .inl (s.at' _ _ h n)
 .exact .inr ⟨o,s.at' _ _ h⟩
omit [aC.a4]in
theorem hs.some{H:aw}(h:hs H a u):H a≠none:=by
 rcases h with h|⟨o,h⟩<;>rw[h]<;>intro z<;>cases z
def sb.cR{O:a7}(h:sb K O H a ys):dt K H a ys:=dt.of h.1
def hL(K:aM)(O:a7)(H:aw)(a:Addr)(ys:List V):Prop:=(hs H a (.l ys)/\(O a=.free\/O a=.out))\/Bb K a ys
def hL.cR{O:a7}(h:hL K O H a ys):dt K H a ys:=h.elim (λz=>.inl z.1) .inr
def hL.go{O b:a7}(g:Go O b H H')(h:hL K O H a ys):hL K b H' a ys:=by
 rcases h with⟨l,f⟩|l
 .exact .inl ⟨hs.same g.same l,by rw[g.own a (hs.some l)];exact f⟩
 .exact .inr l
def sb.go{O b:a7}(g:Go O b H H')(h:sb K O H a ys):sb K b H' a ys:=by
 exact⟨g.same.at' _ _ h.1,(g.own a (by rw[h.1];intro z;cases z)).trans h.2⟩
section
variable{K:aM}{mg:bl}{O ak:a7}{H H':aw}
mutual
theorem Rep.go(g:Go O ak H H'):∀{d:D}{v:V},Rep K mg O H d v->Rep K mg ak H' d v
 |.aI,_,h=>h|.ax _,_,h=>h|.int _,_,h=>h|.str _,_,h=>h| .t _,_,h=>by obtain⟨a,ys,q,l,r⟩:=h;exact⟨a,ys,q,g.same.w4 l,bj.go g r⟩
 |.l _,_,h=>by obtain⟨a,ys,q,l,r⟩:=h;exact⟨a,ys,q,l.go g,bj.go g r⟩
 |.ref _,_,h=>by obtain⟨a,q,l⟩:=h;exact⟨a,q,by rw[g.bG];exact l⟩
 |.fn _,_,h=>h|.ty _,_,h=>h
theorem bj.go(g:Go O ak H H'):∀{ds:List D}{ys:List V},bj K mg O H ds ys->bj K mg ak H' ds ys
 |[],_,h=>h| _::_,_,h=>by obtain⟨x,r,q,a,b⟩:=h;exact⟨x,r,q,Rep.go g a,bj.go g b⟩
end
structure lI(O ak:a7):Prop where
 fr:∀a,O a=.free->ak a=.free
 bG:ak.bG=O.bG
mutual
theorem Rep.da(g:lI O o):∀{d:D}{v:V},Rep K mg O H d v->Rep K mg o H d v
 |.aI,_,h=>h|.ax _,_,h=>h|.int _,_,h=>h|.str _,_,h=>h| .t _,_,h=>by obtain⟨a,ys,q,l,r⟩:=h;exact⟨a,ys,q,l,bj.da g r⟩
 |.l _,_,h=>by obtain⟨a,ys,q,l,r⟩:=h;exact⟨a,ys,q,⟨l.1,g.fr _ l.2⟩,bj.da g r⟩
 |.ref _,_,h=>by obtain⟨a,q,l⟩:=h;exact⟨a,q,by rw[g.bG];exact l⟩
 |.fn _,_,h=>h|.ty _,_,h=>h
theorem bj.da(g:lI O o):∀{ds:List D}{ys:List V},bj K mg O H ds ys->bj K mg o H ds ys
 |[],_,h=>h| _::_,_,h=>by obtain⟨x,r,q,a,b⟩:=h;exact⟨x,r,q,Rep.da g a,bj.da g b⟩
end
theorem bj.len:∀{ds:List D}{xs:List V},bj K mg O H ds xs->xs.length=ds.length
 |[],_,h=>by cases h;rfl
 |_::_,_,h=>by obtain⟨x,r,rfl,_,b⟩:=h;rw[alb,alb,bj.len b]
theorem bj.get:∀{ds:List D}{xs:List V}{i:Nat}{d:D},bj K mg O H ds xs->ds[i]? = some d->∃x,xs[i]? = some x/\Rep K mg O H d x
 |[],_,_,_,_,e=>by simp at e| _::_,_,0,d,h,e=>by obtain⟨x,r,rfl,a,_⟩:=h;cases(show some _=some d from e);exact⟨x,rfl,a⟩
 |_::ds,_,i+1,d,h,e=>by
  obtain⟨x,r,rfl,_,b⟩:=h;obtain⟨y,au,aF⟩:=bj.get (i:=i) b (by simpa using e);exact⟨y,by simpa using au,aF⟩
theorem bj.LN:∀{ds:List D}{xs:List V}{i:Nat}{x:V},bj K mg O H ds xs->xs[i]? = some x->∃d,ds[i]? = some d/\Rep K mg O H d x
 |[],_,_,_,h,e=>by cases h;simp at e
 |_::_,_,0,x,h,e=>by obtain⟨y,r,rfl,a,_⟩:=h;cases(show some _=some x from e);exact⟨_,rfl,a⟩
 |_::ds,_,i+1,d,h,e=>by
  obtain⟨x,r,rfl,_,b⟩:=h;obtain⟨y,au,aF⟩:=bj.LN (i:=i) b (by simpa using e);exact⟨y,by simpa using au,aF⟩
theorem bj.append:∀{ds c:List D}{xs ys:List V},bj K mg O H ds xs->bj K mg O H c ys->bj K mg O H (ds++c) (xs++ys)
 |[],_,_,_,h,q=>by cases h;exact q
 |_::_,_,_,_,h,q=>by obtain⟨x,r,rfl,a,b⟩:=h;exact⟨x,_,rfl,a,bj.append b q⟩
def bj.one(h:Rep K mg O H d x):bj K mg O H [d] [x]:=⟨x,[],rfl,h,rfl⟩
theorem bj.take:∀{ds:List D}{xs:List V}(n:Nat),bj K mg O H ds xs->bj K mg O H (ds.take n) (xs.take n)
 |[],_,_,h=>by cases h;rw[aph,aph];rfl
 |_::_,_,0,_=>by rw[ao9,ao9];rfl| _::_,_,n+1,h=>by obtain⟨x,r,rfl,a,b⟩:=h;exact⟨x,_,rfl,a,bj.take n b⟩
theorem bj.drop:∀{ds:List D}{xs:List V}(n:Nat),bj K mg O H ds xs->bj K mg O H (ds.drop n) (xs.drop n)
 |[],_,_,h=>by cases h;rw[List.drop_nil,List.drop_nil];rfl
 |_::_,_,0,h=>h| _::_,_,n+1,h=>by obtain⟨x,r,rfl,a,b⟩:=h;exact bj.drop n b
theorem bj.set(hd:Rep K mg O H d x):∀{ds:List D}{xs:List V}(n:Nat),bj K mg O H ds xs->bj K mg O H (ds.set n d) (xs.set n x)
 |[],_,_,h=>by cases h;exact rfl
 |_::_,_,0,h=>by obtain⟨y,r,rfl,a,b⟩:=h;exact⟨x,r,rfl,hd,b⟩
 |_::_,_,n+1,h=>by obtain⟨y,r,rfl,a,b⟩:=h;exact⟨y,_,rfl,a,bj.set hd n b⟩
def O7(ns:List Int):bj K mg O H (ns.map D.int) (ns.map V.int):=by
 induction ns with
 |nil=>rfl|cons n r a=>exact⟨.int n,_,rfl,rfl,a⟩
def fx{κ:Type}(K:aM)(mg:bl)(O:a7)(H:aw)(a:List (κ×D))(b:List (κ×V)):Prop:=a.map (·.1)=b.map (·.1)/\bj K mg O H (a.map (·.2)) (b.map (·.2))
def et(K:aM)(mg:bl)(O:a7)(H:aw):R->V->Prop
 |.v d,v=>Rep K mg O H d v|.fr xs,v=>∃a ys,v=.ref a/\H a=some (.l ys)/\O a=.dn/\bj K mg O H xs ys|.bU xs,v=>∃a ys,v=.ref a/\hL K O H a ys/\bj K mg O H xs ys|.mv xs,v=>∃a ys,v=.ref a/\H a=some (.l ys)/\bj K mg O H xs ys
def et.go(g:Go O C H H'):∀{r:R}{v:V},et K mg O H r v->et K mg C H' r v
 |.v _,_,h=>Rep.go g h| .fr _,_,h=>by obtain⟨a,ys,q,l,o,r⟩:=h;exact⟨a,ys,q,g.same.at' _ _ l,(g.own a (by rw[l];intro z;cases z)).trans o,r.go g⟩
 |.bU _,_,h=>by obtain⟨a,ys,q,l,r⟩:=h;exact⟨a,ys,q,l.go g,r.go g⟩
 |.mv _,_,h=>by obtain⟨a,ys,q,l,r⟩:=h;exact⟨a,ys,q,g.same.at' _ _ l,r.go g⟩
theorem bj.imp{c:a7}(f:∀d v,Rep K mg O H d v->Rep K mg c H' d v):∀{ds:List D}{ys:List V},bj K mg O H ds ys->bj K mg c H' ds ys
 |[],_,h=>h| _::_,_,h=>by obtain⟨x,r,q,a,b⟩:=h;exact⟨x,r,q,f _ _ a,bj.imp f b⟩
def Qy(K:aM)(mg:bl)(c:Str)(C:Addr):Prop:=mg c=some (.ref C)/\iZ K C
def jw(K:aM)(mg:bl)(O:a7)(H:aw)(w:Own):Slot->Option V->Prop
 |.e,_=>True|.v d,u=>∃v,u=some v/\Rep K mg O H d v|.d9 _ xs,u=>∃a ys,u=some (.ref a)/\O a=w/\H a=some (.l ys)/\bj K mg O H xs ys|.bU xs,u=>∃a ys,u=some (.ref a)/\hL K O H a ys/\bj K mg O H xs ys
def jw.go(g:Go O C H H'):∀{s:Slot}{u:Option V},jw K mg O H w s u->jw K mg C H' w s u
 |.e,_,_=>trivial| .v _,_,h=>by obtain⟨v,q,r⟩:=h;exact⟨v,q,r.go g⟩
 |.d9 _ _,_,h=>by obtain⟨a,ys,q,o,l,r⟩:=h;exact⟨a,ys,q,(g.own a (by rw[l];intro z;cases z)).trans o,g.same.at' _ _ l,r.go g⟩
 |.bU _,_,h=>by
  obtain⟨a,ys,q,l,r⟩:=h;exact⟨a,ys,q,l.go g,r.go g⟩
end
def jv(O:a7):Prop:=O.bG.Nodup/\∀a∈O.bG,O a=.out
structure di(O:a7)(H:aw):Prop where
 has:∀a,O a≠.free->H a≠none
 tabs:TabsOk H
 cc:jv O
def nR(K:aM)(mg:bl)(O:a7)(H:aw)(a:Addr):fZ->Prop
 |.l xs=>∃ys,H a=some (.l ys)/\bj K mg O H xs ys|.K4 d=>∃b,H a=some (.sA b)/\fx K mg O H d b|.qZ d=>∃b,H a=some (.gi b)/\fx K mg O H d b|.bb c aW=>∃C f e,H a=some (.ins C f e)/\Qy K mg c C/\fx K mg O H aW e
def f3(K:aM)(mg:bl)(O:a7)(H:aw)(S:bH):Prop:=∀(n:Nat)(o:fZ),S[n]? = some o->∃a,O.bG[n]? = some a/\nR K mg O H a o
def nR.all{O b:a7}{H H':aw}(f:∀d v,Rep K mg O H d v->Rep K mg b H' d v)(g:∀u,H a=some u->oD u->H' a=some u):∀{o:fZ},nR K mg O H a o->nR K mg b H' a o
 |.l _,h=>by obtain⟨ys,l,r⟩:=h;exact⟨ys,g _ l trivial,r.imp f⟩
 |.K4 _,h=>by obtain⟨ys,l,e,r⟩:=h;exact⟨ys,g _ l trivial,e,r.imp f⟩
 |.qZ _,h=>by obtain⟨ys,l,e,r⟩:=h;exact⟨ys,g _ l trivial,e,r.imp f⟩
 |.bb _ _,h=>by obtain⟨C,i,j,l,c,e,r⟩:=h;exact⟨C,i,j,g _ l trivial,c,e,r.imp f⟩
def f3.all{O b:a7}{H H':aw}{S:bH}(s:f3 K mg O H S)(f:∀d v,Rep K mg O H d v->Rep K mg b H' d v)(e:b.bG=O.bG)(g:∀a∈O.bG,∀u,H a=some u->oD u->H' a=some u):f3 K mg b H' S:=λn o h=>by
 obtain⟨a,c,i⟩:=s n o h;exact⟨a,by rw[e];exact c,i.all f (g a (ak7 c))⟩
def f3.go{O b:a7}{S:bH}(s:f3 K mg O H S)(g:Go O b H H'):f3 K mg b H' S:=
 s.all (λ_ _ z=>Rep.go g z) g.bG λa _ u l n=>g.same.at' _ _ l n
def f3.nil{O:a7}:f3 K mg O H []:=λn o h=>by cases n<;>cases h
structure cI(K:aM)(mg:bl)(O:a7)(U:aJ)(S:bH)(ar:St)(H:aw):Prop where
 cu:di O H
 len:U.length=ar.length
 loc:∀i s,U[i]? = some s->jw K mg O H (.loc i) s (ar[i]?.join)
 gD:f3 K mg O H S
def cI.go{O a:a7}{S:bH}(h:cI K mg O U S o H)(g:Go O a H H')(d:di a H'):cI K mg a U S o H':=
 ⟨d,h.len,λi s e=>(h.loc i s e).go g,h.gD.go g⟩
def fV(O:a7)(a:Addr)(o:Own):a7:=⟨λb=>if b=a then o else O b,O.bG⟩
omit [aC.a4]in
theorem lC{O:a7}:fV O a o a=o:=if_pos rfl
omit [aC.a4]in
theorem o1{O:a7}(h:b≠a):fV O a o b=O b:=if_neg h
section
variable{K:aM}{mg:bl}{O:a7}{U:aJ}{S:bH}{ar:St}{H:aw}{p:Addr}{u:gJ}{o:Own}
def Go.new(a:H p=none):Go O (fV O p o) H (upd H p u):=
 ⟨ub a u,λb c=>o1 (by rintro rfl;exact c a),rfl⟩
def Go.hh(a:H p=none):Go O O H (upd H p u):=⟨ub a u,λ_ _=>rfl,rfl⟩
def di.new(d:di O H)(b:H p=none):di (fV O p o) (upd H p u):=⟨λa c=>by
 by_cases e:a=p
 .subst e;rw[dZ];intro z;cases z
 .rw[c5 e];rw[o1 e]at c;exact d.has a c,d.tabs.new b u,d.cc.1,λa h=>by rw[o1 (by rintro rfl;exact d.has _ (by rw[d.cc.2 _ h];intro z;cases z) b)];exact d.cc.2 a h⟩
def di.same(d:di O H)(s:eC H H'):di O H':=⟨λa b=>s.some (d.has a b),s.b3 d.tabs,d.cc⟩
def cI.new(h:cI K mg O U S ar H)(a:H p=none):cI K mg (fV O p o) U S ar (upd H p u):=h.go (Go.new a) (h.cu.new a)
def cI.hh(h:cI K mg O U S ar H)(a:H p=none):cI K mg O U S ar (upd H p u):=h.go (Go.hh a) (h.cu.same (ub a u))
end
def ju(H:aw):R->V->Prop
 |.fr _,v=>∀a,v=.ref a->H a=none|_,_=>True
def ju.back(s:eC H H1):∀{r:R}{v:V},ju H1 r v->ju H r v
 |.v _,_,_=>trivial|.bU _,_,_=>trivial|.mv _,_,_=>trivial|.fr _,_,h=>λa e=>s.free (h a e)
def ku(H:aw):List R->List V->Prop
 |r::rs,v::vs=>ju H r v/\ku H rs vs|_,_=>True
theorem ku.back(s:eC H H1):∀{rs:List R}{vs:List V},ku H1 rs vs->ku H rs vs
 |[],_,_=>trivial|_::_,[],_=>trivial|_::_,_::_,h=>⟨h.1.back s,ku.back s h.2⟩
def uO(K:aM)(mg:bl)(O:a7)(U:aJ)(b:bH)(c:St)(H:aw)(r:R)(Q:cU):Prop:=
 ∀a v H',Go O a H H'->cI K mg a U b c H'->et K mg a H' r v->ju H r v->Q v H'
inductive px{α:Type}(K:aM)(mg:bl)(m:aJ->M α)(ar:St)(H:aw)(P:a7->aJ->bH->α->Prop):Prop
 |mk (O:a7) (U:aJ) (S:bH) (x:α) (ao:bH) (st:cI K mg O U S ar H) (h:(m U).run S=.ok x ao) (q:P O U ao x):px K mg m ar H P
def fK(K:aM)(mg:bl)(m:bw):TE:=λa H Q=>px K mg m a H λO U b r=>uO K mg O U b a H r Q
def lA(K:aM)(mg:bl)(m:aJ->M Bool):TT:=λc H Q=>px K mg m c H λO U d b=>∀a H',Go O a H H'->cI K mg a U d c H'->Q b H'
abbrev hp(X:aV)(e:Expr)(m:bw):Prop:=bZ X e (fK X.K X.mg m)
abbrev Gp(X:aV)(e:Expr)(m:aJ->M Bool):Prop:=ie X e (lA X.K X.mg m)
abbrev xC(X:aV)(e:Expr)(m:aJ->M Bool):Prop:=lL X e (lA X.K X.mg m)
def i4(K:aM)(mg:bl)(O:a7)(H:aw):List R->List V->Prop
 |[],ys=>ys=[]|x::xs,ys=>∃y r,ys=y::r/\et K mg O H x y/\i4 K mg O H xs r
abbrev c6:=aJ->M (List R)
def oU(K:aM)(mg:bl)(m:c6):fQ:=λb H Q=>px K mg m b H λO U c rs=>∀a vs H',Go O a H H'->cI K mg a U c b H'->i4 K mg a H' rs vs->ku H rs vs->Q vs H'
abbrev Gl(X:aV)(a:List Expr)(m:c6):Prop:=gV X a (oU X.K X.mg m)
def ee{t t':TE}(h:bZ X e t)(i:∀U H Q,t' U H Q->t U H Q):bZ X e t':=λzn s U H Q J q=>h zn s U H Q J (i _ _ _ q)
def rU{t t':TT}(h:ie X e t)(i:∀U H Q,t' U H Q->t U H Q):ie X e t':=λzn s U H Q J q=>h zn s U H Q J (i _ _ _ q)
def OQ{t t':TT}(h:lL X e t)(i:∀U H Q,t' U H Q->t U H Q):lL X e t':=λa zn s U H Q J q=>h a zn s U H Q J (i _ _ _ q)
def Aa{t t':fQ}(h:gV X o t)(i:∀U H Q,t' U H Q->t U H Q):gV X o t':=λpos zn s U H Q J q=>h pos zn s U H Q J (i _ _ _ q)
@[simp] def I(i:Nat)(U:aJ):M R:=match U[i]? with
 |some (.v d)=>pure (.v d)|some (.d9 _ xs)=>pure (.mv xs)|some (.bU xs)=>pure (.bU xs)|_=>bad
def af(d:D):bw:=λ_=>pure (.v d)
section
variable{X:aV}{a b c e:Expr}{cQ cT fT m:bw}{bW:aJ->M Bool}
def u6{v:V}(h:bZ X e (oS v))(r:∀O H,Rep X.K X.mg O H d v):hp X e (af d):=ee h λi H Q f=>by
 obtain⟨O,U,S,j,g,st,h,q⟩:=f;cases h;exact q O v H (Go.refl _ _) st (r O H) trivial
@[simp] def ae(f:R->R->M R)(a b:bw)(U:aJ):M R:=do
 let x <-a U
 let y <-b U
 f x y
def d_(K:aM)(mg:bl)(r:fg)(f:R->R->M R):Prop:=
 ∀O U S J H x y o b5 bx C (Q:cU),cI K mg O U S J H->et K mg O H o x->et K mg O H b5 y->(f o b5).run S=.ok bx C->uO K mg O U C J H bx Q->r x y H Q
def yd{r:fg}(I:d_ K mg r f):∀d H Q,fK K mg (ae f cQ cT) d H Q->xb r (fK K mg cQ) (fK K mg cT) d H Q:=by
 rintro d H Q ⟨O,U,S,E,z,st,h,q⟩;obtain⟨x,S1,t,h⟩:=M.inv h;obtain⟨y,j,u,h⟩:=M.inv h;refine⟨O,U,S,x,S1,st,t,λn G N k s l bu=>?_⟩;refine⟨n,U,S1,y,j,s,u,λB L p i bK A P=>?_⟩;exact I B U j d p G L x y E z Q bK (l.go i) A h λw v H' g F D nn=>q w v H' ((k.trans i).trans g) F D (nn.back (k.trans i).same)
def R.oX:R->M Bool
 |.v (.ax b)=>pure b|_=>bad
@[simp] def aL(m:bw)(U:aJ):M Bool:=do
 let x <-m U
 x.oX
omit [aC.a4]in
theorem uk{r:R}{b:Bool}{S f:bH}(h:r.oX.run S=.ok b f):r=.v (.ax b)/\S=f:=by
 cases r with
 |v d=>cases d<;>cases h<;>exact⟨rfl,rfl⟩
 |fr _=>cases h
 |bU _=>cases h
 |mv _=>cases h
def FQ:∀d H Q,lA K mg (aL m) d H Q->xc (fK K mg m) d H Q:=by
 rintro d H Q ⟨O,U,S,t,l,st,h,q⟩;obtain⟨x,S1,f,h⟩:=M.inv h;obtain⟨rfl,rfl⟩:=uk h;exact⟨O,U,S,_,_,st,f,λi v H' g k j _=>⟨t,j,q i H' g k⟩⟩
def PE{t t':TE}(i:∀U H Q,t' U H Q->t U H Q):∀U H Q,xc t' U H Q->xc t U H Q:=λU H Q q=>i _ _ _ q
@[simp] def eI(f g:R->R->M R)(a b c:bw)(U:aJ):M R:=do
 let x <-a U
 let y <-b U
 let z <-f x y
 let t <-z.oX
 if t=true then do
  let w <-c U
  g y w
 else pure (.v (.ax false))
def I1{r k:fg}(hf:d_ K mg r f)(N:d_ K mg k g):∀d H Q,fK K mg (eI f g cQ cT fT) d H Q->FN r k (fK K mg cQ) (fK K mg cT) (fK K mg fT) d H Q:=by
 rintro d H Q ⟨O,U,S,k,Y,st,h,q⟩;obtain⟨x,S1,R,h⟩:=M.inv h;obtain⟨y,n,T,h⟩:=M.inv h;obtain⟨z,hM,Z,h⟩:=M.inv h;obtain⟨t,sj,C,h⟩:=M.inv h;obtain⟨rfl,rfl⟩:=uk C;refine⟨O,U,S,x,S1,st,R,λI fW H1 g1 P G bu=>?_⟩;refine⟨I,U,S1,y,n,P,T,λo E L u bK p oF=>?_⟩;refine hf o U n d L fW E x y _ _ _ bK (G.go u) p Z λs W J A B j _=>⟨t,j,?_⟩
 have i:=(g1.trans u).trans A
 cases t with
 |false=>
  rw[if_neg akD]at h;cases h;exact nr (q s _ J i B rfl trivial)
 |true=>
  rw[if_pos rfl]at h;obtain⟨w,D,eW,h⟩:=M.inv h;refine nt ⟨s,U,_,w,D,B,eW,λF bU iC l ud rw nw=>?_⟩;exact N F U D d iC E bU y w _ Y Q ud (p.go (A.trans l)) rw h λV v H' g cf j nn=>q V v H' ((i.trans l).trans g) cf j (nn.back (i.trans l).same)
@[simp] def j6(a b:bw)(U:aJ):M R:=do
 let x <-a U
 let t <-x.oX
 if t=true then b U else pure (.v (.ax false))
@[simp] def u3(a:bw)(U:aJ):M R:=do
 let x <-a U
 let t <-x.oX
 pure (.v (.ax (!t)))
@[simp] def gr(a b:aJ->M Bool)(U:aJ):M Bool:=do
 let t <-a U
 if t=true then b U else pure false
@[simp] def gb(a b:aJ->M Bool)(U:aJ):M Bool:=do
 let t <-a U
 if t=true then pure true else b U
@[simp] def ep(a:aJ->M Bool)(U:aJ):M Bool:=do
 let t <-a U
 pure (!t)
def xC.cy(h:xC X a bW):Gp X a bW:=h.pt
end
def rJ(g:Int->Int->Int):R->R->M R
 |.v (.int i),.v (.int j)=>pure (.v (.int (g i j)))|_,_=>bad
def oH(C:Int->Int->Prop)[∀i j,Decidable (C i j)](g:Int->Int->Int):R->R->M R
 |.v (.int i),.v (.int j)=>if C i j then pure (.v (.int (g i j)))else bad|_,_=>bad
def rH(g:Int->Int->Bool):R->R->M R
 |.v (.int i),.v (.int j)=>pure (.v (.ax (g i j)))|_,_=>bad
section
variable{K:aM}{mg:bl}
def ya{g:Int->Int->Int}:d_ K mg (hI λi j=>.int (g i j)) (rJ g):=λO U S e H x y c f k d Q st b a h q=>by
 unfold rJ at h;split at h
 .rename_i i j
  cases h;exact⟨i,j,b,a,q O _ H (Go.refl _ _) st rfl trivial⟩
 .cases h
def sr{C:Int->Int->Prop}{a:Int->Int->Prop}[∀i j,Decidable (a i j)]{g:Int->Int->Int}(e:∀i j,a i j->C i j):d_ K mg (kk C λi j=>.int (g i j)) (oH a g):=λO U S l H x y f m n k Q st d b h q=>by
 unfold oH at h;split at h
 .rename_i i j
  by_cases c:a i j
  .rw[if_pos c]at h
   cases h;exact⟨i,j,d,b,e i j c,q O _ H (Go.refl _ _) st rfl trivial⟩
  .rw[if_neg c]at h;cases h
 .cases h
def x'{g:Int->Int->Bool}:d_ K mg (hI λi j=>.ax (g i j)) (rH g):=λO U S e H x y c f k d Q st b a h q=>by
 unfold rH at h;split at h
 .rename_i i j
  cases h;exact⟨i,j,b,a,q O _ H (Go.refl _ _) st rfl trivial⟩
 .cases h
end
abbrev eN:=rJ (· + ·)
abbrev nD:=rJ (· - ·)
abbrev oMod:=oH (λ_ j=>0<j) (· % ·)
abbrev oI:=oH (λi j=>0<=j/\j<=1000000/\i.natAbs<2 ^ 64) (λi j=>i ^ j.toNat)
abbrev EJ:=oH (λi j=>0<=j/\j<=1000000/\i.natAbs<2 ^ 64) (λi j=>i*2 ^ j.toNat)
abbrev tS:=oH (λ_ j=>0<=j) (λi j=>i / 2 ^ j.toNat)
abbrev rI:=rJ al6
abbrev tP:=rJ anJ
abbrev oLt:=rH λi j=>decide (i<j)
abbrev oLe:=rH λi j=>decide (i<=j)
abbrev qh:=rH λi j=>decide (j<i)
abbrev tR:=rH λi j=>decide (j<=i)
section
variable{X:aV}
def Rp:d_ X.K X.mg (hI λi j=>.int (i+j)) eN:=ya
def RD:d_ X.K X.mg (hI λi j=>.int (i-j)) nD:=ya
def Rx:d_ X.K X.mg (kk (λ_ j=>0<j) λi j=>.int (i % j)) oMod:=sr λ_ _ h=>h
def Rz:d_ X.K X.mg (kk xB λi j=>.int (i ^ j.toNat)) oI:=sr λ_ _ h=>h
def RB:d_ X.K X.mg (kk xB λi j=>.int (i*2 ^ j.toNat)) EJ:=sr λ_ _ h=>h
def RC:d_ X.K X.mg (kk (λ_ j=>0<=j) λi j=>.int (i / 2 ^ j.toNat)) tS:=sr λ_ _ h=>h
def Rq:d_ X.K X.mg (hI λi j=>.int (al6 i j)) rI:=ya
def Rr:d_ X.K X.mg (hI λi j=>.int (anJ i j)) tP:=ya
def BB:d_ X.K X.mg (hI λi j=>.ax (decide (i<j))) oLt:=x'
def qQ:d_ X.K X.mg (hI λi j=>.ax (decide (i<=j))) oLe:=x'
def Rw:d_ X.K X.mg (hI λi j=>.ax (decide (j<i))) qh:=x'
def G0:d_ X.K X.mg (hI λi j=>.ax (decide (j<=i))) tR:=x'
end
@[simp] def bf(f:R->M R)(a:bw)(U:aJ):M R:=do
 let x <-a U
 f x
def R.ft:R->Option (List D)
 |.v (.l xs)=>some xs|.fr xs=>some xs|.bU xs=>some xs|.mv xs=>some xs|_=>none
def R.FT:R->Option (List D)
 |.v (.t xs)=>some xs|_=>none
def R.seq(r:R):Option (List D):=r.ft<|> r.FT
def R.ou{K:aM}{mg:bl}{O:a7}{H:aw}{r:R}{v:V}{xs:List D}(h:et K mg O H r v)(e:r.ft=some xs):∃a ys,v=.ref a/\dt K H a ys/\bj K mg O H xs ys:=by
 unfold R.ft at e;split at e
 .cases e;obtain⟨a,ys,q,l,r⟩:=h;exact⟨a,ys,q,l.cR,r⟩
 .cases e;obtain⟨a,ys,q,l,_,r⟩:=h;exact⟨a,ys,q,dt.of l,r⟩
 .cases e;obtain⟨a,ys,q,l,r⟩:=h;exact⟨a,ys,q,l.cR,r⟩
 .cases e;obtain⟨a,ys,q,l,r⟩:=h;exact⟨a,ys,q,dt.of l,r⟩
 .cases e
def R.afW{K:aM}{mg:bl}{O:a7}{H:aw}{r:R}{v:V}{xs:List D}(h:et K mg O H r v)(e:r.FT=some xs):∃a ys,v=.ref a/\dB K H a ys/\bj K mg O H xs ys:=by
 unfold R.FT at e;split at e
 .cases e;exact h
 .cases e
def R.w5{K:aM}{mg:bl}{O:a7}{H:aw}{r:R}{v:V}{xs:List D}(h:et K mg O H r v)(e:r.seq=some xs):∃a ys,v=.ref a/\(dt K H a ys\/dB K H a ys)/\bj K mg O H xs ys:=by
 unfold R.seq at e
 cases au:r.ft with
 |some b=>rw[au]at e;cases e;obtain⟨a,ys,q,l,r⟩:=R.ou h au;exact⟨a,ys,q,.inl l,r⟩
 |none=>rw[au]at e;obtain⟨a,ys,q,l,r⟩:=R.afW h e;exact⟨a,ys,q,.inr l,r⟩
def bj.dY{O:a7}{i:Int}(h:bj K mg O H ds xs)(e:dY ds i=some d):∃x,aC.dY xs i=some x/\Rep K mg O H d x:=by
 unfold aC.dY at e ⊢;rw[h.len]
 cases q:oj ds.length i with
 |none=>rw[q]at e;cases e
 |some j=>rw[q]at e;exact h.get e
def aH:R->R->M R
 |.v (.str z),.v (.int i)=>match dY z.cps.toList i with
  |some c=>if z.length<=akA then pure (.v (.str ⟨#[c]⟩))else bad|none=>bad
 |x,.v (.int i)=>match x.seq with
  |some xs=>match dY xs i with
   |some d=>pure (.v d)|none=>bad
  |none=>bad
 |_,_=>bad
def g7:d_ K mg (O1 K) aH:=fun O U S ar H x y J b5 bx ao Q st C o h q=>by
 unfold aH at h;split at h
 .rename_i z i
  split at h
  .rename_i c aF
   by_cases hz:z.length<=akA
   .rw[if_pos hz]at h
    cases h;exact .inr (.inr ⟨z,i,c,C,o,hz,aF,q O _ H (Go.refl _ _) st rfl trivial⟩)
   .rw[if_neg hz]at h;cases h
  .cases h
 .rename_i i _
  split at h
  .rename_i xs e
   split at h
   .rename_i d aF
    cases h;obtain⟨a,ys,rfl,l,f⟩:=R.w5 C e;obtain⟨z,cO,g⟩:=bj.dY f aF;have b:=q O z H (Go.refl _ _) st g trivial;rcases l with l|l
    .exact .inl ⟨a,ys,i,z,rfl,o,l,cO,b⟩
    .exact .inr (.inl ⟨a,ys,i,z,rfl,o,l,cO,b⟩)
   .cases h
  .cases h
 .cases h
def ai:c6:=λ_=>pure []
@[simp] def aa(m:bw)(ms:c6)(U:aJ):M (List R):=do
 let x <-m U
 let xs <-ms U
 pure (x::xs)
def R.dat:R->M D
 |.v d=>pure d|.fr xs=>pure (.l xs)|_=>bad
def m8:List R->M (List D)
 |[]=>pure []|r::rs=>do
  let d <-r.dat
  let ds <-m8 rs
  pure (d::ds)
def cM(H₀:aw)(O:a7):a7:=⟨λb=>match H₀ b,O b with
 |none,.dn=>.free| _,o=>o,O.bG⟩
def CQ{H₀:aw}{O:a7}(h:H₀ b≠none):cM H₀ O b=O b:=by
 show(match H₀ b,O b with|none,.dn=>.free|_,o=>o)=O b
 cases e:H₀ b with
 |none=>exact absurd e h|some o=>cases O b<;>rfl
def CR{H₀:aw}{O:a7}(h:H₀ b=none)(t:O b=.dn):cM H₀ O b=.free:=by show(match H₀ b,O b with|none,.dn=>.free|_,o=>o)=Own.free;rw[h,t]
def ra{O:a7}(t:O b≠.dn):cM H₀ O b=O b:=by
 show(match H₀ b,O b with|none,.dn=>.free|_,o=>o)=O b;cases e:H₀ b<;>cases aF:O b<;>first|rfl|exact absurd aF t
def i9(H₀:aw)(O:a7):lI O (cM H₀ O):=⟨λa h=>by rw[ra (by rw[h];intro z;cases z),h],rfl⟩
def jw.da{O b:a7}(g:lI O b)(c:∀a,O a=.out->b a=.out)(hw:∀a,O a=w->b a=w):∀{s:Slot}{u:Option V},jw K mg O H w s u->jw K mg b H w s u
 |.e,_,_=>trivial| .v _,_,h=>by obtain⟨v,q,r⟩:=h;exact⟨v,q,r.da g⟩
 |.d9 _ _,_,h=>by obtain⟨a,ys,q,o,l,r⟩:=h;exact⟨a,ys,q,hw a o,l,r.da g⟩
 |.bU _,_,h=>by
  obtain⟨a,ys,q,l,r⟩:=h;refine⟨a,ys,q,l.imp (λz=>⟨z.1,z.2.imp (g.fr a) (c a)⟩) id,r.da g⟩
section
variable{K:aM}{mg:bl}{O:a7}{U:aJ}{S:bH}{ar:St}{H H₀:aw}
def cI.cM(h:cI K mg O U S ar H)(H₀:aw):cI K mg (cM H₀ O) U S ar H:=
  ⟨⟨λa b=>h.cu.has a λz=>b (by rw[ra (by rw[z];intro w;cases w),z]),h.cu.tabs,h.cu.cc.1,λa m=>by rw[ra (by rw[h.cu.cc.2 a m];intro w;cases w)];exact h.cu.cc.2 a m⟩,h.len,
   λi s e=>(h.loc i s e).da (i9 _ _) (λa z=>by rw[ra (by rw[z];intro w;cases w),z]) (λa z=>by rw[ra (by rw[z];intro w;cases w),z]),h.gD.all (λ_ _ z=>Rep.da (i9 _ _) z) rfl λ_ _ _ l _=>l⟩
def Go.cM{c:a7}(g:Go c O H₀ H):Go c (cM H₀ O) H₀ H:=⟨g.same,λb a=>(CQ a).trans (g.own b a),g.bG⟩
def qY{r:R}{v:V}(aD:et K mg O H r v)(aA:ju H₀ r v)(h:r.dat.run S=.ok d o):Rep K mg (aE.cM H₀ O) H d v/\S=o:=by
 cases r with
 |v d'=>cases h;exact⟨Rep.da (i9 _ _) aD,rfl⟩
 |fr xs=>
  cases h;obtain⟨a,ys,rfl,l,t,b⟩:=aD;exact⟨⟨a,ys,rfl,⟨l,CR (aA a rfl) t⟩,bj.da (i9 _ _) b⟩,rfl⟩
 |bU xs=>cases h
 |mv xs=>cases h
theorem Cs:∀{rs:List R}{vs:List V}{ds:List D}{S a:bH},i4 K mg O H rs vs->ku H₀ rs vs->(m8 rs).run S=.ok ds a->bj K mg (aE.cM H₀ O) H ds vs/\S=a
 |[],vs,ds,S,a,aD,_,h=>by cases h;exact⟨aD,rfl⟩
 |r::rs,vs,ds,S,a,aD,aA,h=>by
  obtain⟨d,S1,b,h⟩:=M.inv h;obtain⟨j,i,c,h⟩:=M.inv h;cases h;obtain⟨v,g,rfl,f,e⟩:=aD;obtain⟨br,rfl⟩:=qY (H₀:=H₀) f aA.1 b;obtain⟨bS,rfl⟩:=Cs e aA.2 c;exact⟨⟨v,g,rfl,br,bS⟩,rfl⟩
end
@[simp] def bO(ms:c6)(U:aJ):M R:=do
 let rs <-ms U
 let ds <-m8 rs
 hx (ds.length<=1000)
 pure (.v (.t ds))
@[simp] def eu(ms:c6)(U:aJ):M R:=do
 let rs <-ms U
 let ds <-m8 rs
 hx (ds.length<=1000)
 pure (.fr ds)
@[simp] def cJ(f:List R->M R)(ms:c6)(U:aJ):M R:=do
 let rs <-ms U
 f rs
def kZ(K:aM)(mg:bl)(r:List V->aw->cU->Prop)(f:List R->M R):Prop:=
 ∀O U S C H xs rs J o (Q:cU),cI K mg O U S C H->i4 K mg O H rs xs->(f rs).run S=.ok J o->uO K mg O U o C H J Q->r xs H Q
section
variable{ms:c6}{r:List V->aw->cU->Prop}{f:List R->M R}
def I2(t:kZ K mg r f):∀a H Q,fK K mg (cJ f ms) a H Q->FL r (oU K mg ms) a H Q:=by
 rintro a H Q ⟨O,U,S,p,m,st,h,q⟩;obtain⟨rs,S1,k,h⟩:=M.inv h;refine⟨O,U,S,rs,S1,st,k,λi vs e b j n nn=>?_⟩;exact t i U S1 a e vs rs p m Q j n h λl v H' g s d c=>q l v H' (b.trans g) s d (c.back b.same)
end
def fS:List R->M R
 |[x]=>match x.seq with
  |some xs=>pure (.v (.int (xs.length:Nat)))|none=>bad
 |_=>bad
def nc:List R->M R
 |[.v (.str z)]=>if z.length<=akA then pure (.v (.int (z.length:Nat)))else bad|_=>bad
def R.kind:R->Option String
 |.v .aI=>some "NoneType"|.v (.ax _)=>some "bool"|.v (.int _)=>some "int"|.v (.str _)=>some "str"|.v (.t _)=>some "tuple"|.v (.l _)=>some "list"|.fr _=>some "list"|.bU _=>some "list"|.mv _=>some "list"|_=>none
def gY:List R->M R
 |[x,.v (.ty n)]=>match x.kind with
  |some t=>if n∈["int","bool","tuple","list","str"]then pure (.v (.ax (vM t n)))else bad|none=>bad
 |_=>bad
def q8(g:Int->Int->Int):List R->M R
 |[.v (.int i),.v (.int j)]=>pure (.v (.int (g i j)))|_=>bad
abbrev Uc:=q8 λi j=>if j > i then j else i
abbrev Ud:=q8 λi j=>if j<i then j else i
def vg:List R->M R
 |[.v (.int i)]=>pure (.v (.int (if i<0 then -i else i)))|_=>bad
def lT:List D->Option (List Bool)
 |[]=>some []|.ax b::r=>(lT r).map (b::·)|_=>none
def vh:List R->M R
 |[x]=>match x.ft.bind lT with
  |some bs=>pure (.v (.ax (bs.any id)))|none=>bad
 |_=>bad
def n7:List R->M R
 |[x]=>match x.ft.bind lT with
  |some bs=>pure (.v (.ax (bs.all id)))|none=>bad
 |_=>bad
def vi:List R->M R
 |[x]=>match x.seq with
  |some xs=>pure (.fr xs)|none=>bad
 |_=>bad
def pP:List R->M R
 |[x]=>match x.seq with
  |some xs=>pure (.v (.t xs))|none=>bad
 |_=>bad
section
variable{K:aM}{mg:bl}
def kR{O:a7}{r:R}(h:i4 K mg O H [r] vs):∃v,vs=[v]/\et K mg O H r v:=by
 obtain⟨v,c,rfl,a,b⟩:=h;cases b;exact⟨v,rfl,a⟩
def Fi{O:a7}{r s:R}(h:i4 K mg O H [r,s] vs):∃v u,vs=[v,u]/\et K mg O H r v/\et K mg O H s u:=by
 obtain⟨v,f,rfl,a,b⟩:=h;obtain⟨u,e,rfl,c,d⟩:=b;cases d;exact⟨v,u,rfl,a,c⟩
def YU:kZ K mg (λxs H Q=>∃p ys,xs=[.ref p]/\(dt K H p ys\/dB K H p ys)/\Q (.int ys.length) H) fS:=λO U S f H vs rs g d Q st aD h q=>by
 unfold fS at h;split at h
 .rename_i x
  obtain⟨v,rfl,b⟩:=kR aD;split at h
  .rename_i xs e
   cases h;obtain⟨a,ys,rfl,l,c⟩:=R.w5 b e;exact⟨a,ys,rfl,l,by rw[c.len];exact q O _ H (Go.refl _ _) st rfl trivial⟩
  .cases h
 .cases h
def YV:kZ K mg (λxs H Q=>∃z,xs=[.str z]/\z.length<=akA/\Q (.int z.length) H) nc:=λO U S c H vs rs d b Q st aD h q=>by
 unfold nc at h;split at h
 .rename_i z
  obtain⟨v,rfl,a⟩:=kR aD;cases(show v=.str z from a)
  by_cases hz:z.length<=akA
  .rw[if_pos hz]at h
   cases h;exact⟨z,rfl,hz,q O _ H (Go.refl _ _) st rfl trivial⟩
  .rw[if_neg hz]at h;cases h
 .cases h
def R.Za{O:a7}{H:aw}{r:R}{v:V}{t:String}(h:et K mg O H r v)(e:r.kind=some t):mU K H v t:=by
 unfold R.kind at e;split at e
 .cases e;cases h;exact .aI
 .cases e;cases h;exact .ax _
 .cases e;cases h;exact .int _
 .cases e;cases h;exact .str _
 .cases e;obtain⟨a,ys,rfl,l,_⟩:=h;exact .t l
 .cases e;obtain⟨a,ys,rfl,l,_⟩:=h;exact .l l.cR
 .cases e;obtain⟨a,ys,rfl,l,_⟩:=h;exact .l (dt.of l)
 .cases e;obtain⟨a,ys,rfl,l,_⟩:=h;exact .l l.cR
 .cases e;obtain⟨a,ys,rfl,l,_⟩:=h;exact .l (dt.of l)
 .cases e
def YT:kZ K mg (O0 K) gY:=fun O U S C H vs rs J o Q st aD h q=>by
 unfold gY at h;split at h
 .rename_i x n
  obtain⟨v,u,rfl,b,a⟩:=Fi aD;cases(show u=.ty n from a);split at h
  .rename_i t e
   by_cases aA:n∈["int","bool","tuple","list","str"]
   .rw[if_pos aA]at h
    cases h;exact⟨v,n,t,rfl,R.Za b e,aA,q O _ H (Go.refl _ _) st rfl trivial⟩
   .rw[if_neg aA]at h;cases h
  .cases h
 .cases h
def MT{g:Int->Int->Int}:kZ K mg (λxs H Q=>∃i j,xs=[.int i,.int j]/\Q (.int (g i j)) H) (q8 g):=λO U S d H vs rs e c Q st aD h q=>by
 unfold q8 at h;split at h
 .rename_i i j
  obtain⟨v,u,rfl,b,a⟩:=Fi aD;cases(show v=.int i from b);cases(show u=.int j from a);cases h;exact⟨i,j,rfl,q O _ H (Go.refl _ _) st rfl trivial⟩
 .cases h
def YQ:kZ K mg (λxs H Q=>∃i,xs=[.int i]/\Q (.int (if i<0 then -i else i)) H) vg:=λO U S c H vs rs d b Q st aD h q=>by
 unfold vg at h;split at h
 .rename_i i
  obtain⟨v,rfl,a⟩:=kR aD;cases(show v=.int i from a);cases h;exact⟨i,rfl,q O _ H (Go.refl _ _) st rfl trivial⟩
 .cases h
theorem B2{O:a7}:∀{ds:List D}{ys:List V}{bs:List Bool},bj K mg O H ds ys->lT ds=some bs->ys=bs.map V.ax
 |[],ys,bs,h,e=>by cases e;exact h
 |d::ds,ys,bs,h,e=>by
  cases d with
  |ax b=>
   have e:(lT ds).map (b::·)=some bs:=e;obtain⟨cs,au,rfl⟩:=anD.mp e;obtain⟨y,r,rfl,a,c⟩:=h;rw[B2 c au,show y=.ax b from a];rfl
  |_=>exact absurd (show(none:Option (List Bool))=some bs from e) (by intro z;cases z)
def YS:kZ K mg (λxs H Q=>∃(l:Addr)(bs:List Bool),xs=[.ref l]/\dt K H l (bs.map V.ax)/\Q (.ax (bs.any id)) H) vh:=λO U S f H vs rs g d Q st aD h q=>by
 unfold vh at h;split at h
 .rename_i x
  obtain⟨v,rfl,b⟩:=kR aD;split at h
  .rename_i xs e
   cases h;obtain⟨i,au,aF⟩:=aoX.mp e;obtain⟨a,ys,rfl,l,c⟩:=R.ou b au;rw[B2 c aF]at l;exact⟨a,xs,rfl,l,q O _ H (Go.refl _ _) st rfl trivial⟩
  .cases h
 .cases h
def YR:kZ K mg (λxs H Q=>∃(l:Addr)(bs:List Bool),xs=[.ref l]/\dt K H l (bs.map V.ax)/\Q (.ax (bs.all id)) H) n7:=λO U S f H vs rs g d Q st aD h q=>by
 unfold n7 at h;split at h
 .rename_i x
  obtain⟨v,rfl,b⟩:=kR aD;split at h
  .rename_i xs e
   cases h;obtain⟨i,au,aF⟩:=aoX.mp e;obtain⟨a,ys,rfl,l,c⟩:=R.ou b au;rw[B2 c aF]at l;exact⟨a,xs,rfl,l,q O _ H (Go.refl _ _) st rfl trivial⟩
  .cases h
 .cases h
def YW:kZ K mg (λxs H Q=>∃p ys,xs=[.ref p]/\(dt K H p ys\/dB K H p ys)/\∀l,H l=none->Q (.ref l) (upd H l (.l ys))) vi:=λO U S j H vs rs k i Q st aD h q=>by
 unfold vi at h;split at h
 .rename_i x
  obtain⟨v,rfl,d⟩:=kR aD;split at h
  .rename_i xs e
   cases h;obtain⟨a,ys,rfl,l,f⟩:=R.w5 d e;refine⟨a,ys,rfl,l,λp c=>q (fV O p .dn) _ _ (Go.new c) (st.new c) ⟨p,ys,rfl,dZ,lC,f.go (Go.new c)⟩ λb g=>?_⟩;cases g;exact c
  .cases h
 .cases h
def zd:kZ K mg (λxs H Q=>∃p ys,xs=[.ref p]/\((dt K H p ys/\∀l,H l=none->Q (.ref l) (upd H l (.t ys)))\/(dB K H p ys/\Q (.ref p) H))) pP:=λO U S g H vs rs i f Q st aD h q=>by
 unfold pP at h;split at h
 .rename_i x
  obtain⟨v,rfl,d⟩:=kR aD;split at h
  .rename_i xs e
   cases h;obtain⟨a,ys,rfl,l,c⟩:=R.w5 d e;refine⟨a,ys,rfl,?_⟩;rcases l with l|l
   .exact .inl ⟨l,λp b=>q O _ _ (Go.hh b) (st.hh b) ⟨p,ys,rfl,dB.of dZ,c.go (Go.hh b)⟩ trivial⟩
   .exact .inr ⟨l,q O _ _ (Go.refl _ _) st ⟨a,ys,rfl,l,c⟩ trivial⟩
  .cases h
 .cases h
end
def cutD{α:Type}(xs:List α)(lo hi:Option Int):List α:=(xs.drop (c1.cv xs.length 0 lo)).take (c1.cv xs.length xs.length hi-c1.cv xs.length 0 lo)
def bj.cut{O:a7}(h:bj K mg O H ds xs)(lo hi:Option Int):bj K mg O H (cutD ds lo hi) (pG xs lo hi):=by
 unfold cutD pG;rw[h.len];exact(h.drop _).take _
abbrev lK:=aJ->M (Option Int)
def afP(K:aM)(mg:bl)(m:lK):dO:=λc H Q=>px K mg m c H λO U d b=>∀a H',Go O a H H'->cI K mg a U d c H'->Q b H'
abbrev Qw(X:aV)(e:Option Expr)(m:lK):Prop:=uN X e (afP X.K X.mg m)
def lV:lK:=λ_=>pure none
@[simp] def m6(m:bw)(U:aJ):M (Option Int):=do
 let r <-m U
 match r with
 |.v (.int i)=>pure (some i)|_=>bad
def oJ(x:R)(lo hi:Option Int):M R:=
 match x with
 |.v (.t xs)=>if c1.cv xs.length 0 lo=0/\c1.cv xs.length xs.length hi=xs.length then bad else pure (.v (.t (cutD xs lo hi)))|_=>match x.ft with
  |some xs=>pure (.fr (cutD xs lo hi))|none=>bad
@[simp] def yh(a:bw)(lo hi:lK)(U:aJ):M R:=do
 let x <-a U
 let l <-lo U
 let h <-hi U
 oJ x l h
def R.own:R->Option (List D)
 |.v (.l xs)=>some xs|.fr xs=>some xs|.mv xs=>some xs|_=>none
def wH(x y:R):M R:=match x.own,y.own with
 |some xs,some ys=>if xs.length+ys.length<=akA then pure (.fr (xs++ys))else bad|_,_=>bad
def oG:R->R->M R
 |.v (.str x),.v (.str y)=>if x.length+y.length<=akA then pure (.v (.str (x++y)))else bad|_,_=>bad
def R.z'{K:aM}{mg:bl}{O:a7}{H:aw}{r:R}{v:V}{xs:List D}(h:et K mg O H r v)(e:r.own=some xs):∃a ys,v=.ref a/\H a=some (.l ys)/\bj K mg O H xs ys:=by
 unfold R.own at e;split at e
 .cases e;obtain⟨a,ys,q,l,r⟩:=h;exact⟨a,ys,q,l.1,r⟩
 .cases e;obtain⟨a,ys,q,l,_,r⟩:=h;exact⟨a,ys,q,l,r⟩
 .cases e;obtain⟨a,ys,q,l,r⟩:=h;exact⟨a,ys,q,l,r⟩
 .cases e
section
variable{K:aM}{mg:bl}
def Rt:d_ K mg OW wH:=fun O U S ar H x y C b5 bx ao Q st J o h q=>by
 unfold wH at h
 cases au:C.own with
 |none=>rw[au]at h;cases h
 |some xs=>
  cases aF:b5.own with
  |none=>rw[au,aF]at h;cases h
  |some ys=>
   rw[au,aF]at h;dsimp only at h
   by_cases hl:xs.length+ys.length<=akA
   .rw[if_pos hl]at h
    cases h;obtain⟨a,us,rfl,f,e⟩:=R.z' J au;obtain⟨b,j,rfl,i,d⟩:=R.z' o aF;refine⟨a,b,us,j,rfl,rfl,f,i,by rw[e.len,d.len];exact hl,λp c=>q (fV O p .dn) _ _ (Go.new c) (st.new c) ⟨p,_,rfl,dZ,lC,(e.append d).go (Go.new c)⟩ λb g=>?_⟩;cases g;exact c
   .rw[if_neg hl]at h;cases h
def Ru:d_ K mg (λx y H Q=>∃i j,x=.str i/\y=.str j/\i.length+j.length<=akA/\Q (.str (i++j)) H) oG:=λO U S e H x y c f g d Q st b a h q=>by
 unfold oG at h;split at h
 .rename_i i j
  by_cases hl:i.length+j.length<=akA
  .rw[if_pos hl]at h
   cases h;exact⟨i,j,b,a,hl,q O _ H (Go.refl _ _) st rfl trivial⟩
  .rw[if_neg hl]at h;cases h
 .cases h
end
def D.py:D->PyData
 |.aI=>.none|.ax b=>.bool b|.int i=>.int i|.str x=>.str x|.t xs=>.tuple (lx xs)|.l xs=>.list (lx xs)|.ref _=>.none|.fn _=>.none|.ty _=>.none
where lx:List D->List PyData
 |[]=>[]
 |x::xs=>x.py::lx xs
mutual
def D.b3:D->Nat->Bool
 |.aI,_=>true|.ax _,_=>true|.int _,_=>true|.str x,_=>akW x|.t xs,n=>match n with
  |0=>false|k+1=>hy xs k
 |.l xs,n=>match n with
  |0=>false|k+1=>hy xs k
 |.ref _,_=>false|.fn _,_=>false|.ty _,_=>false
def hy:List D->Nat->Bool
 |[],_=>true|x::xs,n=>x.b3 n&&hy xs n
end
mutual
def eT:D->D->Bool
 |.aI,b=>match b with|.aI=>true|_=>false
 |.ax a,b=>match b with|.ax c=>a==c|.int j=>(if a then 1 else 0)==j|_=>false
 |.int i,b=>match b with|.ax c=>i==(if c then 1 else 0)|.int j=>i==j|_=>false
 |.str x,b=>match b with|.str y=>x==y|_=>false
 |.t xs,b=>match b with|.t ys=>oL xs ys|_=>false
 |.l xs,b=>match b with|.l ys=>oL xs ys|_=>false
 |.ref _,_=>false|.fn _,_=>false|.ty _,_=>false
def oL:List D->List D->Bool
 |[],ys=>match ys with|[]=>true|_=>false
 |x::xs,ys=>match ys with|[]=>false|y::r=>eT x y&&oL xs r
end
mutual
theorem CD:∀(a b:D)(n m:Nat),a.b3 n=true->b.b3 m=true->apd a.py b.py=eT a b
 |.aI,b,n,m,C,o=>by cases b<;>first|rfl|(simp[D.b3]at o)
 |.ax _,b,n,m,C,o=>by cases b<;>first|rfl|(simp[D.b3]at o)
 |.int _,b,n,m,C,o=>by cases b<;>first|rfl|(simp[D.b3]at o)
 |.str _,b,n,m,C,o=>by cases b<;>first|rfl|(simp[D.b3]at o)
 |.t xs,b,n,m,C,o=>by
  cases b with
  |t ys=>
   cases n with
   |zero=>simp[D.b3]at C|succ k=>
    cases m with
    |zero=>simp[D.b3]at o|succ j=>exact CE xs ys k j C o
  |ref _=>simp[D.b3]at o|fn _=>simp[D.b3]at o|ty _=>simp[D.b3]at o|_=>rfl
 |.l xs,b,n,m,C,o=>by
  cases b with
  |l ys=>
   cases n with
   |zero=>simp[D.b3]at C|succ k=>
    cases m with
    |zero=>simp[D.b3]at o|succ j=>exact CE xs ys k j C o
  |ref _=>simp[D.b3]at o|fn _=>simp[D.b3]at o|ty _=>simp[D.b3]at o|_=>rfl
 |.ref _,b,n,m,C,o=>by simp[D.b3]at C| .fn _,b,n,m,C,o=>by simp[D.b3]at C| .ty _,b,n,m,C,o=>by simp[D.b3]at C
theorem CE:∀(xs ys:List D)(n m:Nat),hy xs n=true->hy ys m=true->PyData.eqvAll (D.py.lx xs) (D.py.lx ys)=oL xs ys
 |[],ys,n,m,C,o=>by cases ys<;>rfl
 |x::xs,ys,n,m,C,o=>by
  cases ys with
  |nil=>rfl|cons y r=>
   rw[hy,ak0]at C o;show(apd x.py y.py&&PyData.eqvAll (D.py.lx xs) (D.py.lx r))=(eT x y&&oL xs r);rw[CD x y n m C.1 o.1,CE xs r n m C.2 o.2]
end
mutual
theorem LK:∀(a:D)(n:Nat),a.b3 n=true->a.py.canLay0=true/\a.py.depth<=n
 |.aI,n,h=>⟨rfl,alh _⟩
 |.ax _,n,h=>⟨rfl,alh _⟩
 |.int _,n,h=>⟨rfl,alh _⟩
 |.str _,n,h=>⟨h,alh _⟩
 |.t xs,n,h=>by
  cases n with
  |zero=>simp[D.b3]at h|succ k=>obtain⟨br,bS⟩:=CZ xs k h;exact⟨br,Nat.succ_le_succ bS⟩
 |.l xs,n,h=>by
  cases n with
  |zero=>simp[D.b3]at h|succ k=>obtain⟨br,bS⟩:=CZ xs k h;exact⟨br,Nat.succ_le_succ bS⟩
 |.ref _,n,h=>by simp[D.b3]at h| .fn _,n,h=>by simp[D.b3]at h| .ty _,n,h=>by simp[D.b3]at h
theorem CZ:∀(xs:List D)(n:Nat),hy xs n=true->PyData.canLayAll0 (D.py.lx xs)=true/\PyData.depthAll (D.py.lx xs)<=n
 |[],n,h=>⟨rfl,alh _⟩
 |x::xs,n,h=>by
  rw[hy,ak0]at h;obtain⟨a1,a2⟩:=LK x n h.1;obtain⟨a,b⟩:=CZ xs n h.2;exact⟨by show(x.py.canLay0&&PyData.canLayAll0 (D.py.lx xs))=true;rw[a1,a];rfl,by show max x.py.depth (PyData.depthAll (D.py.lx xs))<=n;omega⟩
end
def yI{a:D}(h:a.b3 64=true):apr a.py=true:=by
 obtain⟨b,c⟩:=LK a 64 h;show(a.py.canLay0&&decide (a.py.depth<=64))=true;rw[b,decide_eq_true c];rfl
mutual
theorem Rep.py{O:a7}:∀{d:D}{v:V}{n:Nat},d.b3 n=true->Rep K mg O H d v->aC.Rep K H d.py v
 |.aI,_,_,_,h=>h|.ax _,_,_,_,h=>h|.int _,_,_,_,h=>h|.str _,_,_,_,h=>h|.t _,_,n,g,h=>by
  cases n with
  |zero=>simp[D.b3]at g|succ k=>obtain⟨a,ys,q,l,r⟩:=h;exact⟨a,ys,q,l,bj.py (n:=k) g r⟩
 |.l _,_,n,g,h=>by
  cases n with
  |zero=>simp[D.b3]at g|succ k=>obtain⟨a,ys,q,l,r⟩:=h;exact⟨a,ys,q,l.cR,bj.py (n:=k) g r⟩
 |.ref _,_,_,g,h=>by simp[D.b3]at g| .fn _,_,_,g,h=>by simp[D.b3]at g| .ty _,_,_,g,h=>by simp[D.b3]at g
theorem bj.py{O:a7}:∀{ds:List D}{ys:List V}{n:Nat},hy ds n=true->bj K mg O H ds ys->aC.bj K H (D.py.lx ds) ys
 |[],_,_,_,h=>h|_::_,_,n,g,h=>by
  rw[hy,ak0]at g;obtain⟨x,r,q,a,b⟩:=h;exact⟨x,r,q,Rep.py g.1 a,bj.py g.2 b⟩
end
def R.arg:R->D
 |.v d=>d|.fr xs=>.l xs|.bU xs=>.l xs|.mv xs=>.l xs
def R.x1{K:aM}{mg:bl}{O:a7}{H:aw}{r:R}{v:V}{n:Nat}(g:r.arg.b3 n=true)(h:et K mg O H r v):aC.Rep K H r.arg.py v:=by
 have ft:∀xs,r.ft=some xs->(D.l xs).b3 n=true->aC.Rep K H (D.l xs).py v:=λxs e g=>by
  obtain⟨a,ys,q,l,b⟩:=R.ou h e
  cases n with
  |zero=>simp[D.b3]at g|succ k=>exact⟨a,ys,q,l,bj.py (n:=k) g b⟩
 cases r with
 |v d=>exact Rep.py g h|fr xs=>exact ft xs rfl g|bU xs=>exact ft xs rfl g|mv xs=>exact ft xs rfl g
def oEq(x y:R):M R:=if x.arg.b3 64=true/\y.arg.b3 64=true then pure (.v (.ax (eT x.arg y.arg)))else bad
def dI(x y:R):M R:=if x.arg.b3 64=true/\y.arg.b3 64=true then pure (.v (.ax (!eT x.arg y.arg)))else bad
section
variable{K:aM}{mg:bl}
def BA:d_ K mg (Ah K false) oEq:=λO U S g H x y b e i f Q st d a h q=>by
 unfold oEq at h
 by_cases c:b.arg.b3 64=true/\e.arg.b3 64=true
 .rw[if_pos c]at h
  cases h;refine⟨_,_,R.x1 c.1 d,R.x1 c.2 a,yI c.1,yI c.2,?_⟩;rw[if_neg akD,CD _ _ _ _ c.1 c.2];exact q O _ H (Go.refl _ _) st rfl trivial
 .rw[if_neg c]at h;cases h
def sq:d_ K mg (Ah K true) dI:=λO U S g H x y b e i f Q st d a h q=>by
 unfold dI at h
 by_cases c:b.arg.b3 64=true/\e.arg.b3 64=true
 .rw[if_pos c]at h
  cases h;refine⟨_,_,R.x1 c.1 d,R.x1 c.2 a,yI c.1,yI c.2,?_⟩;rw[if_pos rfl,CD _ _ _ _ c.1 c.2];exact q O _ H (Go.refl _ _) st rfl trivial
 .rw[if_neg c]at h;cases h
end
def R.kb:R->Bool
 |.v .aI=>true|_=>false
def h4(x:R):R->M R
 |.v .aI=>pure (.v (.ax x.kb))|_=>bad
def hF(x:R):R->M R
 |.v .aI=>pure (.v (.ax (!x.kb)))|_=>bad
section
variable{K:aM}{mg:bl}
def ML{O:a7}{r:R}{v:V}(h:et K mg O H r v):decide (v=.aI)=r.kb:=by
 have no:∀{a:Addr},v=.ref a->decide (v=.aI)=false:=λ{a} e=>by rw[e];exact decide_eq_false (by intro z;cases z)
 cases r with
 |v d=>
  cases d with
  |aI=>exact decide_eq_true h|ax _=>rw[show v=_ from h];rfl|int _=>rw[show v=_ from h];rfl|str _=>rw[show v=_ from h];rfl|ty _=>rw[show v=_ from h];rfl|t _=>obtain⟨a,_,e,_⟩:=h;exact no e
  |l _=>obtain⟨a,_,e,_⟩:=h;exact no e
  |ref _=>obtain⟨a,e,_⟩:=h;exact no e
  |fn _=>obtain⟨a,e,_⟩:=h;exact no e
 |fr _=>obtain⟨a,_,e,_⟩:=h;exact no e
 |bU _=>obtain⟨a,_,e,_⟩:=h;exact no e
 |mv _=>obtain⟨a,_,e,_⟩:=h;exact no e
def G3:d_ K mg (λx y H Q=>y=.aI/\Q (.ax (decide (x=.aI))) H) h4:=λO U S e H x y c f g d Q st b a h q=>by
 unfold h4 at h;split at h
 .cases h;exact⟨a,by rw[ML b];exact q O _ H (Go.refl _ _) st rfl trivial⟩
 .cases h
def G4:d_ K mg (λx y H Q=>y=.aI/\Q (.ax (!decide (x=.aI))) H) hF:=λO U S e H x y c f g d Q st b a h q=>by
 unfold hF at h;split at h
 .cases h;exact⟨a,by rw[ML b];exact q O _ H (Go.refl _ _) st rfl trivial⟩
 .cases h
end
def D.flat:D->Bool
 |.aI=>true|.ax _=>true|.int _=>true|.str _=>true|_=>false
def inD(x:D)(xs:List D):Bool:=xs.any λy=>eT y x
def kO(neg:Bool)(x y:R):M R:=match x,y.seq with
 |.v d,some xs=>if d.flat=true/\xs.all D.flat=true then pure (.v (.ax (if neg then !inD d xs else inD d xs)))else bad|_,_=>bad
section
variable{K:aM}{mg:bl}
def Lx{O:a7}{d:D}{v:V}(h:Rep K mg O H d v)(f:d.flat=true):nd v=true:=by
 cases d with
 |aI=>rw[show v=_ from h];rfl|ax _=>rw[show v=_ from h];rfl|int _=>rw[show v=_ from h];rfl|str _=>rw[show v=_ from h];rfl|_=>exact absurd (show false=true from f) akD
def T5{O:a7}{d e:D}{v u:V}(h:Rep K mg O H d v)(h':Rep K mg O H e u)(f:d.flat=true)(a:e.flat=true):m_ v u=eT d e:=by
 cases d with
 |aI=>
  rw[show v=_ from h]
  cases e with
  |aI=>rw[show u=_ from h'];rfl|ax _=>rw[show u=_ from h'];rfl|int _=>rw[show u=_ from h'];rfl|str _=>rw[show u=_ from h'];rfl|_=>exact absurd (show false=true from a) akD
 |ax _=>
  rw[show v=_ from h]
  cases e with
  |aI=>rw[show u=_ from h'];rfl|ax _=>rw[show u=_ from h'];rfl|int _=>rw[show u=_ from h'];rfl|str _=>rw[show u=_ from h'];rfl|_=>exact absurd (show false=true from a) akD
 |int _=>
  rw[show v=_ from h]
  cases e with
  |aI=>rw[show u=_ from h'];rfl|ax _=>rw[show u=_ from h'];rfl|int _=>rw[show u=_ from h'];rfl|str _=>rw[show u=_ from h'];rfl|_=>exact absurd (show false=true from a) akD
 |str _=>
  rw[show v=_ from h]
  cases e with
  |aI=>rw[show u=_ from h'];rfl|ax _=>rw[show u=_ from h'];rfl|int _=>rw[show u=_ from h'];rfl|str _=>rw[show u=_ from h'];rfl|_=>exact absurd (show false=true from a) akD
 |_=>exact absurd (show false=true from f) akD
theorem MH{O:a7}{d:D}{v:V}(h:Rep K mg O H d v)(f:d.flat=true):∀{ds:List D}{ys:List V},bj K mg O H ds ys->ds.all D.flat=true->ys.all nd=true/\DI v ys=inD d ds
 |[],ys,r,_=>by cases r;exact⟨rfl,rfl⟩
 |e::ds,ys,r,g=>by
  obtain⟨y,t,rfl,a,b⟩:=r;rw[anf,ak0]at g;obtain⟨br,bS⟩:=MH h f b g.2;refine⟨by rw[anf,Lx a g.1,br];rfl,?_⟩;show(y::t).any (λz=>m_ z v)=(e::ds).any λz=>eT z d
  rw[aox,aox,T5 a h g.1 f];exact congrArg _ bS
def G1(neg:Bool):d_ K mg (OZ K neg) (kO neg):=λO U S n H x y k p r m Q st b f h q=>by
 unfold kO at h;split at h
 .rename_i d xs e
  by_cases c:d.flat=true/\xs.all D.flat=true
  .rw[if_pos c]at h
   cases h;obtain⟨a,ys,rfl,l,g⟩:=R.w5 f e;obtain⟨i,j⟩:=MH b c.1 g c.2;exact⟨a,ys,rfl,l,Lx b c.1,i,by rw[j];exact q O _ H (Go.refl _ _) st rfl trivial⟩
  .rw[if_neg c]at h;cases h
 .cases h
end
inductive fY where
 |bu (U:aJ)|cx (r:R)|bk (U:aJ)|cy (U:aJ)
abbrev aP:=aJ->M fY
def Fix(o:gJ):Prop:=(∃xs,o=.t xs)\/∃bb u,o=.cM bb u
structure ea(O ak:a7)(H H':aw):Prop where
 cells:∀b o,H b=some o->(O b=.free\/O b=.out\/Fix o)->(h:oD o:=by exact trivial)->H' b=some o
 own:∀b,H b≠none->(O b=.free\/O b=.out)->ak b=O b
 has:∀b,H b≠none->H' b≠none
 cC:∀b ps,H b=some (.gc ps)->∃lu,H' b=some (.gc lu)
 b3:TabsOk H->TabsOk H'
 bG:ak.bG=O.bG
def Go.b0{O a:a7}(g:Go O a H H'):ea O a H H':=⟨λb o e _ n=>g.same.at' b o e n,λb h _=>g.own b h,λ_ h=>g.same.some h,g.same.cC,g.same.b3,g.bG⟩
def ea.refl(O:a7)(H:aw):ea O O H H:=(Go.refl O H).b0
def ea.trans{O i j:a7}(a:ea O i H H1)(b:ea i j H1 C):ea O j H C:=by
 have d:∀{b:Addr}{o:gJ},H b=some o->H b≠none:=λe z=>by rw[e]at z;cases z
 refine⟨λc o e h n=>?_,λc h f=>?_,λc h=>b.has c (a.has c h),λc ps h=>let⟨p1,au⟩:=a.cC c ps h;b.cC c p1 au,λg=>b.b3 (a.b3 g),b.bG.trans a.bG⟩
 .have au:=a.cells c o e h n
  rcases h with h|h|h
  .exact b.cells c o au (.inl ((a.own c (d e) (.inl h)).trans h)) n
  .exact b.cells c o au (.inr (.inl ((a.own c (d e) (.inr h)).trans h))) n
  .exact b.cells c o au (.inr (.inr h)) n
 .have au:=a.own c h f
  rw[b.own c (a.has c h) (by rw[au];exact f),au]
def fw(U U':aJ)(a b:St):Prop:=(∀(i:Nat)(xs:List D),U'[i]? = some (Slot.bU xs)->U[i]? = some (Slot.bU xs)/\b[i]? = a[i]?)/\
 (∀(i:Nat)(ys:List D),U'[i]? = some (Slot.d9 true ys)->(∃xs,U[i]? = some (Slot.d9 true xs))/\b[i]? = a[i]?)
def fw.refl(U:aJ)(a:St):fw U U a a:=⟨λ_ _ h=>⟨h,rfl⟩,λ_ _ h=>⟨⟨_,h⟩,rfl⟩⟩
def fw.trans{v c d:St}(a:fw U C v c)(b:fw C o c d):fw U o v d:=⟨λi xs h=>⟨(a.1 i xs (b.1 i xs h).1).1,(b.1 i xs h).2.trans (a.1 i xs (b.1 i xs h).1).2⟩,λi ys h=>by
 obtain⟨⟨xs,e⟩,q⟩:=b.2 i ys h;obtain⟨z,f⟩:=a.2 i xs e;exact⟨z,q.trans f⟩⟩
def fw.put{U:aJ}{s c:Slot}(b:U[i]? = some c)(g:∀xs,s≠.bU xs)(d:∀xs,s=.d9 true xs->∃ys,c=.d9 true ys):fw U (U.set i s) o o:=by
 have k:i<U.length:=(akw.mp b).1;have key:∀(j:Nat)(t:Slot),(U.set i s)[j]? = some t->(i=j/\t=s)\/(i≠j/\U[j]? = some t):=λj t h=>by
  by_cases a:i=j
  .subst a
   rw[akU k]at h;exact .inl ⟨rfl,(ak1 h).symm⟩
  .rw[akF a]at h
   exact .inr ⟨a,h⟩
 refine⟨λj xs h=>?_,λj ys h=>?_⟩
 .rcases key j _ h with⟨_,e⟩|⟨_,e⟩
  .exact absurd e.symm (g xs)
  .exact⟨e,rfl⟩
 .rcases key j _ h with⟨rfl,e⟩|⟨_,e⟩
  .obtain⟨l,f⟩:=d ys e.symm
   exact⟨⟨l,f▸b⟩,rfl⟩
  .exact⟨⟨_,e⟩,rfl⟩
def Bg(K:aM)(mg:bl)(O:a7)(H:aw):R->V->Prop
 |.v d,v=>Rep K mg O H d v|.fr xs,v=>∃a ys,v=.ref a/\H a=some (.l ys)/\(O a=.dn\/∃i,O a=.loc i)/\bj K mg O H xs ys|_,_=>False
def nT(K:aM)(mg:bl)(O:a7)(U:aJ)(c:bH)(d:St)(H:aw)(U':aJ)(N:St->aw->Prop):Prop:=
 ∀b a H',ea O b H H'->cI K mg b U' c a H'->fw U U' d a->N a H'
def xR(K:aM)(mg:bl)(O:a7)(U:aJ)(b:bH)(d:St)(H:aw)(e:fY)(c:Ends):Prop:=match e with
 |.bu U'=>nT K mg O U b d H U' c.bu|.bk U'=>nT K mg O U b d H U' c.bk|.cy U'=>nT K mg O U b d H U' c.cy|.cx r=>∀a v H',ea O a H H'->di a H'->f3 K mg a H' b->Bg K mg a H' r v->c.cx v H'
def nT.b0{O a:a7}{N:St->aw->Prop}(h:nT K mg O U o C H U' N)(g:ea O a H H1)(k:fw U J C xy):nT K mg a J o xy H1 U' N:=
 λb c H' g' st d=>h b c H' (g.trans g') st (k.trans d)
def xR.b0{O a:a7}(h:xR K mg O U C J H o hq)(g:ea O a H H1)(k:fw U fc J xy):xR K mg a fc C xy H1 o hq:=by
 cases o with
 |bu U'=>exact nT.b0 h g k|bk U'=>exact nT.b0 h g k|cy U'=>exact nT.b0 h g k|cx r=>exact λb v H' g' d e r=>h b v H' (g.trans g') d e r
def lz(K:aM)(mg:bl)(m:aP):gK:=λd a H=>px K mg m a H λO U c b=>xR K mg O U c a H b d
abbrev Qx(X:aV)(st:Stmt)(m:aP):Prop:=iH X st (lz X.K X.mg m)
abbrev uH(X:aV)(a:List Stmt)(m:aP):Prop:=ic X a (lz X.K X.mg m)
def hk{s:Stmt}{t t':gK}(h:iH X s t)(i:∀D U H,t' D U H->t D U H):iH X s t':=λzn s U H D J q=>h zn s U H D J (i _ _ _ q)
def Ad{s:List Stmt}{t t':gK}(h:ic X s t)(i:∀D U H,t' D U H->t D U H):ic X s t':=λzn s U H D J q=>h zn s U H D J (i _ _ _ q)
@[simp] def bQ(U:aJ):M fY:=pure (.bu U)
def nX:aP:=λ_=>bad
@[simp] def bM(a b:aP)(U:aJ):M fY:=do
 let c <-a U
 match c with
 |.bu U'=>b U'|c=>pure c
@[simp] def aY(m:bw)(U:aJ):M fY:=do
 let r <-m U
 match r with
 |.v d=>pure (.cx (.v d))|.fr xs=>pure (.cx (.fr xs))|_=>bad
@[simp] def yg(i:Nat)(U:aJ):M fY:=match U[i]? with
 |some (.d9 false xs)=>pure (.cx (.fr xs))|_=>bad
@[simp] def b8(t:aJ->M Bool)(a b:aP)(U:aJ):M fY:=do
 let t <-t U
 if t=true then a U else b U
@[simp] def cn(i:Nat)(m:bw)(U:aJ):M fY:=do
 let r <-m U
 let d <-r.dat
 pure (.bu (U.set i (.v d)))
@[simp] def m5(i:Nat)(m:bw)(U:aJ):M fY:=do
 let r <-m U
 match r with
 |.fr xs=>pure (.bu (U.set i (.d9 false xs)))|_=>bad
section
variable{st:Stmt}{a b:aP}{e:Expr}{m:bw}
theorem O'{O:a7}{r:R}{v:V}(h:et K mg O H r v)(aD:(∃d,r=.v d)\/∃xs,r=.fr xs):Bg K mg O H r v:=by
 rcases aD with⟨d,rfl⟩|⟨xs,rfl⟩
 .exact h
 .obtain⟨a,ys,q,l,t,c⟩:=h;exact⟨a,ys,q,l,.inl t,c⟩
theorem cI.set{O:a7}{U:aJ}{S:bH}{d:St}{s:Slot}{v:V}(st:cI K mg O U S d H)(h:jw K mg O H (.loc i) s (some v)):cI K mg O (U.set i s) S (d.set i (some v)) H:=by
 refine⟨st.cu,by rw[ak8,ak8];exact st.len,λj t e=>?_,st.gD⟩
 by_cases c:i=j
 .subst c
  have hl:i<U.length:=by
   have:=(akw.mp e).1
   rwa[ak8]at this
  rw[akU hl]at e;cases e;rw[akU (by rw[<-st.len];exact hl)];exact h
 .rw[akF c]at e
  rw[akF c];exact st.loc j t e
theorem fw.set{U:aJ}{c:St}{s:Slot}{v:Option V}(ay:∀xs,s≠.bU xs)(f:∀xs,s≠.d9 true xs:=by intro xs z;cases z):fw U (U.set i s) c (c.set i v):=by
 have key:∀(j:Nat)(t:Slot),(U.set i s)[j]? = some t->t≠s->U[j]? = some t/\(c.set i v)[j]? = c[j]?:=λj t h g=>by
  by_cases d:i=j
  .subst d
   have hl:i<U.length:=by
    have:=(akw.mp h).1
    rwa[ak8]at this
   rw[akU hl]at h;exact absurd (ak1 h).symm g
  .rw[akF d]at h ⊢
   exact⟨h,rfl⟩
 refine⟨λj xs h=>key j _ h (λz=>ay xs z.symm),λj ys h=>?_⟩;obtain⟨a,b⟩:=key j _ h (λz=>f ys z.symm);exact⟨⟨ys,a⟩,b⟩
theorem cI.own{K:aM}{mg:bl}{O:a7}{U:aJ}{S:bH}{c:St}{H:aw}{i:Nat}{a:Addr}{xs:List D}{ys:List V}(st:cI K mg O U S c H)(g:O a=.dn)(hl:H a=some (.l ys))(aD:bj K mg O H xs ys) :
  cI K mg (fV O a (.loc i)) (U.set i (.d9 false xs)) S (c.set i (some (.ref a))) H:=by
 have ne:∀{b:Addr}{w:Own},O b=w->w≠.dn->fV O a (.loc i) b=w:=λ{b w} h hw=>by
  rw[o1];exact h;rintro rfl;exact hw (h.symm.trans g)
 have da:lI O (fV O a (.loc i)):=⟨λb h=>ne h (by intro z;cases z),rfl⟩;have f:cI K mg (fV O a (.loc i)) U S c H:=by
  refine⟨⟨λb d=>?_,st.cu.tabs,st.cu.cc.1,λb m=>ne (st.cu.cc.2 b m) (by intro z;cases z)⟩,st.len,λj s e=>(st.loc j s e).da da (λb h=>ne h (by intro z;cases z)) (λb h=>ne h (by intro z;cases z)),st.gD.all (λ_ _ z=>Rep.da da z) rfl λ_ _ _ l _=>l⟩
  by_cases e:b=a
  .rw[e,hl];intro z;cases z
  .rw[o1 e]at d;exact st.cu.has b d
 exact f.set ⟨a,ys,rfl,lC,hl,aD.da da⟩
theorem ea.dn{O:a7}{H:aw}{a:Addr}{w:Own}(c:O a=.dn):ea O (fV O a w) H H:=by
 refine⟨λb o e _ _=>e,λb h f=>?_,λ_ h=>h,λ_ ps h=>⟨ps,h⟩,id,rfl⟩;rw[o1];rintro rfl;rw[c]at f;rcases f with z|z<;>cases z
theorem Pl{te:TE}(hi:∀U H Q,fK K mg m U H Q->te U H Q):∀D c H,lz K mg (cn i m) D c H->ug te (kC i) D c H:=by
 rintro D c H ⟨O,U,S,t,u,st,h,q⟩;obtain⟨r,S1,k,h⟩:=M.inv h;obtain⟨d,s,l,h⟩:=M.inv h;cases h;refine hi c H _ ⟨O,U,S,r,S1,st,k,λg v f p j n nn=>?_⟩;obtain⟨dh,rfl⟩:=qY (H₀:=H) n nn l;exact q (cM H g) _ f p.cM.b0 ((j.cM H).set ⟨v,rfl,dh⟩) (fw.set λxs z=>by cases z)
theorem Oj{te:TE}(hi:∀U H Q,fK K mg m U H Q->te U H Q):∀D c H,lz K mg (m5 i m) D c H->ug te (kC i) D c H:=by
 rintro D c H ⟨O,U,S,s,u,st,h,q⟩;obtain⟨r,S1,g,h⟩:=M.inv h;split at h
 .rename_i xs
  cases h;refine hi c H _ ⟨O,U,S,_,_,st,g,λp v d n f k nn=>?_⟩;obtain⟨a,ys,rfl,l,t,j⟩:=k;exact q _ _ d (n.b0.trans (ea.dn t)) (f.own t l j) (fw.set λxs z=>by cases z)
 .cases h
end
@[simp] def I3(i:Nat)(f:List D->List R->M (R×List D))(ms:c6)(U:aJ):M (R×aJ):=do
 let rs <-ms U
 match U[i]? with
 |some (.d9 p xs)=>do
  let(r,ys) <-f xs rs
  pure (r,U.set i (.d9 p ys))
 |_=>bad
@[simp] def qR(i:Nat)(f:List D->List R->M (R×List D))(ms:c6)(U:aJ):M fY:=do
 let(_,U') <-I3 i f ms U
 pure (.bu U')
def jo(xs:List D):List R->M (R×List D)
 |[r]=>do
  let d <-r.dat
  hx (xs.length<akA)
  pure (.v .aI,xs++[d])
 |_=>bad
def xf(xs:List D):List R->M (R×List D)
 |[r]=>match r.own with
  |some ys=>do
   hx (xs.length+ys.length<=akA)
   pure (.v .aI,xs++ys)
  |none=>bad
 |_=>bad
section
variable{K:aM}{mg:bl}{O:a7}{H:aw}{l:Addr}{zs ws:List V}
mutual
theorem Rep.eg(b:O l≠.free)(hl:H l=some (.l zs)):∀{d:D}{v:V},Rep K mg O H d v->Rep K mg O (upd H l (.l ws)) d v
 |.aI,_,h=>h|.ax _,_,h=>h|.int _,_,h=>h|.str _,_,h=>h|.t _,_,h=>by
  obtain⟨a,ys,q,t,r⟩:=h;refine⟨a,ys,q,?_,bj.eg b hl r⟩;rcases t with(t|⟨o,t⟩)|t
  .exact .inl (.inl (by rw[c5 (NX t hl (by intro z;cases z))];exact t))
  .exact .inl (.inr ⟨o,by rw[c5 (NX t hl (by intro z;cases z))];exact t⟩)
  .exact .inr t
 |.l _,_,h=>by
  obtain⟨a,ys,q,t,r⟩:=h;exact⟨a,ys,q,⟨by rw[c5 (by rintro rfl;exact b t.2)];exact t.1,t.2⟩,bj.eg b hl r⟩
 |.ref _,_,h=>h|.fn _,_,h=>h|.ty _,_,h=>h
theorem bj.eg(c:O l≠.free)(hl:H l=some (.l zs)):∀{ds:List D}{ys:List V},bj K mg O H ds ys->bj K mg O (upd H l (.l ws)) ds ys
 |[],_,h=>h| _::_,_,h=>by obtain⟨x,r,q,a,b⟩:=h;exact⟨x,r,q,Rep.eg c hl a,bj.eg c hl b⟩
end
def hL.eg(b:O l≠.free)(c:O l≠.out)(h:hL K O H a ys):hL K O (upd H l (.l ws)) a ys:=by
 rcases h with⟨h,f⟩|h
 .have ne:a≠l:=by rintro rfl;exact f.elim b c
  refine .inl ⟨?_,f⟩;rcases h with h|⟨o,h⟩
  .exact .inl (by rw[c5 ne];exact h)
  .exact .inr ⟨o,by rw[c5 ne];exact h⟩
 .exact .inr h
def jw.eg(b:O l≠.free)(c:O l≠.out)(hw:O l≠w)(hl:H l=some (.l zs)):∀{s:Slot}{u:Option V},jw K mg O H w s u->jw K mg O (upd H l (.l ws)) w s u
 |.e,_,_=>trivial| .v _,_,h=>by obtain⟨v,q,r⟩:=h;exact⟨v,q,r.eg b hl⟩
 |.d9 _ _,_,h=>by obtain⟨a,ys,q,o,t,r⟩:=h;exact⟨a,ys,q,o,by rw[c5 (by rintro rfl;exact hw o)];exact t,r.eg b hl⟩
 |.bU _,_,h=>by obtain⟨a,ys,q,t,r⟩:=h;exact⟨a,ys,q,t.eg b c,r.eg b hl⟩
def di.eg(d:di O H)(hl:H l=some (.l zs)):di O (upd H l (.l ws)):=⟨λa b=>by
 by_cases e:a=l
 .rw[e,dZ];intro z;cases z
 .rw[c5 e];exact d.has a b,d.tabs.l hl _,d.cc⟩
def ea.eg(a:O l≠.free)(c:O l≠.out)(hl:H l=some (.l zs)):ea O O H (upd H l (.l ws)):=by
 refine⟨λb o e h _=>?_,λ_ _ _=>rfl,λb h=>?_,λb ps e=>⟨ps,by rw[c5 (by rintro rfl;rw[hl]at e;cases e)];exact e⟩,λg=>g.l hl _,rfl⟩
 .rw[c5]
  .exact e
  .rintro rfl
   rcases h with h|h|⟨xs,h⟩|⟨_,_,h⟩
   .exact a h
   .exact c h
   .subst h;rw[e]at hl;cases hl
   .subst h;rw[e]at hl;cases hl
 .by_cases e:b=l
  .rw[e,dZ];intro z;cases z
  .rw[c5 e];exact h
def f3.eg{S:bH}(s:f3 K mg O H S)(c:di O H)(b:O l≠.free)(d:O l≠.out)(hl:H l=some (.l zs)):f3 K mg O (upd H l (.l ws)) S:=
 s.all (λ_ _ z=>Rep.eg b hl z) rfl λa h u e _=>by rw[c5 (by rintro rfl;exact d (c.cc.2 _ h))];exact e
def cI.eg{U:aJ}{S:bH}{b:St}(st:cI K mg O U S b H)(hi:U[i]? = some (.d9 p xs))(d:b[i]?.join=some (.ref l))(c:O l=.loc i)(hl:H l=some (.l zs))(aD:bj K mg O H ys ws) :
  cI K mg O (U.set i (.d9 p ys)) S b (upd H l (.l ws)):=by
 have ne:∀w:Own,w≠.loc i->O l≠w:=λw hw z=>hw (z.symm.trans c)
 refine⟨st.cu.eg hl,by rw[ak8];exact st.len,λj t e=>?_,st.gD.eg st.cu (ne _ (by intro z;cases z)) (ne _ (by intro z;cases z)) hl⟩
 by_cases a:i=j
 .subst a
  have f:i<U.length:=(akw.mp hi).1;rw[akU f]at e;cases e;exact⟨l,ws,d,c,dZ,aD.eg (ne _ (by intro z;cases z)) hl⟩
 .rw[akF a]at e
  exact(st.loc j t e).eg (ne _ (by intro z;cases z)) (ne _ (by intro z;cases z)) (ne _ (by intro z;cases z;exact a rfl)) hl
end
def r9(K:aM)(mg:bl)(r:V->List V->aw->cU->Prop)(f:List D->List R->M (R×List D)):Prop:=
 ∀O H H₀ l xs zs rs vs S o C ys (Q:cU),H l=some (.l zs)->bj K mg O H xs zs->i4 K mg O H rs vs->ku H₀ rs vs->(f xs rs).run S=.ok (C,ys) o->
  (∀v a,S=o->bj K mg (cM H₀ O) H ys a->(∃d,C=.v d/\Rep K mg (cM H₀ O) H d v)->Q v (upd H l (.l a)))->r (.ref l) vs H Q
section
variable{K:aM}{mg:bl}
def vV:r9 K mg OV jo:=λO H H₀ l xs g rs vs S j k ys Q hl a aD aA h q=>by
 unfold jo at h;split at h
 .rename_i r
  obtain⟨v,rfl,f⟩:=kR aD;obtain⟨d,S1,b,h⟩:=M.inv h;obtain⟨_,i,e,h⟩:=M.inv h;obtain⟨c,rfl⟩:=qT e;obtain⟨dh,rfl⟩:=qY (H₀:=H₀) f aA.1 b;cases h;exact⟨l,g,v,rfl,rfl,hl,by rw[a.len];exact c,q .aI _ rfl ((a.da (i9 _ _)).append (.one dh)) ⟨.aI,rfl,rfl⟩⟩
 .cases h
def ZY:r9 K mg OY xf:=λO H H₀ l xs k rs vs S n p ys Q hl a aD aA h q=>by
 unfold xf at h;split at h
 .rename_i r
  obtain⟨v,rfl,g⟩:=kR aD;split at h
  .rename_i us e
   obtain⟨_,m,f,h⟩:=M.inv h;obtain⟨c,rfl⟩:=qT f;cases h;obtain⟨b,j,rfl,i,d⟩:=R.z' g e;exact⟨l,b,k,j,rfl,rfl,hl,i,by rw[a.len,d.len];exact c,q .aI _ rfl ((a.append d).da (i9 _ _)) ⟨.aI,rfl,rfl⟩⟩
  .cases h
 .cases h
variable{f:List D->List R->M (R×List D)}{r:V->List V->aw->cU->Prop}{ms:c6}{i:Nat}
def aag(P:r9 K mg r f){O:a7}{U U':aJ}{S l:bH}{b:St}{H:aw}{m:R}{Q:cU}(st:cI K mg O U S b H)(h:(I3 i f ms U).run S=.ok (m,U') l)
  (q:∀k v H',ea O k H H'->cI K mg k U' l b H'->fw U U' b b->(∃d,m=.v d/\Rep K mg k H' d v)->Q v H') :
  ∃v,b[i]? = some (some v)/\AJ K "list" v H/\oU K mg ms b H λvs A=>r v vs A Q:=by
 obtain⟨rs,S1,E,h⟩:=M.inv h
 cases e:U[i]? with
 |none=>rw[e]at h;cases h
 |some s=>
  rw[e]at h
  cases s with
  |e=>cases h
  |v _=>cases h
  |bU _=>cases h
  |d9 p xs=>
   obtain⟨⟨W,ys⟩,V,F,h⟩:=M.inv h;cases h;obtain⟨a,T,au,aF,cO,eJ⟩:=st.loc i _ e;have n:b[i]? = some (some (.ref a)):=by
    cases w:b[i]? with
    |none=>rw[w]at au;cases au
    |some y=>rw[w]at au;exact congrArg some au
   refine⟨.ref a,n,.inl ⟨rfl,_,dt.of cO⟩,O,U,S,rs,S1,st,E,λc vs u g B L nn=>?_⟩;have j:=g.same.at' _ _ cO;have aA:H a≠none:=by rw[cO];intro z;cases z
   have x:c a=.loc i:=(g.own a aA).trans aF;refine P c u H a xs T rs vs S1 _ _ ys Q j (eJ.go g) L nn F λv Y G I D=>?_
   obtain⟨d,N,dh⟩:=D;subst G;have t:cM H c a=.loc i:=by rw[CQ aA];exact x
   have no:∀w:Own,w≠.loc i->cM H c a≠w:=λw hw z=>hw (z.symm.trans t)
   refine q (cM H c) v _ (g.cM.b0.trans (ea.eg (no _ (by intro z;cases z)) (no _ (by intro z;cases z)) j)) ((B.cM H).eg e (by rw[n];rfl) t j I) ?_ ⟨d,N,dh.eg (no _ (by intro z;cases z)) j⟩;have X:i<U.length:=(akw.mp e).1;exact fw.put e (λxs z=>by cases z) (λ_ z=>by cases z;exact⟨xs,rfl⟩)
end
def xJ(b:ib)(O:a7)(H:aw)(ys:List V):Prop:=∀c a,ea O c H a->∀i,(i<ys.length->b.go i a/\∀x H',b.pb i a x H'->H'=a/\ys[i]? = some x)/\(ys.length<=i->b.stop i a)
abbrev fN:=aJ->M (List D)
def uj(K:aM)(mg:bl)(m:fN):TI:=λb H R=>px K mg m b H λO U d xs=>∀a H' c ys,Go O a H H'->cI K mg a U d b H'->xI c H' ys->bj K mg a H' xs ys->R c H'
def AB(K:aM)(mg:bl)(m:fN):TI:=λb H R=>px K mg m b H λO U d xs=>∀a H' c ys,Go O a H H'->cI K mg a U d b H'->xJ c a H' ys->bj K mg a H' xs ys->R c H'
abbrev Gm(X:aV)(cg a:Expr)(m:fN):Prop:=j1 X cg a (uj X.K X.mg m)
abbrev Qv(X:aV)(cg a:Expr)(m:fN):Prop:=j1 X cg a (AB X.K X.mg m)
def oM{cg e:Expr}{t t':TI}(h:j1 X cg e t)(i:∀U H Q,t' U H Q->t U H Q):j1 X cg e t':=λzn s U H Q J q=>h zn s U H Q J (i _ _ _ q)
def ea.Ar{O b:a7}(g:ea O b H H')(h:dB K H a ys):dB K H' a ys:=by
 rcases h with(h|⟨o,h⟩)|h
 .exact .inl (.inl (g.cells _ _ h (.inr (.inr (.inl ⟨_,rfl⟩)))))
 .exact .inl (.inr ⟨o,g.cells _ _ h (.inr (.inr (.inr ⟨_,_,rfl⟩)))⟩)
 .exact .inr h
def ea.ZL{O b:a7}(g:ea O b H H')(h:hL K O H a ys):hL K b H' a ys:=by
 rcases h with⟨h,f⟩|h
 .refine .inl ⟨?_,by rw[g.own a (hs.some h) f];exact f⟩
  rcases h with h|⟨o,h⟩
  .exact .inl (g.cells _ _ h (f.elim .inl λz=>.inr (.inl z)))
  .exact .inr ⟨o,g.cells _ _ h (f.elim .inl λz=>.inr (.inl z))⟩
 .exact .inr h
@[simp] def lj(m:bw)(U:aJ):M (List D):=do
 let r <-m U
 match r with
 |.v (.t xs)=>pure xs|_=>bad
@[simp] def vH(m:bw)(U:aJ):M (List D):=do
 let r <-m U
 match r with
 |.v (.l xs)=>pure xs|.fr xs=>pure xs|.bU xs=>pure xs|_=>bad
@[simp] def nq(m:bw)(U:aJ):M (List D):=do
 let r <-m U
 match r.ft with
 |some xs=>pure xs|none=>bad
def en(lo:Int)(n:Nat):List D:=(akR n).map λi=>D.int (lo+(i:Nat))
omit [aC.a4]in
theorem ql(lo:Int)(n:Nat):(en lo n).length=n:=by unfold en;rw[akz,alZ]
@[simp] def iu(m:c6)(U:aJ):M (List D):=do
 let rs <-m U
 match rs with
 |[.v (.int j)]=>if -(2 ^ 62)<=j/\j<2 ^ 62 then pure (en 0 j.toNat)else bad|_=>bad
@[simp] def DF(m:c6)(U:aJ):M (List D):=do
 let rs <-m U
 match rs with
 |[.v (.int i),.v (.int j)]=>if -(2 ^ 62)<=i/\i<2 ^ 62/\-(2 ^ 62)<=j/\j<2 ^ 62 then pure (en i (j-i).toNat)else bad|_=>bad
def Fo{O:a7}(lo:Int)(n:Nat):bj K mg O H (en lo n) (mx lo n):=by
 unfold en mx
 induction(akR n)with
 |nil=>rfl|cons a r b=>exact⟨.int (lo+a),_,rfl,rfl,b⟩
def YG{O:a7}(lo:Int)(n:Nat):xJ (mP lo n) O H (mx lo n):=λb a _ i=>DM (H:=a) lo n a (eC.refl _) i
section
variable{a:Expr}{ms:c6}
def Pc:(∀b H R,AB K mg (iu ms) b H R->DG (oU K mg ms) b H R)/\(∀b H R,uj K mg (iu ms) b H R->DG (oU K mg ms) b H R):=by
 constructor<;>
 .rintro b H R ⟨O,U,S,xs,m,st,h,q⟩
  obtain⟨rs,S1,g,h⟩:=M.inv h;split at h
  .rename_i j
   by_cases c:-(2 ^ 62)<=j/\j<2 ^ 62
   .rw[if_pos c]at h
    cases h;refine⟨O,U,S,_,_,st,g,λe vs d l f k nn=>?_⟩;obtain⟨v,rfl,i⟩:=kR k;cases(show v=.int j from i);exact⟨j,rfl,c.1,c.2,q e d (mP 0 j.toNat) (mx 0 j.toNat) l f (by first|exact YG _ _|exact DM _ _) (Fo _ _)⟩
   .rw[if_neg c]at h;cases h
  .cases h
def DL{K:aM}{O:a7}{H:aw}{a:Addr}{xs:List V}(h:hL K O H a xs):xJ (pq K a) O H xs:=λc b g i=>MO (g.ZL h).cR b (eC.refl _) i
def YJ{K:aM}{O:a7}{H:aw}{a:Addr}{xs:List V}(h:dB K H a xs):xJ (sa K a) O H xs:=λc b g i=>MQ (g.Ar h) b (eC.refl _) i
end
def kA(b:D->aP):List D->aP
 |[]=>λU=>pure (.bu U)
 |d::ds=>λU=>do
  let a <-b d U
  match a with
  |.bu U'=>kA b ds U'|.cy U'=>kA b ds U'|.bk U'=>pure (.bu U')|.cx r=>pure (.cx r)
@[simp] def ky(i:Nat)(it:fN)(b:aP)(U:aJ):M fY:=do
 let ds <-it U
 kA (λd U=>b (U.set i (.v d))) ds U
def r4(c:aJ->M Bool)(b:aP):Nat->aP
 |0=>λ_=>bad
 |n+1=>λU=>do
  let t <-c U
  if t=true then do
   let a <-b U
   match a with
   |.bu U'=>r4 c b n U'|.cy U'=>r4 c b n U'|.bk U'=>pure (.bu U')|.cx r=>pure (.cx r)
  else pure (.bu U)
@[irreducible] def o5:Nat:=2 ^ 24
def u4(c:aJ->M Bool)(b:aP):aP:=r4 c b o5
def cI.val{O:a7}{U:aJ}{S:bH}{a:St}{v:V}(st:cI K mg O U S a H)(h:Rep K mg O H d v):cI K mg O (U.set i (.v d)) S (a.set i (some v)) H:=st.set ⟨v,rfl,h⟩
def bj.b0{O e:a7}(g:ea O e H H'):∀{ds:List D}{ys:List V},bj K mg O H ds ys->bj K mg e H' ds ys:=by
 have rep:∀(d:D)(v:V),Rep K mg O H d v->Rep K mg e H' d v:=by
  intro d
  induction d using D.rec (motive_2:=λds=>∀ys,bj K mg O H ds ys->bj K mg e H' ds ys)with
  |aI=>exact λv h=>h
  |ax _=>exact λv h=>h
  |int _=>exact λv h=>h
  |str _=>exact λv h=>h
  |fn _=>exact λv h=>h
  |ty _=>exact λv h=>h
  |ref n=>exact λv ⟨a,q,l⟩=>⟨a,q,by rw[g.bG];exact l⟩
  |t xs c=>exact λv ⟨a,ys,q,l,r⟩=>⟨a,ys,q,g.Ar l,c ys r⟩
  |l xs c=>exact λv ⟨a,ys,q,l,r⟩=>⟨a,ys,q,⟨g.cells _ _ l.1 (.inl l.2),by rw[g.own a (by rw[l.1];intro z;cases z) (.inl l.2)];exact l.2⟩,c ys r⟩
  |nil=>assumption|cons x xs f i=>
   rename_i j hz;obtain⟨y,r,q,a,b⟩:=hz;exact⟨y,r,q,f y a,i r b⟩
 intro ds
 induction ds with
 |nil=>exact λh=>h
 |cons x xs c=>rintro ys ⟨y,r,q,a,b⟩;exact⟨y,r,q,rep x y a,c b⟩
section
variable{it:fN}{i:Nat}{b:aP}{x:Str}{t:aJ->M Bool}
def bj.get'{O:a7}{ds:List D}{ys:List V}(h:bj K mg O H ds ys)(e:ds.drop k=d::o):∃y,ys[k]? = some y/\Rep K mg O H d y/\ds.drop (k+1)=o:=by
 have au:ds[k]? = some d:=by
  have:=congrArg (·[0]?) e;simpa using this
 obtain⟨y,q,r⟩:=h.get au;refine⟨y,q,r,?_⟩;have:=congrArg (List.drop 1) e;simpa[aoe]using this
theorem Uw{G:iI}{B:aE.D->aP}(pT:∀O U S l H d y f c Q,cI K mg O U S l H->Rep K mg O H d y->(B d U).run S=.ok f c->(∀u A,cI K mg O u S A H->fw U u l A->(b u).run S=.ok f c->Q A H)->G y l H Q) :
  ∀D l H,lz K mg (λU=>do
   let ds <-it U
   kA B ds U) D l H->w' (AB K mg it) G (lz K mg b) D l H:=by
 rintro D l H ⟨O,U,S,N,P,st,h,q⟩;obtain⟨ds,S1,C,h⟩:=M.inv h;refine⟨O,U,S,ds,S1,st,C,λE L cq ys I Z its R=>?_⟩;refine⟨λk m w H'=>m=ys.length-k/\k<=ys.length/\∃n U' z,cI K mg n U' z w H'/\ea E n L H'/\fw U U' l w/\(kA B (ds.drop k) U').run z=.ok N P,
  ⟨_,rfl,alh _,E,U,S1,Z,ea.refl _ _,fw.refl _ _,h⟩,?_⟩
 rintro k m w H' ⟨rfl,av,n,U',z,V,g',kp,h⟩
 cases e:ds.drop k with
 |nil=>
  have hl:ys.length<=k:=by
   have:=congrArg amn e;rw[alE,alQ]at this;rw[R.len];omega
  rw[e]at h;cases h;exact .inl ⟨(its n H' g' k).2 hl,q n w H' (I.b0.trans g') V kp⟩
 |cons d il=>
  obtain⟨y,Y,b5,T⟩:=(bj.b0 g' R).get' e;have W:k<ys.length:=(akw.mp Y).1;obtain⟨go,mF⟩:=(its n H' g' k).1 W;rw[e]at h;obtain⟨X,c,J,h⟩:=M.inv h;refine .inr ⟨go,λp g=>∃a j c,cI K mg a j c p g/\ea E a L g/\fw U j l p/\(kA B (ds.drop (k+1)) j).run c=.ok N P,?_,λx g kY=>?_⟩
  .rintro p g ⟨a,j,c,a1,a2,fE,iJ⟩
   exact⟨_,by omega,rfl,W,a,j,c,a1,a2,fE,iJ⟩
  .obtain⟨rfl,ex⟩:=mF x g kY
   rw[Y]at ex;cases ex;refine pT _ _ _ _ _ _ _ _ _ _ V b5 J λu A rY F o=>?_
   refine⟨n,u,z,X,c,rY,o,?_⟩
   cases X with
   |bu j=>exact λa p g s bK d2=>⟨a,j,c,bK,g'.trans s,kp.trans (F.trans d2),by rw[T];exact h⟩
   |cy j=>exact λa p g s bK d2=>⟨a,j,c,bK,g'.trans s,kp.trans (F.trans d2),by rw[T];exact h⟩
   |bk j=>cases h;exact λa p g s bK d2=>q a p g (I.b0.trans (g'.trans s)) bK (kp.trans (F.trans d2))
   |cx r=>cases h;exact λa v g s c8 aF b1=>q a v g (I.b0.trans (g'.trans s)) c8 aF b1
def Uy:∀D a H,lz K mg (ky i it b) D a H->w' (AB K mg it) (kC i) (lz K mg b) D a H:=
 Uw (B:=λd U=>b (U.set i (.v d))) λ_ _ _ _ _ _ _ _ _ _ st c h k=>k _ _ (st.val c) (fw.set λxs z=>by cases z) h
def agM:∀D k H,lz K mg (u4 t b) D k H->FP (lA K mg t) (lz K mg b) D k H:=by
 rintro D k H ⟨O,U,S,y,A,st,h,q⟩;refine⟨λm s H'=>∃p U' u,cI K mg p U' u s H'/\ea O p H H'/\fw U U' k s/\(r4 t b m U').run u=.ok y A,⟨o5,O,U,S,st,ea.refl _ _,fw.refl _ _,h⟩,?_⟩;rintro m s H' ⟨p,U',u,N,g',kp,h⟩
 cases m with
 |zero=>cases h
 |succ n=>
  obtain⟨tt,S1,F,h⟩:=M.inv h;refine⟨p,U',u,tt,S1,N,F,λw E l z=>?_⟩
  cases tt with
  |false=>
   rw[if_neg akD]at h;cases h;exact nr (q w s E (g'.trans l.b0) z kp)
  |true=>
   rw[if_pos rfl]at h;obtain⟨B,f,G,h⟩:=M.inv h;refine nt ⟨λg e=>∃c d f,cI K mg c d f g e/\ea O c H e/\fw U d k g/\(r4 t b n d).run f=.ok y A,?_,w,U',S1,B,f,z,G,?_⟩
   .rintro g e ⟨c,d,f,a⟩
    exact⟨n,anL _,c,d,f,a⟩
   .cases B with
    |bu d=>exact λc g e j bK d2=>⟨c,d,f,bK,g'.trans (l.b0.trans j),kp.trans d2,h⟩
    |cy d=>exact λc g e j bK d2=>⟨c,d,f,bK,g'.trans (l.b0.trans j),kp.trans d2,h⟩
    |bk d=>cases h;exact λc g e j bK d2=>q c g e (g'.trans (l.b0.trans j)) bK (kp.trans d2)
    |cx r=>cases h;exact λc v e j L aF I=>q c v e (g'.trans (l.b0.trans j)) L aF I
end
def gn(t:aJ->M Bool)(el:bw)(U:aJ):List D->M (List D)
 |[]=>pure []|d::ds=>do
  let b <-t (U.set 0 (.v d))
  if b=true then do
   let r <-el (U.set 0 (.v d))
   let x <-r.dat
   let xs <-gn t el U ds
   pure (x::xs)
  else gn t el U ds
def qW:Option Slot->Slot
 |some (.v d)=>.v d|some (.d9 _ xs)=>.bU xs|some (.bU xs)=>.bU xs|_=>.e
def hP(n:Nat)(cap:List Nat)(U:aJ):aJ:=akI n .e++cap.map λk=>qW U[k]?
@[simp] def fl(n:Nat)(cap:List Nat)(it:fN)(t:aJ->M Bool)(el:bw)(U:aJ):M R:=do
 let ds <-it U
 hx (ds.length<akA)
 let xs <-gn t el (hP n cap U) ds
 pure (.fr xs)
def fJ:aJ->M Bool:=λ_=>pure true
abbrev A7(X:aV)(a:List Expr)(t:aJ->M Bool):Prop:=se X a (lA X.K X.mg t)
def Own.d0:Own->Own
 |.loc _=>.out|.dn=>.out|o=>o
def d0(O:a7):a7:=⟨λb=>(O b).d0,O.bG⟩
def uZ(O:a7)(b:Addr):d0 O b=(O b).d0:=rfl
def IU{O:a7}(d:di O H):jv (d0 O):=⟨d.cc.1,λa h=>by rw[uZ,d.cc.2 a h];rfl⟩
def nW{O:a7}:d0 O b=.free↔O b=.free:=by rw[uZ];cases O b<;>simp[Own.d0]
def k8(O:a7)(b:Addr):d0 O b=.free\/d0 O b=.out:=by rw[uZ];cases O b<;>simp[Own.d0]
def j5(O:a7):lI O (d0 O):=⟨λ_ h=>nW.mpr h,rfl⟩
def hL.d0{O:a7}(h:hL K O H a ys):hL K (d0 O) H a ys:=by
 rcases h with⟨h,f⟩|h
 .refine .inl ⟨h,?_⟩
  rcases f with f|f
  .exact .inl (nW.mpr f)
  .exact .inr (by rw[uZ,f];rfl)
 .exact .inr h
def cI.d0{O:a7}{S:bH}(st:cI K mg O U S J H)(n:Nat)(cap:List Nat):cI K mg (d0 O) (hP n cap U) S (f5 n cap J) H:=by
 refine⟨⟨λa f=>st.cu.has a λz=>f (nW.mpr z),st.cu.tabs,IU st.cu⟩,?_,λi s e=>?_,st.gD.all (λ_ _ z=>Rep.da (j5 O) z) rfl λ_ _ _ l _=>l⟩
 .unfold hP f5
  rw[akB,akB,alr,alr,akz,akz]
 .unfold hP at e
  unfold f5
  by_cases hi:i<n
  .rw[akV (by simpa using hi),al8,if_pos hi]at e
   cases e;exact trivial
  .rw[akX (by simpa using hi),alr,akN]at e
   rw[akX (by simpa using hi),alr,akN]
   cases hQ:cap[i-n]? with
   |none=>rw[hQ]at e;cases e
   |some k=>
    rw[hQ]at e;have b:qW U[k]? = s:=ak1 e;show jw K mg _ H _ s (some (J[k]?.join)).join
    cases C:U[k]? with
    |none=>rw[C]at b;subst b;exact trivial|some c=>
     rw[C]at b;have l:=st.loc k c C
     cases c with
     |e=>subst b;exact trivial|v d=>subst b;obtain⟨v,q,r⟩:=l;exact⟨v,q,r.da (j5 O)⟩
     |bU xs=>subst b;obtain⟨a,ys,q,l,r⟩:=l;exact⟨a,ys,q,l.d0,r.da (j5 O)⟩
     |d9 p xs=>subst b;obtain⟨a,ys,q,o,l,r⟩:=l;exact⟨a,ys,q,.inl ⟨.inl l,.inr (by rw[uZ,o];rfl)⟩,r.da (j5 O)⟩
def cI.ur{O:a7}{H:aw}{S:bH}(st:cI K mg O U S o H)(a:O l=.dn)(hl:H l=some (.l zs)):cI K mg O U S o (upd H l (.l ws)):=by
 have ne:∀w:Own,w≠.dn->O l≠w:=λw hw z=>hw (z.symm.trans a)
 exact⟨st.cu.eg hl,st.len,λj t e=>(st.loc j t e).eg (ne _ (by intro z;cases z)) (ne _ (by intro z;cases z)) (ne _ (by intro z;cases z)) hl,st.gD.eg st.cu (ne _ (by intro z;cases z)) (ne _ (by intro z;cases z)) hl⟩
section
variable{K:aM}{mg:bl}{n:Nat}{cap:List Nat}{it:fN}{t:aJ->M Bool}{el:bw}
def nu{α:Type}(put:α->Option aJ)(t:aJ->M Bool)(el:bw):List α->M (List D)
 |[]=>pure []|d::ds=>match put d with
  |none=>bad|some U=>do
   let b <-t U
   if b=true then do
    let r <-el U
    let x <-r.dat
    let xs <-nu put t el ds
    pure (x::xs)
   else nu put t el ds
omit [aC.a4]in
theorem MV(U:aJ):∀ds:List D,gn t el U ds=nu (λd=>some (U.set 0 (.v d))) t el ds
 |[]=>rfl| d::ds=>by unfold gn nu;rw[MV U ds]
inductive CompI{α:Type}(K:aM)(mg:bl)(n:Nat)(cap:List Nat)(L:Nat->M (List aE.D))(aG:a7)(U:aJ)(S1:bH)(ar:St)(H1:aw)(A:Addr)(xs:List aE.D)(k:Nat)(zs:List V)(H':aw):Prop
 |mk (ak:a7) (acc o':List aE.D) (cf:cI K mg ak (hP n cap U) S1 (f5 n cap ar) H') (g':Go (d0 aG) ak H1 H') (oT:ak A=.dn) (dx:H' A=some (.l zs)) (hz:zs.length<=k)
   (kl:bj K mg ak H' acc zs) (h:(L k).run S1=.ok o' S1) (ex:acc++o'=xs)
def Jf{α:Type}{put:α->Option aJ}{c:List α}{i:a7}{U:aJ}{S1 N:bH}{p:St}{g:aw}{P:ib}{G:iI}{xs:List aE.D}{Q:cU}(u:cI K mg i U S1 p g)(hlen:c.length<akA)
  (stop:∀H',eC g H'->P.stop c.length H')
  (step:∀k d s f H',c[k]? = some d->put d=some s->Go (d0 i) f g H'->cI K mg f (hP n cap U) S1 (f5 n cap p) H'->P.go k H'/\∀x L (R:St->aw->Prop),P.pb k H' x L->
   (∀S O,Go f f H' O->cI K mg f s S1 S O->mO (f5 n cap p) S->R S O)->G x (f5 n cap p) L R)
  (bI:(nu put t el c).run S1=.ok xs N) (q:∀f v H',Go i f g H'->cI K mg f U N p H'->et K mg f H' (.fr xs) v->ju g (.fr xs) v->Q v H') :
  ∀D,g D=none->Cg P (f5 n cap p) G (lA K mg t) (fK K mg el) D g Q:=by
 intro D H;obtain rfl:=(nu put t el c).fb _ _ _ bI;have iW:cI K mg (fV (d0 i) D .dn) (hP n cap U) N (f5 n cap p) (upd g D (.l [])):=(u.d0 n cap).new H;refine⟨λk m V H'=>m=c.length-k/\k<=c.length/\CompI (α:=α) K mg n cap (λk=>nu put t el (c.drop k)) i U N p g D xs k V H',
  ⟨_,rfl,alh _,_,[],xs,iW,Go.new H,lC,dZ,akE _,rfl,bI,rfl⟩,?_⟩
 rintro k m V H' ⟨rfl,av,f,acc,o',E,g',J,F,hz,C,h,ex⟩
 cases e:c.drop k with
 |nil=>
  obtain rfl:k=c.length:=by
   have:=congrArg amn e;rw[alE,alQ]at this;omega
  rw[e]at h;cases h;rw[alO]at ex;subst ex;refine .inl ⟨stop H' g'.same,?_⟩
  let B:a7:=⟨λb=>match g b with|none=>f b|some _=>i b,i.bG⟩
  have X:∀b,g b≠none->B b=i b:=λb j=>by
   show(match g b with|none=>f b|some _=>i b)=i b
   cases e:g b with
   |none=>exact absurd e j|some _=>rfl
  have W:∀b,g b=none->B b=f b:=λb j=>by
   show(match g b with|none=>f b|some _=>i b)=f b;rw[j]
  have da:lI f B:=⟨λb j=>by
    by_cases w:g b=none
    .rw[W b w];exact j
    .rw[X b w];exact nW.mp ((g'.own b w).symm.trans j),g'.bG.symm⟩
  have go:Go i B g H':=⟨g'.same,X,rfl⟩;have cu:di B H':=⟨λb j=>by
   by_cases w:g b=none
   .rw[W b w]at j;exact E.cu.has b j
   .exact g'.same.some w,E.cu.tabs,u.cu.cc.1,λb m=>(X b (u.cu.has b (by rw[u.cu.cc.2 b m];intro z;cases z))).trans (u.cu.cc.2 b m)⟩
  refine q B (.ref D) H' go (u.go go cu) ⟨D,V,rfl,F,(W D H).trans J,C.da da⟩ λa cS=>?_
  cases cS;exact H
 |cons d il=>
  have eR:k<c.length:=by
   have:=congrArg amn e;rw[alE,alb]at this;omega
  have eD:c[k]? = some d:=by
   have:=congrArg (·[0]?) e;simpa using this
  have bL:c.drop (k+1)=il:=by
   have:=congrArg (List.drop 1) e;simpa[aoe]using this
  rw[e]at h;unfold nu at h
  cases cp:put d with
  |none=>rw[cp]at h;cases h
  |some s=>
  rw[cp]at h;dsimp only at h;obtain⟨b,a5,ah,h⟩:=M.inv h;obtain rfl:=(t s).fb _ _ _ ah;obtain⟨go,mF⟩:=step k d s f H' eD cp g' E;refine .inr ⟨go,λx L kY=>mF x L _ kY λS O rb rY yy=>⟨yy,f,s,a5,b,a5,rY,ah,λY y g2 bK=>?_⟩⟩;have A:Go f Y H' y:=rb.trans g2
  cases b with
  |false=>
   rw[if_neg akD]at h;exact nr ⟨c.length-(k+1),by omega,rfl,eR,Y,acc,o',E.go A bK.cu,g'.trans A,(A.own D (by rw[F];intro z;cases z)).trans J,A.same.at' _ _ F,by omega,C.go A,by rw[bL];exact h,ex⟩
  |true=>
   rw[if_pos rfl]at h;obtain⟨r,sj,cW,h⟩:=M.inv h;obtain rfl:=(el s).fb _ _ _ cW;obtain⟨x,uQ,eW,h⟩:=M.inv h;obtain rfl:=r.dat.fb _ _ _ eW;obtain⟨AY,QT,gM,h⟩:=M.inv h;cases h;refine nt ⟨Y,_,_,r,_,bK,cW,λZ v js g3 g5 bt nn=>?_⟩;obtain⟨a9,_⟩:=qY (H₀:=y) bt nn eW;have I:Go f (cM y Z) H' js:=A.trans g3.cM;have T:js D=some (.l V):=I.same.at' _ _ F;have rZ:cM y Z D=.dn:=(I.own D (by rw[F];intro z;cases z)).trans J;have o:=g'.trans I;exact⟨T,by omega,c.length-(k+1),by omega,rfl,eR,cM y Z,acc++[x],AY,(E.go I (g5.cM y).cu).ur rZ T,⟨uu H o.same T _,o.own,o.bG⟩,rZ,dZ,
    by rw[akB,aly];omega,((C.go I).append (.one a9)).eg (by rw[rZ];intro z;cases z) T,by rw[bL];exact gM,by rw[amI];exact ex⟩
def Cf(aA:0<n):∀b H Q,fK K mg (fl n cap it t el) b H Q->uh n cap (uj K mg it) (kC 0) (lA K mg t) (fK K mg el) b H Q:=by
 rintro b H Q ⟨O,U,S,r,P,st,h,q⟩;obtain⟨ds,S1,z,h⟩:=M.inv h;obtain⟨_,N,A,h⟩:=M.inv h;obtain⟨a,rfl⟩:=qT A;obtain⟨xs,V,i,h⟩:=M.inv h;cases h;rw[MV]at i;refine⟨O,U,S,ds,S1,st,z,λp L T ys m w its f=>Jf w a (λH' s=>(its H' s _).2 (ans f.len)) (λk d W e H' E cp g' c=>?_) i λe v H' g c D nn=>q e v H' (m.trans g) c D (nn.back m.same)⟩;cases cp;obtain⟨y,l,B⟩:=(bj.go g' (f.da (j5 p))).get E;obtain⟨go,I⟩:=(its H' g'.same k).1 (akw.mp l).1;refine⟨go,λx u R G F=>?_⟩;obtain⟨rfl,ex⟩:=I x u G;rw[l]at ex;cases ex;exact F _ _ (Go.refl _ _) (c.val B) ((mO.refl _).set (by cases n with|zero=>exact absurd aA (als _)|succ j=>rfl))
end
section
variable{X:aV}{scope esc:Scope}{EN N:List Str}{n:Nat}{cap:List Nat}{elt iter:Expr}{ifs:List Expr}{pos fu:Pos}{x:Str}{it:fN}{t:aJ->M Bool}{el:bw}
def GU{i:Nat}{y:Str}{py c:Pos}(S:k1 esc scope EN N n cap)(m:X.N.Nodup)(k:X.N[i]? = some y)(d:X.env.scope.names.lookup y=some .local)(aA:0<n)(hi:Gm X (.Name x fu) iter it)(e:N[0]? = some x)(b:∀C a s H,Loc (cL X scope N C a s H).env.scope x/\(cL X scope N C a s H).env.scope.names.lookup x=some .local)
  (f:∀C a s H,A7 (cL X scope N C a s H) ifs t) (h:∀C a s H,hp (cL X scope N C a s H) elt el)
  (he:X.env.scope=esc:=by rfl) (hN:X.N=EN:=by rfl) (j:X.calm=true:=by rfl) (ay:∀x,alz iter X.env x=pure x:=by intro _;rfl)
  (l:amj (.ListComp elt [⟨.Name x fu,iter,ifs,0⟩] scope pos) (some (.Name y py)) c.line X.env=pure true:=by rfl) :
  iH X (.Assign [.Name y py] (.ListComp elt [⟨.Name x fu,iter,ifs,0⟩] scope pos) c) (ug (uh n cap (uj X.K X.mg it) (kC 0) (lA X.K X.mg t) (fK X.K X.mg el)) (kC i)):=
 adO (wi:=uj X.K X.mg it) (g:=kC 0) (tt:=lA X.K X.mg t) (te:=fK X.K X.mg el) S m k d hi (λC a s H=>tY S.fB e (b C a s H).1 (.inr (b C a s H).2)) f h he hN j ay l
end
abbrev bp:=List D->M R
def uF(K:aM)(mg:bl)(O:a7)(H:aw):D->V->Prop
 |.l xs,v=>∃a ys,v=.ref a/\dt K H a ys/\bj K mg O H xs ys|d,v=>Rep K mg O H d v
def lG(K:aM)(mg:bl)(O:a7)(H:aw):List D->List V->Prop
 |[],ys=>ys=[]|x::xs,ys=>∃y r,ys=y::r/\uF K mg O H x y/\lG K mg O H xs r
def b6:D->Slot
 |.l xs=>.bU xs|d=>.v d
def GR{O:a7}{r:R}{v:V}(h:et K mg O H r v):uF K mg O H r.arg v:=by
 match r,h with
 |.v (.l xs),h=>obtain⟨a,ys,q,l,r⟩:=h;exact⟨a,ys,q,l.cR,r⟩
 |.fr xs,h=>obtain⟨a,ys,q,l,_,r⟩:=h;exact⟨a,ys,q,dt.of l,r⟩
 |.bU xs,h=>obtain⟨a,ys,q,l,r⟩:=h;exact⟨a,ys,q,l.cR,r⟩
 |.mv xs,h=>obtain⟨a,ys,q,l,r⟩:=h;exact⟨a,ys,q,dt.of l,r⟩
 |.v .aI,h=>exact h|.v (.ax _),h=>exact h|.v (.int _),h=>exact h|.v (.str _),h=>exact h|.v (.t _),h=>exact h|.v (.ref _),h=>exact h|.v (.fn _),h=>exact h|.v (.ty _),h=>exact h
theorem Bu{O:a7}:∀{rs:List R}{vs:List V},i4 K mg O H rs vs->lG K mg O H (rs.map R.arg) vs
 |[],_,h=>h| _::_,_,h=>by obtain⟨y,r,q,a,b⟩:=h;exact⟨y,r,q,GR a,Bu b⟩
theorem lG.len{O:a7}:∀{ds:List D}{vs:List V},lG K mg O H ds vs->vs.length=ds.length
 |[],_,h=>by cases h;rfl
 |_::_,_,h=>by obtain⟨x,r,rfl,_,b⟩:=h;rw[alb,alb,lG.len b]
theorem lG.get{O:a7}:∀{ds:List D}{xs:List V}{i:Nat}{d:D},lG K mg O H ds xs->ds[i]? = some d->∃x,xs[i]? = some x/\uF K mg O H d x
 |[],_,_,_,_,e=>by simp at e| _::_,_,0,d,h,e=>by obtain⟨x,r,rfl,a,_⟩:=h;cases(show some _=some d from e);exact⟨x,rfl,a⟩
 |_::ds,_,i+1,d,h,e=>by
  obtain⟨x,r,rfl,_,b⟩:=h;obtain⟨y,au,aF⟩:=lG.get (i:=i) b (by simpa using e);exact⟨y,by simpa using au,aF⟩
def e1(K:aM)(mg:bl)(mf:bp):ei:=λvs H Q _=>∃O ds r S,di O H/\f3 K mg O H S/\lG K mg O H ds vs/\(mf ds).run S=.ok r S/\∀a v H',Go O a H H'->di a H'->et K mg a H' r v->ju H r v->Q v H'
@[simp] def bo(mf:bp)(ms:c6)(U:aJ):M R:=do
 let rs <-ms U
 mf (rs.map R.arg)
section
variable{mf:bp}{ms:c6}
def B_:∀b H Q,fK K mg (bo mf ms) b H Q->Ax (e1 K mg mf) (oU K mg ms) b H Q:=by
 rintro b H Q ⟨O,U,S,r,j,st,h,q⟩;obtain⟨rs,S1,f,h⟩:=M.inv h;refine⟨O,U,S,rs,S1,st,f,λe vs n c a k nn=>?_⟩;obtain rfl:=(mf _).fb _ _ _ h;exact⟨e,_,r,j,a.cu,a.gD,Bu k,h,λi v H' g d l m=>q i v H' (c.trans g) (a.go g d) l (m.back c.same)⟩
end
def fnOf(n N:Nat)(b:aP):bp:=λds=>if ds.length=n then do
  let a <-b (ds.map b6++akI (N-n) .e)
  match a with
  |.cx (.v d)=>pure (.v d)|.cx (.fr xs)=>pure (.fr xs)|.bu _=>pure (.v .aI)|_=>bad
 else bad
def aeQ{O:a7}{v:V}(h:uF K mg O H d v):jw K mg (d0 O) H w (b6 d) (some v):=by
 have val:Rep K mg O H d v->jw K mg (d0 O) H w (.v d) (some v):=λh=>⟨v,rfl,h.da (j5 O)⟩
 match d,h,val with
 |.l xs,h,_=>
  obtain⟨a,ys,rfl,l,r⟩:=h;exact⟨a,ys,rfl,l.imp (λz=>⟨z,k8 O a⟩) id,r.da (j5 O)⟩
 |.aI,h,val=>exact val h|.ax _,h,val=>exact val h|.int _,h,val=>exact val h|.str _,h,val=>exact val h|.t _,h,val=>exact val h|.ref _,h,val=>exact val h|.fn _,h,val=>exact val h|.ty _,h,val=>exact val h
omit [aC.a4]in
theorem yB{n N:Nat}{ds:List D}{S a:bH}{r:R}(h:(fnOf n N b ds).run S=.ok r a):ds.length=n:=by
 unfold fnOf at h
 by_cases c:ds.length=n
 .exact c
 .rw[if_neg c]at h;cases h
def FF{ps N:List Str}{O:a7}{S:bH}{ds:List D}(b:di O H)(dT:f3 K mg O H S)(f:lG K mg O H ds vs)(hl:ds.length=ps.length):cI K mg (d0 O) (ds.map b6++akI (N.length-ps.length) .e) S (aC.start N vs) H:=by
 have c:=f.len;refine⟨⟨λa g=>b.has a λz=>g (nW.mpr z),b.tabs,IU b⟩,?_,λi s e=>?_,dT.all (λ_ _ z=>Rep.da (j5 O) z) rfl λ_ _ _ l _=>l⟩
 .unfold aC.start
  rw[akB,akB,akz,akz,alr,alr,c,hl]
 .by_cases hi:i<ds.length
  .rw[akV (by rw[akz];exact hi),akN]at e
   cases o:ds[i]? with
   |none=>rw[o]at e;cases e
   |some d=>
    rw[o]at e;cases e;obtain⟨v,j,h⟩:=f.get o;unfold aC.start;rw[akV (by rw[akz,c];exact hi),akN,j];exact aeQ h
  .rw[akX (by rw[akz];omega),al8]at e
   split at e
   .cases e;exact trivial
   .cases e
def IW{ps N:List Str}(V:e1 K mg (fnOf ps.length N.length C) vs H Q E):lz K mg C { bu:=fun _ H'=>Q .aI H',cx:=Q } (aC.start N vs) H:=by
 obtain⟨O,ds,r,S,k,dT,R,h,q⟩:=V;have hl:=yB h;unfold fnOf at h;rw[if_pos hl]at h;obtain⟨A,S1,B,h⟩:=M.inv h;have W:=FF (N:=N) k dT R hl;have y:∀b,H b≠none->d0 O b=.free\/d0 O b=.out:=λb _=>k8 O b
 have back:∀{f:a7}{H':aw},ea (d0 O) f H H'->di f H'->∃j:a7,Go O j H H'/\di j H'/\lI f j/\∀b,(f b=.dn\/∃i,f b=.loc i)->H b=none/\j b=.dn:=λ{f H'} g d=>by
  refine⟨⟨λb=>match H b with|some _=>O b|none=>(match f b with|.loc _=>.dn|o=>o),O.bG⟩,⟨⟨λb o e n=>g.cells b o e ((y b (by rw[e];intro z;cases z)).elim .inl λz=>.inr (.inl z)) n,g.cC,g.b3⟩,λb c=>?_,rfl⟩,⟨λb c=>?_,d.tabs,k.cc.1,λb m=>?_⟩,⟨λb c=>?_,g.bG.symm⟩,λb c=>?_⟩
  .dsimp only
   cases e:H b with
   |none=>exact absurd e c|some o=>rfl
  .dsimp only at c
   cases e:H b with
   |some o=>exact g.has b (by rw[e];intro z;cases z)|none=>
    rw[e]at c;refine d.has b λz=>c ?_
    dsimp only;rw[z]
  .dsimp only
   cases e:H b with
   |some o=>exact k.cc.2 b m| none=>exact absurd e (k.has b (by rw[k.cc.2 b m];intro z;cases z))
  .dsimp only
   cases e:H b with
   |some o=>
    dsimp only;have:=(g.own b (by rw[e];intro z;cases z) (k8 O b)).symm.trans c;exact nW.mp this
   |none=>
    dsimp only;rw[c]
  .have aA:H b=none:=by
    cases e:H b with
    |none=>rfl|some o=>
     exfalso;have br:=g.own b (by rw[e];intro z;cases z) (k8 O b);rcases k8 O b with z|z<;>rw[z]at br<;>rcases c with w|⟨i,w⟩<;>rw[br]at w<;>cases w
   refine⟨aA,?_⟩;dsimp only;rw[aA];rcases c with w|⟨i,w⟩<;>rw[w]
 refine⟨d0 O,_,S,A,S1,W,B,?_⟩
 cases A with
 |bu U'=>
  cases h;intro f X H' g P _;obtain⟨j,u,s,x,_⟩:=back g P.cu;exact q j .aI H' u s rfl trivial
 |bk U'=>cases h
 |cy U'=>cases h
 |cx I=>
  intro f v H' g d D p;obtain⟨j,u,s,x,T⟩:=back g d
  cases I with
  |v dD=>cases h;exact q j v H' u s (Rep.da x p) trivial
  |fr xs=>
   cases h;obtain⟨a,ys,rfl,l,t,F⟩:=p;obtain⟨aA,G⟩:=T a t;exact q j _ H' u s ⟨a,ys,rfl,l,G,F.da x⟩ λb L=>by cases L;exact aA
  |bU xs=>exact alf p|mv xs=>exact alf p
def Lz{P:akZ}{w:World}{K:aM}{mg:bl}{base:Heap}{x qual:Str}{st:Stmt}{ps N:List Str}{k:Nat}{b:aP}{f:Addr}{c:alI}{n nl:Nat}(F:k3 K x qual st f c)(d:gT N ps (dg st))(aA:ps.length=n)(hl:N.length=nl)
  (e:∀(a:Value)(A:ak4)(outer:List Env)(s:akC)(H:aw)(E:gy),cE k (A.deeper (alF qual (dg st) s.heap.objs.size f a))->
   uH (gX eA P w K mg base N qual (dg st) f a A outer s H E).gB (fF st) b):e3 P w K mg base eA (k+1) f c ps (e1 K mg (fnOf n nl b)):=by
 subst aA hl;exact F.ok d (λvs H Q E ⟨O,ds,r,S,j,dT,g,h,q⟩=>g.len.trans (yB h)) λa A outer s H vs Q E aD i=>⟨_,e a A outer s H E aD,IW i⟩
def vt{P:akZ}{w:World}{K:aM}{mg:bl}{base:Heap}{x:Str}{st:Stmt}{ps N:List Str}{k:Nat}{c:aP}{n nl:Nat}(gR:gR K mg x st ps)(d:gT N ps (dg st))(aA:ps.length=n)(hl:N.length=nl)
  (e:∀(f:Addr)(a:Value)(A:ak4)(outer:List Env)(s:akC)(H:aw)(E:gy),cE k (A.deeper (alF x (dg st) s.heap.objs.size f a))->
   uH (gX eA P w K mg base N x (dg st) f a A outer s H E).gB (fF st) c):eU P w K mg base x ps (k+1) (e1 K mg (fnOf n nl c)):=by
 obtain⟨f,g,F,b,m⟩:=gR.ex;exact⟨f,g,Lz F d aA hl (λa=>e f a),b,F.kp,m⟩
omit [aC.a4]in
theorem K1{K:aM}{h:Heap}{mg:bl}{x:Str}{st:Stmt}{f:Addr}{ps:List Str}{j b:Option Addr}{ba:Array (Option Value)}{cw du m e cd cy:Value}(X:K.In h)(G:h.Ns ak9 mg)
  (a:anE K ak9 x=some (some (.ref f))) (l:K.lookup f=some ⟨cw,j,.func (amv x x (iM st) (fF st) (dg st) .none du m e b cd cy),ba⟩) (c:aod K cd x=true) (k:amx K (.ref f)=true)
  (g:∀(du d e:Value)(b:Option Addr)(i cy:Value)(us:List Value),us.length=ps.length->amN (amv x x (iM st) (fF st) (dg st) .none du d e b i cy) ⟨us,[]⟩=pure (ps.zip us)):gR K mg x st ps:=
 ⟨f,_,yF (st:=st) l c k,(yF (st:=st) l c k).binds g,aof X G a⟩
abbrev w9(K:aM):ei:=λvs H Q _=>∃(a:Addr)(ns:List Int),vs=[.ref a]/\dt K H a (ns.map V.int)/\ns.length<=63/\TabsOk H/\∀H',Q (.ax true) H'
abbrev pg:Nat:=10715086071862673209484250490600018105614048117055336074437503883703510511249361224931983788156958581275946729175531468251871452856923140435984577574698574803934567774824230985421074605062371141877954182153046474983581941267398767559165543946077062914571196477686542167660429831652624386837205668069376
omit [aC.a4]in
theorem IM:pg=2 ^ 1000:=by decide +kernel
omit [aC.a4]in
theorem NS{i:Int}(h:i.natAbs<pg):alL i<=1000:=by
 unfold alL;split
 .exact alh _
 .rename_i hz
  have:i.natAbs.log2<1000:=(Nat.log2_lt (by simpa using hz)).mpr (IM▸h);omega
def iB(i j:Int):Prop:=(-(2 ^ 64)<i/\i<2 ^ 64)\/(-(2 ^ 64)<j/\j<2 ^ 64)\/(i.natAbs<pg/\j.natAbs<pg)
omit [aC.a4]in
theorem iB.ok{i j:Int}(h:iB i j):IntMulOk i j:=by
 rcases h with h|h|h
 .exact(show xA i j from .inl h).ok
 .exact(show xA i j from .inr h).ok
 .have b:=NS h.1
  have c:=NS h.2;have a:apa (alL i+alL j)=false:=by
   unfold apa;refine decide_eq_false ?_;have:(2000:Int)<=((bitsLine:Nat):Int):=by decide
   omega
  unfold IntMulOk;rw[a];simp
instance (i j:Int):Decidable (iB i j):=by unfold iB;exact inferInstance
def acm:dU X (amo .Mult) (kk iB λi j=>.int (i*j)):=tU λ_ _ _ _ _ _ _ a q=>PyProof.Rows.mul_int q a.ok
abbrev nC:=oH iB (· * ·)
def Ry{X:aV}:d_ X.K X.mg (kk iB λi j=>.int (i*j)) nC:=sr λ_ _ h=>h
def pj(_ j:Int):Prop:=0<j/\j.natAbs<pg
instance (i j:Int):Decidable (pj i j):=by unfold pj;exact inferInstance
def acg:dU X (amo .FloorDiv) (kk pj λi j=>.int (i / j)):=tU λi j _ _ _ _ _ a q=>by
 have c:(0:Int)<j:=a.1;have b:j.natAbs<pg:=a.2;refine PyProof.Rows.floordiv_int (by omega) (by rw[aou i (by omega)];exact q) (.inl (PyProof.noPylong_of_log2 ?_));have:j.natAbs.log2<1000:=(Nat.log2_lt (by omega)).mpr (IM▸b);omega
abbrev e0:=oH pj (· / ·)
def Rv{X:aV}:d_ X.K X.mg (kk pj λi j=>.int (i / j)) e0:=sr λ_ _ h=>h
def oBits:R->M R
 |.v (.int i)=>pure (.v (.int (alL i:Nat)))|_=>bad
structure Gk(mg:bl):Prop where
 len:mg "len"=none
 range:mg "range"=none
 isinstance:mg "isinstance"=none
 max:mg "max"=none
 min:mg "min"=none
 any:mg "any"=none
 all:mg "all"=none
 Yv:mg "int"=none
 SD:mg "bool"=none
 D_:mg "list"=none
 tuple':mg "tuple"=none
 ae3:mg "str"=none
 abs:mg "abs"=none
 sorted:mg "sorted"=none
 sum:mg "sum"=none
 zip:mg "zip"=none
 enumerate:mg "enumerate"=none
 reversed:mg "reversed"=none
 akf:mg "set"=none
omit [aC.a4]in
theorem SJ:alm "abs"=some (.builtin "abs"):=by decide +kernel
omit [aC.a4]in
theorem SS:alm "min"=some (.builtin "min"):=by decide +kernel
end aE
namespace aE
open PySem PySem.Spec aC
@[simp] theorem aij{α a:Type}(f:α->M a):(bad >>= f)=bad:=rfl
@[simp] theorem ain{p:Prop}[Decidable p]:hx p=if p then pure ()else bad:=rfl
@[simp] theorem TR:af d U=pure (.v d):=rfl
@[simp] theorem ajw:R.oX (.v (.ax b))=pure b:=rfl
@[simp] theorem ah4{g:Int->Int->Int}{i j:Int}:rJ g (.v (.int i)) (.v (.int j))=pure (.v (.int (g i j))):=rfl
@[simp] theorem ah3{C:Int->Int->Prop}[∀i j,Decidable (C i j)]{g:Int->Int->Int}{i j:Int}:oH C g (.v (.int i)) (.v (.int j))=if C i j then pure (.v (.int (g i j)))else bad:=rfl
@[simp] theorem ah2{g:Int->Int->Bool}{i j:Int}:rH g (.v (.int i)) (.v (.int j))=pure (.v (.ax (g i j))):=rfl
@[simp] theorem aik{i:Int}:oBits (.v (.int i))=pure (.v (.int (alL i:Nat))):=rfl
@[simp] theorem ai7:ai U=pure []:=rfl
@[simp] theorem aiw:R.dat (.v d)=pure d:=rfl
@[simp] theorem ait:R.dat (.fr xs)=pure (.l xs):=rfl
@[simp] theorem aiv:m8 []=pure []:=rfl
@[simp] theorem aiu{r:R}:m8 (r::rs)=(do
  let d <-r.dat
  let ds <-m8 rs
  pure (d::ds)):=rfl
@[simp] theorem ai4:R.ft (.v (.l xs))=some xs:=rfl
@[simp] theorem ai1:R.ft (.fr xs)=some xs:=rfl
@[simp] theorem ai5:R.ft (.bU xs)=some xs:=rfl
@[simp] theorem ai2:R.ft (.mv xs)=some xs:=rfl
@[simp] theorem ajh:R.seq (.v (.l xs))=some xs:=rfl
@[simp] theorem ajg:R.seq (.v (.t xs))=some xs:=rfl
@[simp] theorem aje:R.seq (.fr xs)=some xs:=rfl
@[simp] theorem aji:R.seq (.bU xs)=some xs:=rfl
@[simp] theorem ajf:R.seq (.mv xs)=some xs:=rfl
@[simp] theorem ajd:R.own (.v (.l xs))=some xs:=rfl
@[simp] theorem ajb:R.own (.fr xs)=some xs:=rfl
@[simp] theorem ajc:R.own (.mv xs)=some xs:=rfl
@[simp] theorem aib:R.arg (.v d)=d:=rfl
@[simp] theorem ah9:R.arg (.fr xs)=.l xs:=rfl
@[simp] theorem aic:R.arg (.bU xs)=.l xs:=rfl
@[simp] theorem aia:R.arg (.mv xs)=.l xs:=rfl
@[simp] theorem aiZ{x:R}:fS [x]=match x.seq with
  |some xs=>pure (.v (.int (xs.length:Nat)))|none=>bad:=rfl
@[simp] theorem aiV:R.kind (.v .aI)=some "NoneType":=rfl
@[simp] theorem aiQ:R.kind (.v (.ax b))=some "bool":=rfl
@[simp] theorem aiS{i:Int}:R.kind (.v (.int i))=some "int":=rfl
@[simp] theorem aiW:R.kind (.v (.str x))=some "str":=rfl
@[simp] theorem aiX:R.kind (.v (.t xs))=some "tuple":=rfl
@[simp] theorem aiT:R.kind (.v (.l xs))=some "list":=rfl
@[simp] theorem aiR:R.kind (.fr xs)=some "list":=rfl
@[simp] theorem aiY:R.kind (.bU xs)=some "list":=rfl
@[simp] theorem aiU:R.kind (.mv xs)=some "list":=rfl
@[simp] theorem aiB{x:R}:gY [x,.v (.ty n)]=match x.kind with
  |some t=>if n∈["int","bool","tuple","list","str"]then pure (.v (.ax (vM t n)))else bad|none=>bad:=rfl
@[simp] theorem aiC:vM t n=(t==n||(t == "bool"&&n == "int")):=rfl
@[simp] theorem ah1{g:Int->Int->Int}{i j:Int}:q8 g [.v (.int i),.v (.int j)]=pure (.v (.int (g i j))):=rfl
@[simp] theorem ah5{i:Int}:vg [.v (.int i)]=pure (.v (.int (if i<0 then -i else i))):=rfl
@[simp] theorem ah7{x:R}:vh [x]=match x.ft.bind lT with
  |some bs=>pure (.v (.ax (bs.any id)))|none=>bad:=rfl
@[simp] theorem ah6{x:R}:n7 [x]=match x.ft.bind lT with
  |some bs=>pure (.v (.ax (bs.all id)))|none=>bad:=rfl
theorem yb{α:Type}(p:α->Bool):∀xs:List α,lT (xs.map λx=>D.ax (p x))=some (xs.map p)
 |[]=>rfl| x::xs=>by rw[akO,akO,lT,yb p xs];rfl
@[simp] theorem ai3{x:R}:vi [x]=match x.seq with
  |some xs=>pure (.fr xs)|none=>bad:=rfl
@[simp] theorem ajx{x:R}:pP [x]=match x.seq with
  |some xs=>pure (.v (.t xs))|none=>bad:=rfl
def Bx{α:Type}{xs:List α}{k:Nat}(h:k<xs.length):dY xs (k:Int)=some xs[k]:=GY (by simp[h])
@[simp] theorem aiO{i:Int}:aH (.v (.t xs)) (.v (.int i))=match dY xs i with
   |some d=>pure (.v d)|none=>bad:=rfl
@[simp] theorem aiM{i:Int}:aH (.v (.l xs)) (.v (.int i))=match dY xs i with
   |some d=>pure (.v d)|none=>bad:=rfl
@[simp] theorem aiL{i:Int}:aH (.fr xs) (.v (.int i))=match dY xs i with
   |some d=>pure (.v d)|none=>bad:=rfl
@[simp] theorem aiP{i:Int}:aH (.bU xs) (.v (.int i))=match dY xs i with
   |some d=>pure (.v d)|none=>bad:=rfl
@[simp] theorem aiN{i:Int}:aH (.mv xs) (.v (.int i))=match dY xs i with
   |some d=>pure (.v d)|none=>bad:=rfl
def i7{α:Type}{xs:List α}(k:Nat){v:α}(h:xs[k]? = some v):dY xs (k:Int)=some v:=GY h
@[simp] theorem aid{α:Type}{x:α}{xs:List α}:dY (x::xs) 0=some x:=i7 0 rfl
@[simp] theorem aie{α:Type}{x y:α}{xs:List α}:dY (x::y::xs) 1=some y:=i7 1 rfl
@[simp] theorem aif{α:Type}{x y z:α}{xs:List α}:dY (x::y::z::xs) 2=some z:=i7 2 rfl
@[simp] theorem aih{α:Type}{x y z w:α}{xs:List α}:dY (x::y::z::w::xs) 3=some w:=i7 3 rfl
@[simp] theorem aii{α:Type}{x y z w v:α}{xs:List α}:dY (x::y::z::w::v::xs) 4=some v:=i7 4 rfl
@[simp] theorem ah8{r:R}:jo xs [r]=(do
  let d <-r.dat
  hx (xs.length<akA)
  pure (.v .aI,xs++[d])):=rfl
@[simp] theorem aiy{r:R}:xf xs [r]=match r.own with
  |some ys=>do
   hx (xs.length+ys.length<=akA)
   pure (.v .aI,xs++ys)
  |none=>bad:=rfl
@[simp] theorem ai8:lV U=pure none:=rfl
@[simp] theorem ajk{l h:Option Int}:oJ (.fr xs) l h=pure (.fr (cutD xs l h)):=rfl
@[simp] theorem ajv{l h:Option Int}:oJ (.bU xs) l h=pure (.fr (cutD xs l h)):=rfl
@[simp] theorem ajm{l h:Option Int}:oJ (.mv xs) l h=pure (.fr (cutD xs l h)):=rfl
@[simp] theorem ajl{l h:Option Int}:oJ (.v (.l xs)) l h=pure (.fr (cutD xs l h)):=rfl
@[simp] theorem Lb{xs:List D}{l h:Option Int}:oJ (.v (.t xs)) l h=if c1.cv xs.length 0 l=0/\c1.cv xs.length xs.length h=xs.length then bad else pure (.v (.t (cutD xs l h))):=rfl
@[simp] theorem aip{cap:List Nat}:hP n cap U=akI n .e++cap.map λk=>qW U[k]?:=rfl
@[simp] theorem air:qW (some (.v d))=.v d:=rfl
@[simp] theorem aiq:qW (some (.d9 p xs))=.bU xs:=rfl
@[simp] theorem ais:qW (some (.bU xs))=.bU xs:=rfl
@[simp] theorem ajz:fJ U=pure true:=rfl
@[simp] theorem aiA{x:R}:h4 x (.v .aI)=pure (.v (.ax x.kb)):=rfl
@[simp] theorem ai9{x:R}:hF x (.v .aI)=pure (.v (.ax (!x.kb))):=rfl
@[simp] theorem aiD:R.kb (.v .aI)=true:=rfl
@[simp] theorem aiG{i:Int}:R.kb (.v (.int i))=false:=rfl
@[simp] theorem aiJ:R.kb (.v (.t xs))=false:=rfl
@[simp] theorem aiF:R.kb (.fr xs)=false:=rfl
@[simp] theorem aiI:R.kb (.v (.str x))=false:=rfl
@[simp] theorem aix{i j:Int}:oEq (.v (.int i)) (.v (.int j))=pure (.v (.ax (i==j))):=rfl
@[simp] theorem ai6{i j:Int}:dI (.v (.int i)) (.v (.int j))=pure (.v (.ax (!(i==j)))):=rfl
def pN{x y:R}(b:x.arg.b3 64=true)(a:y.arg.b3 64=true):oEq x y=pure (.v (.ax (eT x.arg y.arg))):=if_pos ⟨b,a⟩
def vc{x y:R}(b:x.arg.b3 64=true)(a:y.arg.b3 64=true):dI x y=pure (.v (.ax (!eT x.arg y.arg))):=if_pos ⟨b,a⟩
@[simp] theorem ajq:b6 (.l xs)=.bU xs:=rfl
@[simp] theorem ajp{i:Int}:b6 (.int i)=.v (.int i):=rfl
@[simp] theorem ajt:b6 (.t xs)=.v (.t xs):=rfl
@[simp] theorem ajs:b6 (.str x)=.v (.str x):=rfl
@[simp] theorem ajr:b6 .aI=.v .aI:=rfl
@[simp] theorem ajn:b6 (.ax b)=.v (.ax b):=rfl
@[simp] theorem yr{n N:Nat}{ds:List D}:fnOf n N b ds=if ds.length=n then(do
  let a <-b (ds.map b6++akI (N-n) .e)
  match a with
  |.cx (.v d)=>pure (.v d)|.cx (.fr xs)=>pure (.fr xs)|.bu _=>pure (.v .aI)| _=>bad)else bad:=rfl
theorem Lp{b:D->aP}(J:Nat->aJ->Prop):∀(ds:List D)(k:Nat)(U:aJ),J k U->(∀i d U,ds[i]? = some d->J (k+i) U->∃U',(b d U=pure (.bu U')\/b d U=pure (.cy U'))/\J (k+i+1) U')->
  ∃U',kA b ds U=pure (.bu U')/\J (k+ds.length) U'
 |[],k,U,h0,_=>⟨U,rfl,h0⟩
 |d::ds,k,U,h0,step=>by
  obtain⟨g,e,a⟩:=step 0 d U rfl h0;obtain⟨f,aF,c⟩:=Lp J ds (k+1) g a λi d' U' hd h=>by
   have:=step (i+1) d' U' (by simpa using hd) (by rw[show k+(i+1)=k+1+i by omega];exact h);rw[show k+(i+1)+1=k+1+i+1 by omega]at this;exact this
  refine⟨f,?_,by rw[alb,show k+(ds.length+1)=k+1+ds.length by omega];exact c⟩;show(b d U >>= _)=_;rcases e with e|e<;>rw[e]<;>exact aF
def sM{b:D->aP}{ds:List D}(J:Nat->aJ->Prop)(c:J 0 U)(step:∀i d U,ds[i]? = some d->J i U->∃U',(b d U=pure (.bu U')\/b d U=pure (.cy U'))/\J (i+1) U') :
  ∃U',kA b ds U=pure (.bu U')/\J ds.length U':=by
 obtain⟨U',e,h⟩:=Lp J ds 0 U c λi d U hd a=>by
  rw[amQ]at a ⊢;exact step i d U hd a
 exact⟨U',e,by rw[amQ]at h;exact h⟩
def Ak{lo:Int}(h:(en lo n)[i]? = some d):i<n/\d=.int (lo+(i:Nat)):=by
 have hi:i<n:=by
  have:=(akw.mp h).1
  rwa[ql]at this
 unfold en at h;rw[akN,amc hi]at h;cases h;exact⟨hi,rfl⟩
def Rm{ns:List Int}(h:k<ns.length):dY (ns.map D.int) (k:Int)=some (.int (ns.getD k 0)):=by
 refine i7 k ?_;rw[akN,akJ h];simp[alJ,h]
def mod_lt{a b:Int}(h:0<b):0<=a % b/\a % b<b:=⟨Int.emod_nonneg _ (by omega),Int.emod_lt_of_pos _ h⟩
def ZO{i:Int}(a:-(10 ^ 200)<i)(b:i<10 ^ 200):i.natAbs<pg:=by
 unfold pg;omega
def EB{i j:Int}(a:-(2 ^ 64)<i)(b:i<2 ^ 64):iB i j:=.inl ⟨a,b⟩
def Ct{i j:Int}(a:0<j)(b:j<10 ^ 200):pj i j:=⟨a,ZO (by omega) b⟩
end aE
namespace aE
open PySem PySem.Spec aC
variable[aC.a4]
def sP:List Nat->pA
 |[]=>LI|i::is=>LG (kC i) (sP is)
section
variable{X:aV}{is:List Nat}{az:List Expr}
def OA{i:Nat}{x:Str}{p:Pos}(hN:X.N.Nodup)(hi:X.N[i]? = some x)(a:Loc X.env.scope x)(h:qJ X az (sP is))(ay:(alw (.Name x p::az) X.env).map (·.2)=amY (.Name x p) X.env::(alw az X.env).map (·.2):=by rfl)
  (b:X.fn x=true\/X.env.scope.names.lookup x=some .local:=by first|exact .inl rfl|exact .inr rfl|assumption):qJ X (.Name x p::az) (sP (i::is)):=ady (tY hN hi a b) h ay
def adz:qJ X [] (sP []):=adA
end
def nums:List D->Option (List Int)
 |[]=>some []|.int b::r=>(nums r).map (b::·)|_=>none
section
variable{K:aM}{mg:bl}
theorem z4{O:a7}:∀{ds:List D}{ys:List V}{bs:List Int},bj K mg O H ds ys->nums ds=some bs->ys=bs.map V.int
 |[],ys,bs,h,e=>by cases e;exact h
 |d::ds,ys,bs,h,e=>by
  cases d with
  |int b=>
   have e:(nums ds).map (b::·)=some bs:=e;obtain⟨cs,au,rfl⟩:=anD.mp e;obtain⟨y,r,rfl,a,c⟩:=h;rw[z4 c au,show y=.int b from a];rfl
  |_=>exact absurd (show(none:Option (List Int))=some bs from e) (by intro z;cases z)
end
end aE
namespace aE
open PySem PySem.Spec aC
section
variable[aC.a4](X:aV)
structure bc(e:Expr)(m:bw):Prop where
 un:hp X e m
structure fh(e:Expr)(m:aJ->M Bool):Prop where
 un:Gp X e m
structure k6(e:Expr)(m:aJ->M Bool):Prop where
 un:xC X e m
structure gx(e:List Expr)(m:c6):Prop where
 un:Gl X e m
structure pB(e:Option Expr)(m:lK):Prop where
 un:Qw X e m
structure fR(e:Stmt)(m:aP):Prop where
 un:Qx X e m
structure ht(e:List Stmt)(m:aP):Prop where
 un:uH X e m
structure qO(cg e:Expr)(m:fN):Prop where
 un:Gm X cg e m
structure xV(cg e:Expr)(m:fN):Prop where
 un:Qv X cg e m
structure qN(e:List Expr)(m:aJ->M Bool):Prop where
 un:A7 X e m
end
section
variable[aC.a4]
variable{X:aV}{a e:Expr}{pos:Pos}
theorem dM(i:Nat)(hN:X.N[i]? = some x:=by rfl)(f:qL X.env.scope x:=by first|exact amw rfl|exact alA (.inl rfl)|exact alA (alA rfl))(hd:(x==("__debug__":Str))=false:=by decide)(g:(x==("__classdict__":Str))=false:=by decide):bc X (.Name x pos) (I i):=⟨ee (Ac hN f hd g) λb H Q c=>by
 obtain⟨O,U,S,r,j,st,h,q⟩:=c;unfold I at h
 cases e:U[i]? with
 |none=>rw[e]at h;cases h
 |some s=>
  rw[e]at h;have l:=st.loc i s e;have get:∀{v:V},b[i]?.join=some v->b[i]? = some (some v):=λ{v} z=>by
   cases w:b[i]? with
   |none=>rw[w]at z;cases z
   |some y=>rw[w]at z;exact congrArg some z
  cases s with
  |v d=>
   obtain⟨v,au,aF⟩:=l;cases h;exact⟨v,get au,q O v H (Go.refl _ _) st aF trivial⟩
  |d9 p xs=>
   obtain⟨a,ys,au,aF,cO,eJ⟩:=l;cases h;exact⟨_,get au,q O _ H (Go.refl _ _) st ⟨a,ys,rfl,cO,eJ⟩ trivial⟩
  |bU xs=>
   obtain⟨a,ys,au,aF,eJ⟩:=l;cases h;exact⟨_,get au,q O _ H (Go.refl _ _) st ⟨a,ys,rfl,aF,eJ⟩ trivial⟩
  |e=>cases h⟩
end
section
variable[aC.a4]
variable{X:aV}{e:Expr}{az:List Expr}{m:bw}{ms:c6}
def eO(n:bc X e m)(aD:gx X az ms)(ay:akx (e::az) X.env=(false,eval e X.env)::akx az X.env:=by rfl):gx X (e::az) (aa m ms):=⟨Aa (wR n.un aD.un ay) λw H Q j=>by
 obtain⟨O,U,S,r,u,st,h,q⟩:=j;obtain⟨x,S1,k,h⟩:=M.inv h;obtain⟨xs,t,l,h⟩:=M.inv h;cases h;refine⟨O,U,S,x,S1,st,k,λf a s b i d bu=>?_⟩;refine⟨f,U,S1,xs,_,i,l,λp vs g c bK rs ns=>?_⟩;exact q p (a::vs) g (b.trans c) bK ⟨a,vs,rfl,d.go c,rs⟩ ⟨bu,ns.back b.same⟩⟩
end
section
variable[aC.a4]
variable{X:aV}{pos:Pos}
def gG{i j pos}:bc X (.Constant (.int i) j pos) (af (.int i)):=⟨u6 adg λ_ _=>rfl⟩
end
section
variable[aC.a4]
variable{X:aV}
def iX :gx X [] ai:=⟨Aa Ab λc H Q a=>by
 obtain⟨O,U,S,r,b,st,h,q⟩:=a;cases h;exact q O [] H (Go.refl _ _) st rfl trivial⟩
end
section
variable[aC.a4]
variable{X:aV}{a b:Expr}{cQ cT:bw}{pos:Pos}
def kW{op:Operator}{r:fg}(c:dU X (amo op) r)(g:d_ X.K X.mg r f)(e:bc X a cQ)(d:bc X b cT):bc X (.BinOp a op b pos) (ae f cQ cT):=⟨ee (ado c e.un d.un) (yd g)⟩
end
section
variable[aC.a4]
variable{X:aV}{st:Stmt}{rest:List Stmt}{a b:aP}
def nN(c:fR X st a)(k:ht X rest b):ht X (st::rest) (bM a b):=⟨Ad (OH c.un k.un) λD p H j=>by
 obtain⟨O,U,S,g,l,st,h,q⟩:=j;obtain⟨e,S1,c,h⟩:=M.inv h;refine⟨O,U,S,e,S1,st,c,?_⟩
 cases e with
 |bu d=>exact λf s n m i ej=>⟨f,d,S1,g,l,i,h,q.b0 m ej⟩
 |cx r=>cases h;exact q
 |bk d=>cases h;exact q
 |cy d=>cases h;exact q⟩
end
section
variable[aC.a4]
variable{X:aV}{st:Stmt}{a:aP}
def qw(h:fR X st a):ht X [st] a:=⟨OI h.un⟩
end
section
variable[aC.a4]
variable{X:aV}{a b:Expr}{cQ cT:bw}{pos:Pos}
def ho{r:fg}(c:mQ X r)(g:d_ X.K X.mg r f)(e:bc X a cQ)(d:bc X b cT)(ay:GH b:=by exact λ_ _=>rfl):bc X (.Subscript a b pos) (ae f cQ cT):=⟨ee (adh c e.un d.un ay) (yd g)⟩
end
section
variable[aC.a4]
variable{X:aV}{st:Stmt}{pos:Pos}{e:Expr}{m:bw}
theorem r6(he:bc X e m):fR X (.Return (some e) pos) (aY m):=⟨hk (E4 he.un) λD n H i=>by
 obtain⟨O,U,S,k,l,st,h,q⟩:=i;obtain⟨r,S1,j,h⟩:=M.inv h;refine⟨O,U,S,r,S1,st,j,λc v b g a f nn=>?_⟩
 cases r with
 |v d=>cases h;exact q c v b g.b0 a.cu a.gD f
 |fr xs=>cases h;exact q c v b g.b0 a.cu a.gD (O' f (.inr ⟨_,rfl⟩))
 |bU xs=>cases h
 |mv xs=>cases h⟩
end
section
variable[aC.a4]
variable{X:aV}{az:List Expr}{ms:c6}{pos:Pos}
def o7{o}(h:gx X az ms):bc X (.Tuple az o pos) (bO ms):=⟨ee (adt h.un) λs H Q e=>by
 obtain⟨O,U,S,r,n,st,h,q⟩:=e;obtain⟨rs,S1,f,h⟩:=M.inv h;obtain⟨ds,m,g,h⟩:=M.inv h;obtain⟨_,t,i,h⟩:=M.inv h;obtain⟨hl,rfl⟩:=qT i;cases h;refine⟨O,U,S,rs,S1,st,f,λc vs l k d j nn=>?_⟩;obtain⟨b,rfl⟩:=Cs (H₀:=H) j nn g;refine⟨ame (fU (by rw[b.len];exact hl)),λp a=>?_⟩;exact q (cM H c) _ _ (k.cM.trans (Go.hh a)) ((d.cM H).hh a) ⟨p,vs,rfl,dB.of dZ,b.go (Go.hh a)⟩ trivial⟩
end
section
variable[aC.a4]
variable{X:aV}{pos:Pos}{e:Expr}{m:bw}
variable{i:Nat}{x:Str}{pos':Pos}
def F5(hN:X.N.Nodup)(hi:X.N[i]? = some x)(a:Loc X.env.scope x)(he:bc X e m)(ay:amj e (some (.Name x pos')) pos.line X.env=pure false:=by rfl)(b:X.fn x=true\/X.env.scope.names.lookup x=some .local:=by first|exact .inl rfl|exact .inr rfl|assumption):fR X (.Assign [.Name x pos'] e pos) (cn i m):=⟨hk (E5 hN hi a he.un ay b) (Pl λ_ _ _ h=>h)⟩
end
section
variable[aC.a4]
variable{X:aV}{x:Str}{ps:List Str}{k:Nat}{mf:bp}{p pos:Pos}{e:Expr}{az:List Expr}{ms:c6}
def agn(h:eU X.prog X.w X.K X.mg X.base x ps k (e1 X.K X.mg mf))(aD:cE k X.A)(a:d6 X x)(b:gx X (e::az) ms)(c:(x==("__debug__":Str))=false:=by decide)(he:akx (e::az) X.env=(false,eval e X.env)::akx az X.env:=by rfl)(d:(ak3 pos (akx az X.env)).any (·.1)=false:=by rfl):bc X (.Call (.Name x p) (e::az) [] pos) (bo mf ms):=⟨ee (Ou h aD a b.un c he d) B_⟩
end
section
variable[aC.a4]
variable{X:aV}{x:Str}{ps:List Str}{k:Nat}{mf:bp}{p pos:Pos}
def ago(h:eU X.prog X.w X.K X.mg X.base x ps k (e1 X.K X.mg mf))(aD:cE k X.A)(a:d6 X x)(d:(x==("__debug__":Str))=false:=by decide):bc X (.Call (.Name x p) [] [] pos) (bo mf ai):=⟨ee (ade h aD a d) λc H Q h=>by
  obtain⟨O,U,S,rs,S1,st,b,q⟩:=B_ c H Q h;cases b;exact q O [] H (Go.refl _ _) st rfl trivial⟩
end
section
variable[aC.a4]
variable{X:aV}{e:Expr}{az:List Expr}{ms:c6}{pos p:Pos}{x:Str}{id:String}{r:List V->aw->cU->Prop}{f:List R->M R}
def qv(h:jV X (.builtin id) r)(i:kZ X.K X.mg r f)(a:d6 X x)(j:X.mg x=none)(c:alm x=some (.builtin id))(b:gx X (e::az) ms)(aA:x≠"__name__":=by decide)(d:(x==("__debug__":Str))=false:=by decide)(he:akx (e::az) X.env=(false,eval e X.env)::akx az X.env:=by rfl)(g:(ak3 pos (akx az X.env)).any (·.1)=false:=by rfl):bc X (.Call (.Name x p) (e::az) [] pos) (cJ f ms):=⟨ee (ac6 h a j c b.un aA d he g) (I2 i)⟩
end
section
variable[aC.a4]
variable{X:aV}{st:Stmt}{pos:Pos}{a b:aP}
theorem F4{A B:List Stmt}(n:fh X c t)(m:ht X A a)(k:ht X B b):fR X (.If c A B pos) (b8 t a b):=⟨hk (OF n.un m.un k.un) λD r H j=>by
 obtain⟨O,U,S,e,g,st,h,q⟩:=j;obtain⟨t,S1,l,h⟩:=M.inv h;refine⟨O,U,S,t,S1,st,l,λd p i f=>?_⟩
 cases t with
 |false=>
  rw[if_neg akD]at h;exact nr ⟨d,U,S1,e,g,f,h,q.b0 i.b0 (fw.refl _ _)⟩
 |true=>
  rw[if_pos rfl]at h;exact nt ⟨d,U,S1,e,g,f,h,q.b0 i.b0 (fw.refl _ _)⟩⟩
end
section
variable[aC.a4]
variable{X:aV}{st:Stmt}
theorem F6 :ht X [] bQ:=⟨Ad adR λD b H a=>by obtain⟨O,U,S,c,d,st,h,q⟩:=a;cases h;exact q O b H (ea.refl _ _) st (fw.refl _ _)⟩
end
section
variable[aC.a4]
variable{X:aV}{a b:Expr}{cQ cT:bw}{pos:Pos}
def iY{op:CmpOp}{r:fg}(d:dU X (alj op) r)(i:d_ X.K X.mg r f)(g:bc X a cQ)(e:bc X b cT)(j:amu op b=false:=by exact iw _):fh X (.Compare a [op] [b] pos) (aL (ae f cQ cT)):=⟨rU (adT d g.un e.un j) λc H Q h=>PE (yd i) c H Q (FQ c H Q h)⟩
end
section
variable[aC.a4]
variable{X:aV}{a:Expr}{cQ:bw}{pos:Pos}
def agZ(c:bc X a cQ)(he:∀b,isTrue a X.env b=(do let v <-b;amB a.pos;alU [v] (truthy v)):=by intro _;rfl):fh X a (aL cQ):=⟨rU (OK c.un he) λd H Q h=>FQ d H Q h⟩
end
section
variable[aC.a4]
variable{X:aV}{e:Expr}
def kV{v:V}(h:bZ X e (oS v))(r:∀O H,Rep X.K X.mg O H d v):bc X e (af d):=⟨u6 h r⟩
end
section
variable[aC.a4]
variable{X:aV}{az:List Expr}{ms:c6}{pos:Pos}
def agv(h:gx X az ms):bc X (.List az pos) (eu ms):=⟨ee (adj h.un) λu H Q g=>by
 obtain⟨O,U,S,r,t,st,h,q⟩:=g;obtain⟨rs,S1,i,h⟩:=M.inv h;obtain⟨ds,s,j,h⟩:=M.inv h;obtain⟨_,w,k,h⟩:=M.inv h;obtain⟨hl,rfl⟩:=qT k;cases h;refine⟨O,U,S,rs,S1,st,i,λe vs n d f l nn=>?_⟩;obtain⟨c,rfl⟩:=Cs (H₀:=H) l nn j;refine⟨ame (fU (by rw[c.len];exact hl)),λp b=>?_⟩;refine q (fV (cM H e) p .dn) _ _ (d.cM.trans (Go.new b)) ((f.cM H).new b) ⟨p,vs,rfl,dZ,lC,c.go (Go.new b)⟩ λa m=>?_
 cases m;exact d.same.free b⟩
end
section
variable[aC.a4]
variable{X:aV}{b:Expr}{pos:Pos}
def agm{b j pos}:bc X (.Constant (.bool b) j pos) (af (.ax b)):=⟨u6 ac2 λ_ _=>rfl⟩
end
section
variable[aC.a4]
variable{X:aV}{a:Expr}{bW:aJ->M Bool}{pos:Pos}
def agY(g:fh X a bW):fh X (.UnaryOp .Not a pos) (ep bW):=⟨rU (OJ g.un) λk H Q e=>by
 obtain⟨O,U,S,r,j,st,h,q⟩:=e;obtain⟨t,S1,f,h⟩:=M.inv h;cases h;exact⟨O,U,S,t,_,st,f,λc b i d=>q c b i d⟩⟩
end
section
variable[aC.a4]
variable{X:aV}{a b:Expr}{bW cC:aJ->M Bool}{pos:Pos}
variable{rest:List Expr}
def ag2(n:fh X a bW)(j:k6 X (.BoolOp .Or (b::rest) pos) cC):k6 X (.BoolOp .Or (a::b::rest) pos) (gb bW cC):=⟨OQ (ad3 n.un j.un) λs H Q i=>by
 obtain⟨O,U,S,r,m,st,h,q⟩:=i;obtain⟨t,S1,k,h⟩:=M.inv h;refine⟨O,U,S,t,S1,st,k,λc f e d=>?_⟩
 cases t with
 |true=>
  rw[if_pos rfl]at h;cases h;exact nt (q c f e d)
 |false=>
  rw[if_neg akD]at h;exact nr ⟨c,U,S1,r,m,d,h,λl H' g p=>q l H' (e.trans g) p⟩⟩
end
section
variable[aC.a4]
variable{X:aV}{pos:Pos}
def P0{x j pos}:bc X (.Constant (.str x) j pos) (af (.str x)):=⟨u6 adq λ_ _=>rfl⟩
end
section
variable[aC.a4]
variable{X:aV}{pos:Pos}
def agz{j pos}:bc X (.Constant .none j pos) (af .aI):=⟨u6 adm λ_ _=>rfl⟩
end
section
variable[aC.a4]
variable{X:aV}{a b:Expr}{cQ cT:bw}{pos:Pos}
def o6{op:CmpOp}{r:fg}(c:dU X (alj op) r)(g:d_ X.K X.mg r f)(e:bc X a cQ)(d:bc X b cT)(h:amu op b=false):bc X (.Compare a [op] [b] pos) (ae f cQ cT):=⟨ee (ada c e.un d.un h) (yd g)⟩
end
section
variable[aC.a4]
variable{X:aV}{iter:Expr}{it:fN}{i:Nat}{b:aP}{body:List Stmt}{pos fu:Pos}{x:Str}
def agT(a:aon (model X.prog X.w) X.A X.env X.dN)(e:X.calm=true)(hi:xV X (.Name x fu) iter it)(hN:X.N.Nodup)(d:X.N[i]? = some x)(hl:Loc X.env.scope x)(c:ht X body b)(ay:∀x,alz iter X.env x=pure x:=by intro _;rfl)(f:X.fn x=true\/X.env.scope.names.lookup x=some .local:=by first|exact .inl rfl|exact .inr rfl|assumption):fR X (.For (.Name x fu) iter body [] pos) (ky i it b):=⟨hk (OE a e hi.un (tY hN d hl f) c.un ay) Uy⟩
end
section
variable[aC.a4]
variable{X:aV}{a b:Expr}{cQ cT:bw}{pos:Pos}
variable{rest:List Expr}
def agk(s:bc X a cQ)(k:bc X (.BoolOp .And (b::rest) pos) cT):bc X (.BoolOp .And (a::b::rest) pos) (j6 cQ cT):=⟨ee (ac1 s.un k.un) λz H Q j=>by
 obtain⟨O,U,S,r,p,st,h,q⟩:=j;obtain⟨x,S1,l,h⟩:=M.inv h;obtain⟨t,y,m,h⟩:=M.inv h;obtain⟨rfl,rfl⟩:=uk m;refine⟨O,U,S,_,_,st,l,λd A f c e i bu=>⟨t,i,?_⟩⟩
 cases t with
 |false=>
  rw[if_neg akD]at h;cases h;exact nr (q d _ f c e rfl trivial)
 |true=>
  rw[if_pos rfl]at h;exact nt ⟨d,U,_,r,p,e,h,λn v H' g w u nn=>q n v H' (c.trans g) w u (nn.back c.same)⟩⟩
end
section
variable[aC.a4]
variable{X:aV}{a:Expr}{bW:aJ->M Bool}{pos:Pos}
def ag3(b:fh X a bW):k6 X (.BoolOp .Or [a] pos) bW:=⟨ad4 b.un⟩
end
section
variable[aC.a4]
variable{X:aV}{a b:Expr}{bW cC:aJ->M Bool}{pos:Pos}
variable{rest:List Expr}
def ag0(n:fh X a bW)(j:k6 X (.BoolOp .And (b::rest) pos) cC):k6 X (.BoolOp .And (a::b::rest) pos) (gr bW cC):=⟨OQ (ad1 n.un j.un) λs H Q i=>by
 obtain⟨O,U,S,r,m,st,h,q⟩:=i;obtain⟨t,S1,k,h⟩:=M.inv h;refine⟨O,U,S,t,S1,st,k,λc f e d=>?_⟩
 cases t with
 |false=>
  rw[if_neg akD]at h;cases h;exact nr (q c f e d)
 |true=>
  rw[if_pos rfl]at h;exact nt ⟨c,U,S1,r,m,d,h,λl H' g p=>q l H' (e.trans g) p⟩⟩
end
section
variable[aC.a4]
variable{X:aV}{e:Expr}{m:bw}
def agR(he:bc X e m):pB X (some e) (m6 m):=⟨λzn s g H Q J d=>by
 obtain⟨O,U,S,r,l,st,h,q⟩:=d;obtain⟨x,S1,f,h⟩:=M.inv h;split at h
 .rename_i i
  cases h;exact adK he.un zn s g H Q J ⟨O,U,S,_,_,st,f,λb v a k c j _=>⟨i,j,q b a k c⟩⟩
 .cases h⟩
end
section
variable[aC.a4]
variable{X:aV}
def agQ :pB X none lV:=⟨λzn s b H Q J a=>by
 obtain⟨O,U,S,r,c,st,h,q⟩:=a;cases h;exact adJ zn s b H Q J (q O H (Go.refl _ _) st)⟩
end
section
variable[aC.a4]
variable{X:aV}{e:Expr}{m:bw}{lo hi:Option Expr}{lq qb:lK}{pos cD:Pos}
def agC(he:bc X e m)(hl:pB X lo lq)(N:pB X hi qb):bc X (.Subscript e (.Slice lo hi none cD) pos) (yh m lq qb):=⟨ee (E1 (aeM.or Pm) he.un hl.un N.un) λZ H Q E=>by
 obtain⟨O,U,S,r,Y,st,h,q⟩:=E;obtain⟨x,S1,F,s⟩:=M.inv h;clear h;obtain⟨l,k,G,n⟩:=M.inv s;clear s;obtain⟨u,T,I,h⟩:=M.inv n;clear n;refine⟨O,U,S,x,S1,st,F,λB C V P D A bu=>?_⟩;refine⟨B,U,S1,l,k,D,G,λK W w bK=>?_⟩;refine⟨K,U,k,u,T,bK,I,λt o y z=>?_⟩;have g:=(P.trans w).trans y;have j:=A.go (w.trans y);unfold oJ at h;split at h
 .rename_i xs
  by_cases c:c1.cv xs.length 0 l=0/\c1.cv xs.length xs.length u=xs.length
  .rw[if_pos c]at h;cases h
  .rw[if_neg c]at h
   cases h;obtain⟨a,ys,rfl,i,f⟩:=j;exact .inr ⟨a,ys,rfl,i,by rw[f.len];exact c,λp d=>q t _ _ (g.trans (Go.hh d)) (z.hh d) ⟨p,_,rfl,dB.of dZ,(f.cut l u).go (Go.hh d)⟩ trivial⟩
 .split at h
  .rename_i xs au
   cases h;obtain⟨a,ys,rfl,i,f⟩:=R.ou j au;refine .inl ⟨a,ys,rfl,i,λp d=>q (fV t p .dn) _ _ (g.trans (Go.new d)) (z.new d) ⟨p,_,rfl,dZ,lC,(f.cut l u).go (Go.new d)⟩ λb L=>?_⟩;cases L;exact g.same.free d
  .cases h⟩
end
section
variable[aC.a4]
variable{X:aV}{a:Expr}{cQ:bw}{pos:Pos}
def agB{op}(h:bc X a cQ):bc X (.BoolOp op [a] pos) cQ:=⟨Oy h.un⟩
end
section
variable[aC.a4]
variable{X:aV}{scope esc:Scope}{EN N:List Str}{n:Nat}{cap:List Nat}{elt iter:Expr}{ifs:List Expr}{pos fu:Pos}{x:Str}{it:fN}{t:aJ->M Bool}{el:bw}
def agr(S:k1 esc scope EN N n cap)(aA:0<n)(hi:qO X (.Name x fu) iter it)(c:N[0]? = some x)(b:∀C a s H,Loc (cL X scope N C a s H).env.scope x/\(cL X scope N C a s H).env.scope.names.lookup x=some .local)(d:∀C a s H,qN (cL X scope N C a s H) ifs t)(e:∀C a s H,bc (cL X scope N C a s H) elt el)(he:X.env.scope=esc:=by rfl)(hN:X.N=EN:=by rfl)(f:X.calm=true:=by rfl)(ay:∀x,alz iter X.env x=pure x:=by intro _;rfl):bc X (.ListComp elt [⟨.Name x fu,iter,ifs,0⟩] scope pos) (fl n cap it t el):=⟨ee (E0 (wi:=uj X.K X.mg it) (g:=kC 0) (tt:=lA X.K X.mg t) (te:=fK X.K X.mg el) S hi.un (λC a s H=>tY S.fB c (b C a s H).1 (.inr (b C a s H).2)) (λC a s H=>(d C a s H).un) (λC a s H=>(e C a s H).un) he hN f ay) (Cf aA)⟩
end
section
variable[aC.a4]
variable{X:aV}{x:Str}{i:Nat}{p apos dJ pos:Pos}{e:Expr}{az:List Expr}{ms:c6}{name:Str}{id:String}{f:List D->List R->M (R×List D)}{r:V->List V->aw->cU->Prop}
def xl(slot:PySem.Slot "list" name id)(A:typeOf (.builtin id)=pure (.type "method_descriptor"))(u:uL X id r)(t:r9 X.K X.mg r f)(d:gx X (e::az) ms)(hN:X.N[i]? = some x)(l:qL X.env.scope x)(hd:(x==("__debug__":Str))=false:=by decide)(n:(x==("__classdict__":Str))=false:=by decide)(w:amg (.Name x p) name X.env (eval (.Name x p) X.env)=eval (.Name x p) X.env:=by rfl) (B:((ak3 dJ (akx (e::az) X.env)).all (λx=>!x.1)&&(amh dJ (alK [] X.env)).all (λx=>x.1.isSome)
&&decide ((e::az).length+([]:List anz).length+(if([]:List anz).isEmpty then 0 else 1)<30))=true:=by rfl) (y:(apos.endLine==dJ.line)=true:=by rfl) (ay:akx (e::az) X.env=(false,eval e X.env)::akx az X.env:=by rfl) (s:(ak3 dJ (akx az X.env)).any (·.1)=false:=by rfl) (z:amj (.Call (.Attribute (.Name x p) name apos) (e::az) [] dJ) none pos.line X.env=pure false:=by rfl):fR X (.Expr (.Call (.Attribute (.Name x p) name apos) (e::az) [] dJ) pos) (qR i f ms):=⟨hk (E3 (EZ aoY slot A u (Ac hN l hd n) d.un w B y ay s) z) λD j H a=>by
  obtain⟨O,U,S,E,F,st,h,q⟩:=a;obtain⟨⟨G,I⟩,S1,b,h⟩:=M.inv h;cases h;exact aag t st b λc v H' g m k _=>q c j H' g m k⟩
end
section
variable[aC.a4]
variable{X:aV}{a:Expr}{bW:aJ->M Bool}{pos:Pos}
def ag1(b:fh X a bW):k6 X (.BoolOp .And [a] pos) bW:=⟨ad2 b.un⟩
end
section
variable[aC.a4]
variable{X:aV}{cg l:Expr}{m:bw}{a:Expr}
theorem agH(hl:bc X l m):xV X cg l (vH m):=⟨oM (OB hl.un) λn H R i=>by
 obtain⟨O,U,S,xs,k,st,h,q⟩:=i;obtain⟨r,S1,j,h⟩:=M.inv h;refine⟨O,U,S,r,S1,st,j,λd v c g e f nn=>?_⟩;split at h
 .cases h
  obtain⟨a,ys,rfl,ls,b⟩:=f;exact⟨a,rfl,⟨ys,ls.cR⟩,q d c (pq X.K a) ys g e (DL (.inl ⟨.inl ls.1,.inl ls.2⟩)) b⟩
 .cases h
  obtain⟨a,ys,rfl,ls,t,b⟩:=f;exact⟨a,rfl,⟨ys,dt.of ls⟩,q (cM H d) c (pq X.K a) ys g.cM (e.cM H) (DL (.inl ⟨.inl ls,.inl (CR (nn a rfl) t)⟩)) (b.da (i9 _ _))⟩
 .cases h
  obtain⟨a,ys,rfl,ls,b⟩:=f;exact⟨a,rfl,⟨ys,ls.cR⟩,q d c (pq X.K a) ys g e (DL ls) b⟩
 .cases h⟩
end
section
variable[aC.a4]
variable{X:aV}{pos:Pos}{e:Expr}{m:bw}
variable{i:Nat}{x:Str}{pos':Pos}
def agV(hN:X.N.Nodup)(hi:X.N[i]? = some x)(a:Loc X.env.scope x)(he:bc X e m)(ay:amj e (some (.Name x pos')) pos.line X.env=pure false:=by rfl)(b:X.fn x=true\/X.env.scope.names.lookup x=some .local:=by first|exact .inl rfl|exact .inr rfl|assumption):fR X (.Assign [.Name x pos'] e pos) (m5 i m):=⟨hk (E5 hN hi a he.un ay b) (Oj λ_ _ _ h=>h)⟩
end
section
variable[aC.a4]
def agK:qN X [] fJ:=⟨λzn s U H Q J a=>by
 obtain⟨O,U',S,b,c,st,h,q⟩:=a;cases h;exact Oz zn s U H Q J (q O H (Go.refl _ _) st)⟩
end
section
variable[aC.a4]
variable{X:aV}{a:Expr}{cQ:bw}{pos:Pos}
def agA(j:bc X a cQ):bc X (.UnaryOp .Not a pos) (u3 cQ):=⟨ee (adn j.un) λn H Q f=>by
 obtain⟨O,U,S,r,m,st,h,q⟩:=f;obtain⟨x,S1,g,h⟩:=M.inv h;obtain⟨t,l,i,h⟩:=M.inv h;obtain⟨rfl,rfl⟩:=uk i;cases h;exact⟨O,U,S,_,_,st,g,λd p b k e c bu=>⟨t,c,q d _ b k e rfl trivial⟩⟩⟩
end
section
variable[aC.a4]
variable{X:aV}{e:Expr}{az:List Expr}{ms:c6}{pos p:Pos}{x:Str}{T:String}{r:List V->aw->cU->Prop}{f:List R->M R}
def xj(h:jV X (.type T) r)(i:kZ X.K X.mg r f)(a:d6 X x)(j:X.mg x=none)(c:alm x=some (.type T))(b:gx X (e::az) ms)(aA:x≠"__name__":=by decide)(d:(x==("__debug__":Str))=false:=by decide)(he:akx (e::az) X.env=(false,eval e X.env)::akx az X.env:=by rfl)(g:(ak3 pos (akx az X.env)).any (·.1)=false:=by rfl):bc X (.Call (.Name x p) (e::az) [] pos) (cJ f ms):=⟨ee (ac7 h a j c b.un aA d he g) (I2 i)⟩
end
section
variable[aC.a4]
def AQ(h:fh X c t):qN X [c] t:=⟨adv h.un⟩
end
section
variable[aC.a4]
variable{X:aV}{cg:Expr}{a:Expr}{ms:c6}{pos p:Pos}
def agI(b:d6 X "range")(d:X.mg "range"=none)(c:gx X [a] ms)(ay:akx [a] X.env=[(false,eval a X.env)]:=by rfl):xV X cg (.Call (.Name "range" p) [a] [] pos) (iu ms):=⟨oM (E2 b d c.un ay) Pc.1⟩
end
section
variable[aC.a4]
variable{X:aV}{a b c:Expr}{cQ cT fT:bw}{pos:Pos}
def P8{op d:CmpOp}{r i:fg}(j:dU X (alj op) r)(q:d_ X.K X.mg r f)(n:dU X (alj d) i)(k:d_ X.K X.mg i g)(m:bc X a cQ)(l:bc X b cT)(p:bc X c fT)(s:lastMarks [op,d] [b,c]=false:=by with_unfolding_all rfl):fh X (.Compare a [op,d] [b,c] pos) (aL (eI f g cQ cT fT)):=⟨rU (adS j n m.un l.un p.un s) λe H Q h=>PE (I1 q k) e H Q (FQ e H Q h)⟩
end
section
variable[aC.a4]
variable{X:aV}{cg l:Expr}{m:bw}{a:Expr}
theorem AP(hl:bc X l m):qO X cg l (lj m):=⟨oM (OC hl.un) λn H R e=>by
 obtain⟨O,U,S,xs,k,st,h,q⟩:=e;obtain⟨r,S1,f,h⟩:=M.inv h;split at h
 .rename_i p
  cases h;refine⟨O,U,S,_,_,st,f,λc v b j d i nn=>?_⟩;obtain⟨a,ys,rfl,ls,g⟩:=i;exact⟨a,rfl,⟨ys,ls⟩,q c b (sa X.K a) ys j d (MQ ls) g⟩
 .cases h⟩
end
section
variable[aC.a4]
variable{X:aV}{cg l:Expr}{m:bw}{e a:Expr}
theorem agf(hl:bc X l m):qO X cg l (nq m):=⟨oM (OB hl.un) λp H s f=>by
 obtain⟨O,U,S,xs,n,st,h,q⟩:=f;obtain⟨r,S1,g,h⟩:=M.inv h
 cases e:r.ft with
 |none=>rw[e]at h;cases h
 |some t=>
  rw[e]at h;cases h;refine⟨O,U,S,r,_,st,g,λc v b k d j nn=>?_⟩;obtain⟨a,ys,rfl,ls,i⟩:=R.ou j e;exact⟨a,rfl,⟨ys,ls⟩,q c b (pq X.K a) ys k d (MO ls) i⟩⟩
end
section
variable[aC.a4]
variable{X:aV}{b:aP}{body:List Stmt}{pos:Pos}{c:Expr}{t:aJ->M Bool}
def agX(a:aon (model X.prog X.w) X.A X.env X.dN)(e:fh X c t)(d:ht X body b):fR X (.While c body [] pos) (u4 t b):=⟨hk (OG a e.un d.un) agM⟩
end
section
variable[aC.a4]
variable{X:aV}{cg l:Expr}{m:bw}{a:Expr}
theorem agJ(hl:bc X l m):xV X cg l (lj m):=⟨oM (OC hl.un) λn H R e=>by
 obtain⟨O,U,S,xs,k,st,h,q⟩:=e;obtain⟨r,S1,f,h⟩:=M.inv h;split at h
 .rename_i p
  cases h;refine⟨O,U,S,_,_,st,f,λc v b j d i nn=>?_⟩;obtain⟨a,ys,rfl,ls,g⟩:=i;exact⟨a,rfl,⟨ys,ls⟩,q c b (sa X.K a) ys j d (YJ ls) g⟩
 .cases h⟩
end
section
variable[aC.a4]
variable{X:aV}{cg:Expr}{a:Expr}{ms:c6}{pos p:Pos}
def agg(b:d6 X "range")(d:X.mg "range"=none)(c:gx X [a] ms)(ay:akx [a] X.env=[(false,eval a X.env)]:=by rfl):qO X cg (.Call (.Name "range" p) [a] [] pos) (iu ms):=⟨oM (E2 b d c.un ay) Pc.2⟩
end
section
variable[aC.a4]
variable{X:aV}{st:Stmt}{pos:Pos}{a:aP}{e:Expr}
theorem agW(i:Nat)(hN:X.N[i]? = some x:=by rfl)(f:qL X.env.scope x:=by first|exact amw rfl|exact alA (.inl rfl)|exact alA (alA rfl))(hd:(x==("__debug__":Str))=false:=by decide)(g:(x==("__classdict__":Str))=false:=by decide):fR X (.Return (some (.Name x p)) pos) (yg i):=⟨hk (E4 (Ac hN f hd g)) λD c H b=>by
 obtain⟨O,U,S,j,k,st,h,q⟩:=b;unfold yg at h
 cases e:U[i]? with
 |none=>rw[e]at h;cases h
 |some s=>
  rw[e]at h;have l:=st.loc i s e
  cases s with
  |d9 p xs=>
   obtain⟨a,ys,au,aF,cO,eJ⟩:=l
   cases p with
   |true=>cases h
   |false=>
   cases h;refine⟨.ref a,?_,q O _ H (ea.refl _ _) st.cu st.gD ⟨a,ys,rfl,cO,.inr ⟨i,aF⟩,eJ⟩⟩
   cases w:c[i]? with
   |none=>rw[w]at au;cases au
   |some y=>rw[w]at au;exact congrArg some au
  |v d=>cases h
  |bU d=>cases h
  |e=>cases h⟩
end
section
variable[aC.a4]
variable{X:aV}{a b c:Expr}{cQ cT fT:bw}{pos:Pos}
def agq{op d:CmpOp}{r e:fg}(h:dU X (alj op) r)(n:d_ X.K X.mg r f)(l:dU X (alj d) e)(i:d_ X.K X.mg e g)(k:bc X a cQ)(j:bc X b cT)(m:bc X c fT)(p:lastMarks [op,d] [b,c]=false:=by with_unfolding_all rfl):bc X (.Compare a [op,d] [b,c] pos) (eI f g cQ cT fT):=⟨ee (ac9 h l k.un j.un m.un p) (I1 n i)⟩
end
section
variable[aC.a4]
variable{X:aV}{a:Expr}{cQ:bw}{apos dJ:Pos}
def agl(j:bc X a cQ)(m:amg a "bit_length" X.env (eval a X.env)=eval a X.env:=by rfl)(n:(apos.endLine==dJ.line)=true:=by rfl):bc X (.Call (.Attribute a "bit_length" apos) [] [] dJ) (bf oBits cQ):=⟨ee (ac3 PySem.F.plainAttrs_int PySem.F.slot_int_bit_length PySem.F.type_int_bit_length aab j.un m n) λs H Q f=>by
  obtain⟨O,U,S,r,p,st,h,q⟩:=f;obtain⟨x,S1,g,h⟩:=M.inv h;unfold oBits at h;split at h
  .rename_i i
   cases h;refine⟨O,U,S,_,_,st,g,λd k b l e c bu=>?_⟩;cases(show k=.int i from c);exact⟨rfl,i,rfl,rfl,q d _ b l e rfl trivial⟩
  .cases h⟩
end
section
variable[aC.a4]
variable{X:aV}{st:Stmt}
def agU :fR X st nX:=⟨hk adQ λD d H a=>by obtain⟨O,U,S,b,c,st,h,q⟩:=a;cases h⟩
end
section
variable[aC.a4]
variable{X:aV}{a:Expr}{bW:aJ->M Bool}
def k6.cy(h:k6 X a bW):fh X a bW:=⟨xC.cy h.un⟩
end
section
variable[aC.a4]
variable{X:aV}{scope esc:Scope}{EN N:List Str}{n:Nat}{cap:List Nat}{elt iter:Expr}{ifs:List Expr}{pos fu:Pos}{x:Str}{it:fN}{t:aJ->M Bool}{el:bw}
def AV{py b:Pos}(S:k1 esc scope EN N n cap)(l:X.N.Nodup)(j:X.N[i]? = some y)(c:X.env.scope.names.lookup y=some .local)(aA:0<n)(hi:qO X (.Name x fu) iter it)(d:N[0]? = some x)(h:∀C a s H,Loc (cL X scope N C a s H).env.scope x/\(cL X scope N C a s H).env.scope.names.lookup x=some .local)(e:∀C a s H,qN (cL X scope N C a s H) ifs t)(f:∀C a s H,bc (cL X scope N C a s H) elt el)(he:X.env.scope=esc:=by rfl)(hN:X.N=EN:=by rfl)(g:X.calm=true:=by rfl)(ay:∀x,alz iter X.env x=pure x:=by intro _;rfl)(k:amj (.ListComp elt [⟨.Name x fu,iter,ifs,0⟩] scope pos) (some (.Name y py)) b.line X.env=pure true:=by rfl):fR X (.Assign [.Name y py] (.ListComp elt [⟨.Name x fu,iter,ifs,0⟩] scope pos) b) (m5 i (fl n cap it t el)):=⟨hk (GU S l j c aA hi.un d h (λC a s H=>(e C a s H).un) (λC a s H=>(f C a s H).un) he hN g ay k) (Oj (Cf aA))⟩
end
section
variable[aC.a4]
variable{X:aV}{scope esc:Scope}{EN N:List Str}{n:Nat}{cap:List Nat}{elt iter:Expr}{ifs:List Expr}{pos fu:Pos}{x:Str}{it:fN}{t:aJ->M Bool}{el:bw}
def agS{py b:Pos}(S:k1 esc scope EN N n cap)(l:X.N.Nodup)(j:X.N[i]? = some y)(c:X.env.scope.names.lookup y=some .local)(aA:0<n)(hi:qO X (.Name x fu) iter it)(d:N[0]? = some x)(h:∀C a s H,Loc (cL X scope N C a s H).env.scope x/\(cL X scope N C a s H).env.scope.names.lookup x=some .local)(e:∀C a s H,qN (cL X scope N C a s H) ifs t)(f:∀C a s H,bc (cL X scope N C a s H) elt el)(he:X.env.scope=esc:=by rfl)(hN:X.N=EN:=by rfl)(g:X.calm=true:=by rfl)(ay:∀x,alz iter X.env x=pure x:=by intro _;rfl)(k:amj (.ListComp elt [⟨.Name x fu,iter,ifs,0⟩] scope pos) (some (.Name y py)) b.line X.env=pure true:=by rfl):fR X (.Assign [.Name y py] (.ListComp elt [⟨.Name x fu,iter,ifs,0⟩] scope pos) b) (cn i (fl n cap it t el)):=⟨hk (GU S l j c aA hi.un d h (λC a s H=>(e C a s H).un) (λC a s H=>(f C a s H).un) he hN g ay k) (Pl (Cf aA))⟩
end
def LM:M bH:=⟨λS=>.ok S S,λ_ _ _ h=>by cases h;rfl⟩
def hG:R->M fZ
 |.v (.ref n)=>do
  let S <-LM
  match S[n]? with
  |some o=>pure o|none=>bad
 |_=>bad
def N6{r:R}{S a:bH}(h:(hG r).run S=.ok o a):∃n,r=.v (.ref n)/\S[n]? = some o/\S=a:=by
 unfold hG at h;split at h
 .rename_i n
  obtain⟨T,S1,b,h⟩:=M.inv h;cases b
  cases e:S[n]? with
  |none=>rw[e]at h;cases h
  |some c=>rw[e]at h;cases h;exact⟨n,rfl,e,rfl⟩
 .cases h
def h5{κ α:Type}[DecidableEq κ](k:κ)(a:α):List (κ×α)->List (κ×α)
 |[]=>[(k,a)]
 |(g,x)::r=>if g=k then(g,a)::r else(g,x)::h5 k a r
theorem OL{v:V}:∀aW:List (Str×V),h6 f v aW=h5 f v aW
 |[]=>rfl| (g,x)::r=>by unfold h6 h5;rw[OL r]
section
variable{κ:Type}[DecidableEq κ]
def K_(a:List (κ×D))(k:κ):Option D:=(a.find? λkv=>decide (kv.1=k)).map (·.2)
variable[aC.a4]{K:aM}{mg:bl}{O:a7}{H:aw}
def fx.cons{p:κ×D}{g:List (κ×D)}{d:List (κ×V)}(h:fx K mg O H (p::g) d):∃q r,d=q::r/\p.1=q.1/\Rep K mg O H p.2 q.2/\fx K mg O H g r:=by
 obtain⟨c,f⟩:=h
 cases d with
 |nil=>cases c
 |cons q r=>
  rw[akO,akO]at c f;injection c with c σ'
  obtain⟨y,t,e,a,b⟩:=f;injection e with au aF
  subst au aF;exact⟨q,r,rfl,c,a,σ',b⟩
def fx.mk'{r:List (κ×V)}(a:p.1=q.1)(b:Rep K mg O H p.2 q.2)(h:fx K mg O H o r):fx K mg O H (p::o) (q::r):=
 ⟨by rw[akO,akO,a,h.1],q.2,_,rfl,b,h.2⟩
def fx.EF(h:fx K mg O H [] o):o=[]:=List.map_eq_nil_iff.mp h.1.symm
def fx.len{a:List (κ×D)}{b:List (κ×V)}(h:fx K mg O H a b):b.length=a.length:=by
 have:=congrArg amn h.1;rw[akz,akz]at this;exact this.symm
theorem fx.val(k:κ):∀{C:List (κ×D)}{o:List (κ×V)},fx K mg O H C o->match K_ C k with
  |some d=>∃v,FZ o k=some v/\Rep K mg O H d v|none=>FZ o k=none
 |[],o,h=>by obtain rfl:=h.EF;exact rfl
 |p::C,o,h=>by
  obtain⟨q,r,rfl,au,aF,h'⟩:=h.cons;unfold K_ FZ
  by_cases a:p.1=k
  .rw[am4 (by simpa using a),am4 (by rw[<-au];simpa using a)]
   exact⟨q.2,rfl,aF⟩
  .rw[am5 (by simpa using a),am5 (by rw[<-au];simpa using a)]
   exact fx.val k h'
theorem fx.h5(k:κ){v:V}(hd:Rep K mg O H d v):∀{C:List (κ×D)}{o:List (κ×V)},fx K mg O H C o->fx K mg O H (aE.h5 k d C) (aE.h5 k v o)
 |[],o,h=>by obtain rfl:=h.EF;exact⟨rfl,_,_,rfl,hd,rfl⟩
 |p::C,o,h=>by
  obtain⟨q,r,rfl,au,aF,h'⟩:=h.cons;obtain⟨p1,cD⟩:=p;obtain⟨br,bS⟩:=q;cases(show p1=br from au);unfold aE.h5;split
  .exact fx.mk' rfl hd h'
  .exact fx.mk' rfl aF (fx.h5 k hd h')
theorem fx.lookup:∀{C:List (Str×D)}{o:List (Str×V)},fx K mg O H C o->C.lookup f=some d->∃v,o.lookup f=some v/\Rep K mg O H d v
 |[],o,h,e=>by cases e
 |p::C,o,h,e=>by
  obtain⟨q,r,rfl,au,aF,h'⟩:=h.cons;obtain⟨p1,cD⟩:=p;obtain⟨br,bS⟩:=q;cases(show p1=br from au);rw[akQ]at e ⊢
  cases J:f==p1 with
  |true=>rw[J]at e;cases e;exact⟨bS,rfl,aF⟩
  |false=>rw[J]at e;exact fx.lookup h' e
end
variable[aC.a4]
section
variable{K:aM}{mg:bl}{O:a7}{U:aJ}{S ao:bH}{ar:St}{H:aw}{r:R}{v:V}{o:fZ}
def N7(st:cI K mg O U S ar H)(aD:et K mg O H r v)(h:(hG r).run S=.ok o ao):∃a,v=.ref a/\a∈O.bG/\nR K mg O H a o:=by
 obtain⟨n,rfl,e,rfl⟩:=N6 h;obtain⟨a,c,g⟩:=st.gD n o e;obtain⟨b,f,d⟩:=aD;rw[c]at d;cases d;exact⟨a,f,ak7 c,g⟩
end
structure mM(K:aM)(mg:bl)(c:Str)(aW:List Str):Prop where
 ex:∃C,mg c=some (.ref C)/\iZ K C/\(W.makesIn K C=true/\amx K (.ref C)=true)/\∀f∈aW,qF K C f
def bY(c f:Str)(r:R):M R:=do
 let o <-hG r
 match o with
 |.bb c' aW=>if c'=c then(match aW.lookup f with
  |some d=>pure (.v d)| none=>bad)else bad
 |_=>bad
def e9(m:bw):bw:=λU=>do
 let x <-m U
 let o <-hG x
 match o with
 |.l xs=>pure (.mv xs)|_=>bad
section
variable{X:aV}{e o:Expr}{m:bw}{pos:Pos}{c a:Str}{ns:List Str}
theorem PZ(T:mM X.K X.mg c ns)(E:a∈ns)(he:bc X e m)(p:amg e a X.env (eval e X.env)=eval e X.env:=by rfl):bc X (.Attribute e a pos) (bf (bY c a) m):=⟨ee (adb he.un p) λN H Q n=>by
 obtain⟨O,U,S,r,L,st,h,q⟩:=n;obtain⟨x,S1,s,i⟩:=M.inv h;clear h;refine⟨O,U,S,x,S1,st,s,λl P j A f k bu=>?_⟩;obtain⟨o,I,g,h'⟩:=M.inv i;clear i;have h:=h';clear h';obtain⟨b,rfl,_,B⟩:=N7 f k g;obtain rfl:=(hG x).fb _ _ _ g;split at h
 .rename_i c' aW
  split at h
  .rename_i D
   subst D
   cases el:aW.lookup a with
   |none=>rw[el]at h;cases h
   |some d=>
    rw[el]at h;cases h;obtain⟨C,t,F,y,w,G⟩:=B;obtain⟨R,au,aF,_,eJ⟩:=T.ex;cases au.symm.trans w.1;obtain⟨v,z,u⟩:=G.lookup el;exact⟨b,C,t,F,v,rfl,y,aF,eJ a E,z,q l v j A f u trivial⟩
  .cases h
 .cases h⟩
def ZG{f:St}{H:aw}{Q:cU}{O:a7}{U:aJ}{S S1 n:bH}{x r:R}{g:List D->R}(st:cI X.K X.mg O U S f H)(t:(m U).run S=.ok x S1)
  (h:(do let o <-hG x;match o with|.l xs=>pure (g xs)|_=>bad:M R).run S1=.ok r n) (q:uO X.K X.mg O U n f H r Q)
  (s:∀d H' xs a ys,d a=.out->H' a=some (.l ys)->bj X.K X.mg d H' xs ys->et X.K X.mg d H' (g xs) (.ref a)/\ju H (g xs) (.ref a)):fK X.K X.mg m f H Q:=by
 obtain⟨o,E,k,h'⟩:=M.inv h;clear h;have h:=h';clear h';refine⟨O,U,S,x,S1,st,t,λj F i z b p bu=>?_⟩;obtain⟨a,rfl,w,B⟩:=N7 b p k;obtain rfl:=(hG x).fb _ _ _ k;split at h
 .cases h
  obtain⟨ys,l,u⟩:=B;obtain⟨A,y⟩:=s j i _ a ys (b.cu.cc.2 a w) l u;exact q j _ i z b A y
 .cases h
theorem agu(he:bc X e m):bc X e (e9 m):=⟨ee he.un λj H Q b=>by
 obtain⟨O,U,S,r,i,st,h,q⟩:=b;obtain⟨x,S1,d,h⟩:=M.inv h;exact ZG st d h q λg H' xs a ys _ l f=>⟨⟨a,ys,rfl,l,f⟩,trivial⟩⟩
end
end aE
namespace aE
open PySem PySem.Spec aC
structure N(α:Type):Type where
 run:bH->Out α
def N.hv{α d:Type}(m:N α)(f:α->N d):N d:=⟨λS=>match m.run S with
 |.ok a b=>(f a).run b|.exc c b=>.exc c b| .bad=>.bad⟩
instance:Monad N where
 pure a:=⟨λS=>.ok a S⟩
 bind:=N.hv
def N.inv{α g:Type}{m:N α}{f:α->N g}{S d:bH}{b:g}(h:(m >>= f).run S=.ok b d):∃a S1,m.run S=.ok a S1/\(f a).run S1=.ok b d:=by
 have h:(N.hv m f).run S=.ok b d:=h;unfold N.hv at h;dsimp only at h
 cases e:m.run S with
 |ok a S1=>rw[e]at h;exact⟨a,S1,rfl,h⟩|exc c S1=>rw[e]at h;cases h
 |bad=>rw[e]at h;cases h
def h3{α:Type}:N α:=⟨λ_=>.bad⟩
def M.up{α:Type}(m:M α):N α:=⟨m.run⟩
def yJ:N bH:=⟨λS=>.ok S S⟩
def putN(S:bH):N Unit:=⟨λ_=>.ok () S⟩
abbrev d1:=aJ->N R
abbrev j4:=aJ->N (List R)
abbrev b2:=aJ->N fY
abbrev dX:=List D->N R
variable[aC.a4]
structure dz(O ak:a7)(H H':aw):Prop where
 cells:∀b o,H b=some o->(b∉O.bG\/Fix o)->(h:oD o:=by exact trivial)->H' b=some o
 own:∀b,H b≠none->ak b=O b
 has:∀b,H b≠none->H' b≠none
 cC:∀b ps,H b=some (.gc ps)->∃lu,H' b=some (.gc lu)
 b3:TabsOk H->TabsOk H'
 bG:O.bG <+: ak.bG
 new:∀b∈ak.bG,b∈O.bG\/H b=none
structure gu(O ak:a7)(H H':aw):Prop where
 cells:∀b o,H b=some o->(((O b=.free\/O b=.out)/\b∉O.bG)\/Fix o)->(h:oD o:=by exact trivial)->H' b=some o
 own:∀b,H b≠none->(O b=.free\/O b=.out)->ak b=O b
 has:∀b,H b≠none->H' b≠none
 cC:∀b ps,H b=some (.gc ps)->∃lu,H' b=some (.gc lu)
 b3:TabsOk H->TabsOk H'
 bG:O.bG <+: ak.bG
 new:∀b∈ak.bG,b∈O.bG\/H b=none
structure fe(O ak:a7)(H H':aw):Prop where
 cells:∀b o,H b=some o->((O b=.free/\b∉O.bG/\∃ys,o=.l ys)\/Fix o)->(h:oD o:=by exact trivial)->H' b=some o
 own:∀b ys,H b=some (.l ys)->O b=.free->ak b=.free
 bG:O.bG <+: ak.bG
section
variable{K:aM}{mg:bl}{O aG bq ak:a7}{H H1 aK H':aw}{S ao:bH}{U U':aJ}{ar de:St}
omit [aC.a4]in
theorem h8(e:H b=some o):H b≠none:=λz=>by rw[e]at z;cases z
def Go.dK(g:Go O ak H H'):dz O ak H H':=⟨λb o e _ n=>g.same.at' b o e n,g.own,λ_ h=>g.same.some h,g.same.cC,g.same.b3,by rw[g.bG];exact anN _,λb h=>.inl (by rw[<-g.bG];exact h)⟩
def ea.d8(g:ea O ak H H'):gu O ak H H':=⟨λb o e h n=>g.cells b o e (h.elim (λz=>z.1.elim .inl λz=>.inr (.inl z)) λz=>.inr (.inr z)) n,g.own,g.has,g.cC,g.b3,by rw[g.bG];exact anN _,λb h=>.inl (by rw[<-g.bG];exact h)⟩
def dz.d8(g:dz O ak H H'):gu O ak H H':=⟨λb o e h n=>g.cells b o e (h.imp (·.2) id) n,λb h _=>g.own b h,g.has,g.cC,g.b3,g.bG,g.new⟩
def dz.trans(a:dz O aG H H1)(b:dz aG bq H1 aK):dz O bq H aK:=
  ⟨λc o e h n=>b.cells c o (a.cells c o e h n) (h.imp (λz m=>(a.new c m).elim z (h8 e)) id) n,λc h=>(b.own c (a.has c h)).trans (a.own c h),λc h=>b.has c (a.has c h),λc ps h=>let⟨p1,au⟩:=a.cC c ps h;b.cC c p1 au,λg=>b.b3 (a.b3 g),
   a.bG.trans b.bG,λc m=>(b.new c m).elim (a.new c) λz=>.inr (by cases e:H c with|none=>rfl|some o=>exact absurd z (a.has c (h8 e)))⟩
def gu.trans(a:gu O aG H H1)(b:gu aG bq H1 aK):gu O bq H aK:=
  ⟨λc o e h n=>b.cells c o (a.cells c o e h n) (h.imp (λz=>⟨by rw[a.own c (h8 e) z.1];exact z.1,λm=>(a.new c m).elim z.2 (h8 e)⟩) id) n,
   λc h f=>(b.own c (a.has c h) (by rw[a.own c h f];exact f)).trans (a.own c h f),λc h=>b.has c (a.has c h),λc ps h=>let⟨p1,au⟩:=a.cC c ps h;b.cC c p1 au,λg=>b.b3 (a.b3 g),
   a.bG.trans b.bG,λc m=>(b.new c m).elim (a.new c) λz=>.inr (by cases e:H c with|none=>rfl|some o=>exact absurd z (a.has c (h8 e)))⟩
def gu.j9(g:gu O ak H H'):fe O ak H H':=⟨λb o e h n=>g.cells b o e (h.imp (λz=>⟨.inl z.1,z.2.1⟩) id) n,λb ys e f=>(g.own b (h8 e) (.inl f)).trans f,g.bG⟩
def fe.Ar(g:fe O ak H H')(h:dB K H a ys):dB K H' a ys:=by
 rcases h with(h|⟨o,h⟩)|h
 .exact .inl (.inl (g.cells _ _ h (.inr (.inl ⟨_,rfl⟩))))
 .exact .inl (.inr ⟨o,g.cells _ _ h (.inr (.inr ⟨_,_,rfl⟩))⟩)
 .exact .inr h
omit [aC.a4]in
theorem jv.no(r:jv O)(h:O a=w)(hw:w≠.out):a∉O.bG:=λm=>hw (h.symm.trans (r.2 a m))
mutual
theorem Rep.j9(g:fe O ak H H')(cc:jv O):∀{d:D}{v:V},Rep K mg O H d v->Rep K mg ak H' d v
 |.aI,_,h=>h|.ax _,_,h=>h|.int _,_,h=>h|.str _,_,h=>h| .t _,_,h=>by obtain⟨a,ys,q,l,r⟩:=h;exact⟨a,ys,q,g.Ar l,bj.j9 g cc r⟩
 |.l _,_,h=>by obtain⟨a,ys,q,l,r⟩:=h;exact⟨a,ys,q,⟨g.cells _ _ l.1 (.inl ⟨l.2,cc.no l.2 (by intro z;cases z),_,rfl⟩),g.own a _ l.1 l.2⟩,bj.j9 g cc r⟩
 |.ref _,_,h=>by
  obtain⟨a,q,l⟩:=h;obtain⟨t,e⟩:=g.bG;exact⟨a,q,by rw[<-e,akV (akw.mp l).1];exact l⟩
 |.fn _,_,h=>h|.ty _,_,h=>h
theorem bj.j9(g:fe O ak H H')(cc:jv O):∀{ds:List D}{ys:List V},bj K mg O H ds ys->bj K mg ak H' ds ys
 |[],_,h=>h| _::_,_,h=>by obtain⟨x,r,q,a,b⟩:=h;exact⟨x,r,q,Rep.j9 g cc a,bj.j9 g cc b⟩
end
def bj.d8(g:gu O o H H')(cc:jv O)(h:bj K mg O H ds ys):bj K mg o H' ds ys:=h.j9 g.j9 cc
def Rep.dK(g:dz O o H H')(cc:jv O){v:V}(h:Rep K mg O H d v):Rep K mg o H' d v:=h.j9 g.d8.j9 cc
def bj.dK(g:dz O o H H')(cc:jv O)(h:bj K mg O H ds ys):bj K mg o H' ds ys:=h.d8 g.d8 cc
def R.iW:R->Bool
 |.v _=>true|.fr _=>true|_=>false
def et.dK(g:dz O C H H')(cc:jv O){r:R}{v:V}(ay:r.iW=true)(h:et K mg O H r v):et K mg C H' r v:=by
 cases r with
 |v d=>exact Rep.dK g cc h| fr xs=>obtain⟨a,ys,q,l,o,r⟩:=h;exact⟨a,ys,q,g.cells _ _ l (.inl (cc.no o (by intro z;cases z))),(g.own a (h8 l)).trans o,r.dK g cc⟩
 |bU xs=>cases ay
 |mv xs=>cases ay
def ju.dK(g:dz O C H H'):∀{r:R}{v:V},ju H' r v->ju H r v
 |.v _,_,_=>trivial|.bU _,_,_=>trivial|.mv _,_,_=>trivial|.fr _,_,h=>λa e=>by
  cases au:H a with
  |none=>rfl|some o=>exact absurd (h a e) (g.has a (h8 au))
def qE(K:aM)(O:a7)(H:aw)(a:Addr)(ys:List V):Prop:=(hs H a (.l ys)/\(O a=.free\/O a=.out)/\a∉O.bG)\/Bb K a ys
structure dA(K:aM)(mg:bl)(O:a7)(U:aJ)(S:bH)(ar:St)(H:aw):Prop where
 s3:cI K mg O U S ar H
 full:O.bG.length=S.length
 qs:∀(i:Nat)(xs:List D),U[i]? = some (.bU xs)->∃a ys,ar[i]?.join=some (.ref a)/\qE K O H a ys/\bj K mg O H xs ys
def qE.d8(g:gu O C H H')(h:qE K O H a ys):qE K C H' a ys:=by
 rcases h with⟨h,f,m⟩|h
 .have aA:H a≠none:=hs.some h
  refine .inl ⟨?_,by rw[g.own a aA f];exact f,λz=>(g.new a z).elim m aA⟩;rcases h with h|⟨o,h⟩
  .exact .inl (g.cells _ _ h (.inl ⟨f,m⟩))
  .exact .inr ⟨o,g.cells _ _ h (.inl ⟨f,m⟩)⟩
 .exact .inr h
def qE.v(h:qE K O H a ys):hL K O H a ys:=h.imp (λz=>⟨z.1,z.2.1⟩) id
def dA.go(s:dA K mg O U S C H)(g:Go O o H H')(d:di o H'):dA K mg o U S C H':=
 ⟨s.s3.go g d,by rw[g.bG];exact s.full,λi xs e=>by obtain⟨a,ys,au,l,r⟩:=s.qs i xs e;exact⟨a,ys,au,l.d8 g.b0.d8,r.go g⟩⟩
def dA.b0(s:dA K mg O U S J H)(g:ea O o H H')(k:fw U U' J C)(t:cI K mg o U' S C H'):dA K mg o U' S C H':=
 ⟨t,by rw[g.bG];exact s.full,λi xs e=>by
  obtain⟨b,c⟩:=k.1 i xs e;obtain⟨a,ys,au,l,r⟩:=s.qs i xs b;exact⟨a,ys,by rw[c];exact au,l.d8 g.d8,bj.b0 g r⟩⟩
def dA.dK(s:dA K mg O U S ar H)(g:dz O C H H')(d:di C H')(dT:f3 K mg C H' J)(b:C.bG.length=J.length):dA K mg C U J ar H':=by
 have cc:=s.s3.cu.cc;have bU:∀(i:Nat)(xs:List D),U[i]? = some (.bU xs)->∃a ys,ar[i]?.join=some (.ref a)/\qE K C H' a ys/\bj K mg C H' xs ys:=λi xs e=>by
  obtain⟨a,ys,au,l,r⟩:=s.qs i xs e;exact⟨a,ys,au,l.d8 g.d8,r.dK g cc⟩
 refine⟨⟨d,s.s3.len,λi t e=>?_,dT⟩,b,bU⟩;have l:=s.s3.loc i t e
 cases t with
 |e=>exact trivial|v d=>obtain⟨v,q,r⟩:=l;exact⟨v,q,r.dK g cc⟩
 |d9 p xs=>obtain⟨a,ys,q,o,l,r⟩:=l;exact⟨a,ys,q,(g.own a (h8 l)).trans o,g.cells _ _ l (.inl (cc.no o (by intro z;cases z))),r.dK g cc⟩
 |bU xs=>obtain⟨a,ys,au,l,r⟩:=bU i xs e;exact⟨a,ys,au,l.v,r⟩
end
inductive sh{α:Type}(K:aM)(mg:bl)(m:aJ->N α)(ar:St)(H:aw)(P:a7->aJ->bH->α->Prop):Prop
 |mk (O:a7) (U:aJ) (S:bH) (x:α) (ao:bH) (st:dA K mg O U S ar H) (h:(m U).run S=.ok x ao) (q:P O U ao x):sh K mg m ar H P
def xv(K:aM)(mg:bl)(m:d1):TE:=λb H Q=>sh K mg m b H λO U c r=>∀a v H',dz O a H H'->dA K mg a U c b H'->et K mg a H' r v->ju H r v->Q v H'
def Qh(K:aM)(mg:bl)(m:aJ->N Bool):TT:=λc H Q=>sh K mg m c H λO U d b=>∀a H',dz O a H H'->dA K mg a U d c H'->Q b H'
def Gd(K:aM)(mg:bl)(m:j4):fQ:=λb H Q=>sh K mg m b H λO U c rs=>∀a vs H',dz O a H H'->dA K mg a U c b H'->i4 K mg a H' rs vs->ku H rs vs->Q vs H'
def uP(K:aM)(mg:bl)(O:a7)(c:bH)(H:aw)(e:fY)(d:Ends):Prop:=match e with
 |.bu U'=>∀a b H',gu O a H H'->dA K mg a U' c b H'->d.bu b H'|.bk U'=>∀a b H',gu O a H H'->dA K mg a U' c b H'->d.bk b H'|.cy U'=>∀a b H',gu O a H H'->dA K mg a U' c b H'->d.cy b H'|.cx r=>∀a v H',gu O a H H'->di a H'->f3 K mg a H' c->a.bG.length=c.length->Bg K mg a H' r v->d.cx v H'
def uP.d8{O c:a7}(h:uP K mg O C H o J)(g:gu O c H H1):uP K mg c C H1 o J:=by
 cases o with
 |bu U'=>exact λa b H' g'=>h a b H' (g.trans g')
 |bk U'=>exact λa b H' g'=>h a b H' (g.trans g')
 |cy U'=>exact λa b H' g'=>h a b H' (g.trans g')
 |cx r=>exact λa v H' g'=>h a v H' (g.trans g')
def pa(K:aM)(mg:bl)(m:b2):gK:=λd c H=>sh K mg m c H λO _ b a=>uP K mg O b H a d
section
variable(X:aV)
structure eH(e:Expr)(m:d1):Prop where
 un:bZ X e (xv X.K X.mg m)
structure mW(e:Expr)(m:aJ->N Bool):Prop where
 un:ie X e (Qh X.K X.mg m)
structure pC(az:List Expr)(m:j4):Prop where
 un:gV X az (Gd X.K X.mg m)
structure gh(st:Stmt)(m:b2):Prop where
 un:iH X st (pa X.K X.mg m)
structure ih(uf:List Stmt)(m:b2):Prop where
 un:ic X uf (pa X.K X.mg m)
end
def dr(m:bw):d1:=λU=>(m U).up
def fM(m:aJ->M Bool):aJ->N Bool:=λU=>(m U).up
def ez(m:c6):j4:=λU=>(m U).up
def b9(m:aP):b2:=λU=>(m U).up
section
variable{X:aV}{e:Expr}{az:List Expr}{m:bw}{t:aJ->M Bool}{ms:c6}{b:aP}{st:Stmt}{uf:List Stmt}
theorem aho(h:bc X e m):eH X e (dr m):=⟨ee h.un λk H Q i=>by
 obtain⟨O,U,S,r,a,st,h,q⟩:=i;obtain rfl:=(m U).fb _ _ _ h;exact⟨O,U,a,r,a,st.s3,h,λf v d c g j nn=>q f v d c.dK (st.go c g.cu) j nn⟩⟩
theorem ahE(h:fh X e t):mW X e (fM t):=⟨rU h.un λj H Q i=>by
 obtain⟨O,U,S,r,a,st,h,q⟩:=i;obtain rfl:=(t U).fb _ _ _ h;exact⟨O,U,a,r,a,st.s3,h,λf d c g=>q f d c.dK (st.go c g.cu)⟩⟩
theorem ahh(h:gx X az ms):pC X az (ez ms):=⟨Aa h.un λk H Q i=>by
 obtain⟨O,U,S,r,a,st,h,q⟩:=i;obtain rfl:=(ms U).fb _ _ _ h;exact⟨O,U,a,r,a,st.s3,h,λf v d c g j nn=>q f v d c.dK (st.go c g.cu) j nn⟩⟩
theorem Qg:∀D f H,pa K mg (b9 b) D f H->lz K mg b D f H:=by
 rintro D f H ⟨O,U,S,i,j,st,h,q⟩;obtain rfl:=(b U).fb _ _ _ h;refine⟨O,U,j,i,j,st.s3,h,?_⟩
 cases i with
 |bu U'=>exact λa c H' g t k=>q a c H' g.d8 (st.b0 g k t)
 |bk U'=>exact λa c H' g t k=>q a c H' g.d8 (st.b0 g k t)
 |cy U'=>exact λa c H' g t k=>q a c H' g.d8 (st.b0 g k t)
 |cx r=>exact λa v H' g d dT l=>q a v H' g.d8 d dT (by rw[g.bG];exact st.full) l
def ahx(h:fR X st b):gh X st (b9 b):=⟨hk h.un Qg⟩
def Qm(h:ht X uf b):ih X uf (b9 b):=⟨Ad h.un Qg⟩
end
end aE
namespace aE
open PySem PySem.Spec aC
def bE(a b:b2):b2:=λU=>do
 let c <-a U
 match c with
 |.bu U'=>b U'|c=>pure c
def e2(t:aJ->N Bool)(a b:b2):b2:=λU=>do
 let t <-t U
 if t=true then a U else b U
def qy(i:Nat)(m:d1):b2:=λU=>do
 let r <-m U
 let d <-r.dat.up
 pure (.bu (U.set i (.v d)))
def iA(m:d1):b2:=λU=>do
 let r <-m U
 match r with
 |.v d=>pure (.cx (.v d))|.fr xs=>pure (.cx (.fr xs))|_=>h3
def iz(m:d1):b2:=λU=>do
 let _ <-m U
 pure (.bu U)
variable[aC.a4]
section
variable{K:aM}{mg:bl}{O pw:a7}{H H₀:aw}{S:bH}{U:aJ}{ar:St}
def dA.cM(s:dA K mg O U S ar H)(H₀:aw):dA K mg (cM H₀ O) U S ar H:=⟨s.s3.cM H₀,s.full,λi xs e=>by
 obtain⟨a,ys,au,l,r⟩:=s.qs i xs e;refine⟨a,ys,au,l.imp (λz=>⟨z.1,?_,z.2.2⟩) id,r.da (i9 _ _)⟩;rcases z.2.1 with f|f
 .exact .inl ((i9 H₀ O).fr a f)
 .exact .inr (by rw[ra (by rw[f];intro z;cases z)];exact f)⟩
def dz.cM(g:dz pw O H₀ H):dz pw (cM H₀ O) H₀ H:=⟨λb o e h n=>g.cells b o e h n,λb a=>(CQ a).trans (g.own b a),g.has,g.cC,g.b3,g.bG,g.new⟩
def dA.set{s:Slot}{v:V}(st:dA K mg O U S ar H)(ay:∀xs,s≠.bU xs)(h:jw K mg O H (.loc i) s (some v)):dA K mg O (U.set i s) S (ar.set i (some v)) H:=⟨st.s3.set h,st.full,λj xs e=>by
 by_cases a:i=j
 .subst a
  rw[akU (by have:=(akw.mp e).1;rwa[ak8]at this)]at e;exact absurd (ak1 e) (ay xs)
 .rw[akF a]at e
  rw[akF a];exact st.qs j xs e⟩
end
section
variable{X:aV}{st:Stmt}{rest A B:List Stmt}{pos pos':Pos}{a b:b2}{e c:Expr}{m:d1}{t:aJ->N Bool}{i:Nat}{x:Str}
def ahC(h:gh X st a):ih X [st] a:=⟨OI h.un⟩
def ahB(d:gh X st a)(p:ih X rest b):ih X (st::rest) (bE a b):=⟨Ad (OH d.un p.un) λD y H n=>by
 obtain⟨O,U,S,k,s,st,h,q⟩:=n;obtain⟨g,S1,d,h⟩:=N.inv h;refine⟨O,U,S,g,S1,st,d,?_⟩
 cases g with
 |bu f=>exact λj z w u l=>⟨j,f,S1,k,s,l,h,q.d8 u⟩
 |cx r=>cases h;exact q
 |bk f=>cases h;exact q
 |cy f=>cases h;exact q⟩
theorem ahv(s:mW X c t)(r:ih X A a)(n:ih X B b):gh X (.If c A B pos) (e2 t a b):=⟨hk (OF s.un r.un n.un) λD w H l=>by
 obtain⟨O,U,S,f,j,st,h,q⟩:=l;obtain⟨t,S1,p,h⟩:=N.inv h;refine⟨O,U,S,t,S1,st,p,λd u k g=>?_⟩
 cases t with
 |false=>
  rw[if_neg akD]at h;exact nr ⟨d,U,S1,f,j,g,h,q.d8 k.d8⟩
 |true=>
  rw[if_pos rfl]at h;exact nt ⟨d,U,S1,f,j,g,h,q.d8 k.d8⟩⟩
theorem ahy(he:eH X e m):gh X (.Return (some e) pos) (iA m):=⟨hk (E4 he.un) λD w H n=>by
 obtain⟨O,U,S,s,u,st,h,q⟩:=n;obtain⟨r,S1,p,h⟩:=N.inv h;refine⟨O,U,S,r,S1,st,p,λj v g l f k nn=>?_⟩
 cases r with
 |v d=>cases h;exact q j v g l.d8 f.s3.cu f.s3.gD f.full k
 |fr xs=>cases h;exact q j v g l.d8 f.s3.cu f.s3.gD f.full (O' k (.inr ⟨_,rfl⟩))
 |bU xs=>cases h
 |mv xs=>cases h⟩
theorem aht(he:eH X e m)(ay:amj e none pos.line X.env=pure false:=by rfl):gh X (.Expr e pos) (iz m):=⟨hk (E3 he.un ay) λD l H j=>by
 obtain⟨O,U,S,p,s,st,h,q⟩:=j;obtain⟨r,S1,k,h⟩:=N.inv h;cases h;exact⟨O,U,S,r,_,st,k,λf v d n g u nn=>q f l d n.d8 g⟩⟩
theorem ahz(hN:X.N.Nodup)(hi:X.N[i]? = some x)(p:Loc X.env.scope x)(he:eH X e m)(ay:amj e (some (.Name x pos')) pos.line X.env=pure false:=by rfl)(w:X.fn x=true\/X.env.scope.names.lookup x=some .local:=by first|exact .inl rfl|exact .inr rfl|assumption) :
  gh X (.Assign [.Name x pos'] e pos) (qy i m):=⟨hk (E5 hN hi p he.un ay w) λD G H k=>by
 obtain⟨O,U,S,E,F,st,h,q⟩:=k;obtain⟨r,S1,l,h⟩:=N.inv h;obtain⟨d,y,n,h⟩:=N.inv h;cases h;refine⟨O,U,S,r,S1,st,l,λg v f u j s nn=>?_⟩;obtain⟨dh,rfl⟩:=qY (H₀:=H) s nn n;exact q (cM H g) _ f u.cM.d8 ((j.cM H).set (λxs z=>by cases z) ⟨v,rfl,dh⟩)⟩
end
def Gy(b:ib)(O:a7)(H:aw)(ys:List V):Prop:=∀c a,gu O c H a->∀i,(i<ys.length->b.go i a/\∀x H',b.pb i a x H'->H'=a/\ys[i]? = some x)/\(ys.length<=i->b.stop i a)
def FW(K:aM)(mg:bl)(m:fN):TI:=λb H R=>sh K mg (λU=>(m U).up) b H λO U d xs=>∀a H' c ys,Go O a H H'->dA K mg a U d b H'->Gy c a H' ys->bj K mg a H' xs ys->R c H'
structure xX(X:aV)(cg e:Expr)(m:fN):Prop where
 un:j1 X cg e (FW X.K X.mg m)
def nO(b:D->b2):List D->b2
 |[]=>λU=>pure (.bu U)
 |d::ds=>λU=>do
  let a <-b d U
  match a with
  |.bu U'=>nO b ds U'|.cy U'=>nO b ds U'|.bk U'=>pure (.bu U')|.cx r=>pure (.cx r)
def P9(B:D->b2)(it:fN):b2:=λU=>do
 let ds <-(it U).up
 nO B ds U
abbrev xn(i:Nat)(it:fN)(b:b2):b2:=P9 (λd U=>b (U.set i (.v d))) it
section
variable{X:aV}{cg iter:Expr}{m:bw}{a:Expr}{ms:c6}{pos p fu:Pos}{it:fN}{bd:b2}{body:List Stmt}{i:Nat}{x:Str}
theorem MP{O:a7}(lo:Int)(n:Nat):Gy (mP lo n) O H (mx lo n):=λc b _ i=>DM (H:=b) lo n b (eC.refl _) i
def ahr(g:d6 X "range")(t:X.mg "range"=none)(n:gx X [a] ms)(ay:akx [a] X.env=[(false,eval a X.env)]:=by rfl):xX X cg (.Call (.Name "range" p) [a] [] pos) (iu ms):=⟨oM (E2 g t n.un ay) λw H R l=>by
 obtain⟨O,U,S,xs,u,st,h,q⟩:=l;obtain rfl:=(iu ms U).fb _ _ _ h;obtain⟨rs,S1,b,h⟩:=M.inv h;obtain rfl:=(ms U).fb _ _ _ b;split at h
 .rename_i j
  by_cases c:-(2 ^ 62)<=j/\j<2 ^ 62
  .rw[if_pos c]at h
   cases h;refine⟨O,U,S1,_,S1,st.s3,b,λf vs e d k s nn=>?_⟩;obtain⟨v,rfl,r⟩:=kR s;cases(show v=.int j from r);exact⟨j,rfl,c.1,c.2,q f e (mP 0 j.toNat) (mx 0 j.toNat) d (st.go d k.cu) (MP _ _) (Fo _ _)⟩
  .rw[if_neg c]at h;cases h
 .cases h⟩
theorem ZK{K:aM}{mg:bl}{H:ib}{G:iI}{B:aE.D->b2}{b:List aE.D}{u:a7}{U:aJ}{S1 E:bH}{P:St}{t:aw}{A:fY}{T:Ends}(V:dA K mg u U S1 P t)(stop:∀c H',gu u c t H'->H.stop b.length H')
  (step:∀k d c H' U' n w f j,b[k]? = some d->gu u c t H'->dA K mg c U' n w H'->(B d U').run n=.ok f j->H.go k H'/\∀x g (R:St->aw->Prop),H.pb k H' x g->
   (∀L O F,gu c c H' F->dA K mg c L n O F->(bd L).run n=.ok f j->R O F)->G x w g R)
  (h:(nO B b U).run S1=.ok A E) (q:uP K mg u E t A T):w' (λ_ _ R=>R H t) G (pa K mg bd) T P t:=by
 refine⟨λk m w H'=>m=b.length-k/\k<=b.length/\∃c U' n,dA K mg c U' n w H'/\gu u c t H'/\(nO B (b.drop k) U').run n=.ok A E,
  ⟨_,rfl,alh _,u,U,S1,V,(ea.refl _ _).d8,h⟩,?_⟩
 rintro k m w H' ⟨rfl,av,c,U',n,S,g',h⟩
 cases e:b.drop k with
 |nil=>
  obtain rfl:k=b.length:=by
   have:=congrArg amn e;rw[alE,alQ]at this;omega
  rw[e]at h;cases h;exact .inl ⟨stop c H' g',q c w H' g' S⟩
 |cons d il=>
  have J:k<b.length:=by
   have:=congrArg amn e;rw[alE,alb]at this;omega
  have C:b[k]? = some d:=by
   have:=congrArg (·[0]?) e;simpa using this
  have Q:b.drop (k+1)=il:=by
   have:=congrArg (List.drop 1) e;simpa[aoe]using this
  rw[e]at h;obtain⟨M,j,Y,h⟩:=N.inv h;obtain⟨go,mF⟩:=step k d c H' U' n w M j C g' S Y;refine .inr ⟨go,λz g=>∃l s j,dA K mg l s j z g/\gu u l t g/\(nO B (b.drop (k+1)) s).run j=.ok A E,?_,λx g kY=>mF x g _ kY λL O F rb rY W=>?_⟩
  .rintro z g ⟨l,s,j,a1,a2,fE⟩
   exact⟨_,by omega,rfl,J,l,s,j,a1,a2,fE⟩
  .refine⟨c,L,n,M,j,rY,W,?_⟩
   have I:=g'.trans rb
   cases M with
   |bu s=>exact λl z g y bK=>⟨l,s,j,bK,I.trans y,by rw[Q];exact h⟩
   |cy s=>exact λl z g y bK=>⟨l,s,j,bK,I.trans y,by rw[Q];exact h⟩
   |bk s=>cases h;exact λl z g y bK=>q l z g (I.trans y) bK
   |cx r=>cases h;exact λl v g y o aF f2 Z=>q l v g (I.trans y) o aF f2 Z
theorem Ux{G:iI}{B:aE.D->b2}(T:∀O U S b H d y f c Q,dA K mg O U S b H->Rep K mg O H d y->(B d U).run S=.ok f c->(∀j l,dA K mg O j S l H->(bd j).run S=.ok f c->Q l H)->G y b H Q) :
  ∀D b H,pa K mg (P9 B it) D b H->w' (FW K mg it) G (pa K mg bd) D b H:=by
 rintro D b H ⟨O,U,S,Z,o,st,h,q⟩;obtain⟨ds,S1,w,h⟩:=N.inv h;refine⟨O,U,S,ds,S1,st,w,λY W C ys I n its r=>ZK n (λe H' g=>(its e H' g _).2 (ans r.len)) (λk d e H' U' e8 J f c F g' E z=>?_) h (q.d8 I.b0.d8)⟩;obtain⟨y,s,A⟩:=(r.d8 g' n.s3.cu.cc).get F;obtain⟨go,P⟩:=(its e H' g' k).1 (akw.mp s).1;refine⟨go,λx t R M L=>?_⟩;obtain⟨rfl,ex⟩:=P x t M;rw[s]at ex;cases ex;exact T _ _ _ _ _ _ _ _ _ _ E A z λj l V u=>L _ _ _ (ea.refl _ _).d8 V u
def ahu(b:aon (model X.prog X.w) X.A X.env X.dN)(f:X.calm=true)(hi:xX X (.Name x fu) iter it)(hN:X.N.Nodup)(d:X.N[i]? = some x)(hl:Loc X.env.scope x)(c:ih X body bd)
  (ay:∀x,alz iter X.env x=pure x:=by intro _;rfl) (g:X.fn x=true\/X.env.scope.names.lookup x=some .local:=by first|exact .inl rfl|exact .inr rfl|assumption):gh X (.For (.Name x fu) iter body [] pos) (xn i it bd):=
 ⟨hk (OE b f hi.un (tY hN d hl g) c.un ay) (Ux λ_ _ _ _ _ _ _ _ _ _ st e h k=>k _ _ (st.set (s:=.v _) (λxs z=>by cases z) ⟨_,rfl,e⟩) h)⟩
end
end aE
namespace aE
open PySem PySem.Spec aC
def fnX(n N:Nat)(b:b2):dX:=λds=>if ds.length=n then do
  let a <-b (ds.map b6++akI (N-n) .e)
  match a with
  |.cx (.v d)=>pure (.v d)|.cx (.fr xs)=>pure (.fr xs)|.bu _=>pure (.v .aI)|_=>h3
 else h3
def CM{n N:Nat}{ds:List D}{S a:bH}{r:R}(h:(fnX n N b ds).run S=.ok r a):ds.length=n:=by
 unfold fnX at h
 by_cases c:ds.length=n
 .exact c
 .rw[if_neg c]at h;cases h
def qx:j4:=λ_=>pure []
def ux(m:d1)(ms:c6):j4:=λU=>do
 let x <-m U
 let xs <-(ms U).up
 pure (x::xs)
def o9(mf:dX)(ms:j4):d1:=λU=>do
 let rs <-ms U
 if rs.all R.iW=true then mf (rs.map R.arg)else h3
def d5(c m:Str)(mf:dX)(mo:bw)(ms:j4):d1:=λU=>do
 let x <-(mo U).up
 let o <-(hG x).up
 match o with
 |.bb c' aW=>if c'=c/\aW.lookup m=none then(do
  let rs <-ms U
  if rs.all R.iW=true then mf (x.arg::rs.map R.arg)else h3)else h3
 |_=>h3
def o_(c:Str)(mf:dX)(ms:j4):d1:=λU=>do
 let rs <-ms U
 if rs.all R.iW=true then(do
  let S <-yJ
  putN (S++[.bb c []])
  let r <-mf (.ref S.length::rs.map R.arg)
  match r with
  |.v .aI=>pure (.v (.ref S.length))| _=>h3)else h3
variable[aC.a4]
def pf(K:aM)(mg:bl)(O:a7)(H:aw):D->V->Prop
 |.l xs,v=>∃a ys,v=.ref a/\((hs H a (.l ys)/\a∉O.bG)\/Bb K a ys)/\bj K mg O H xs ys|d,v=>Rep K mg O H d v
def mK(K:aM)(mg:bl)(O:a7)(H:aw):List D->List V->Prop
 |[],ys=>ys=[]|x::xs,ys=>∃y r,ys=y::r/\pf K mg O H x y/\mK K mg O H xs r
section
variable{K:aM}{mg:bl}{O:a7}{H:aw}{S:bH}
def pf.rep{v:V}(cc:jv O)(h:Rep K mg O H d v):pf K mg O H d v:=by
 cases d with
 |l xs=>obtain⟨a,ys,e,l,r⟩:=h;exact⟨a,ys,e,.inl ⟨.inl l.1,cc.no l.2 (by intro z;cases z)⟩,r⟩
 |_=>exact h
def Rj{r:R}{v:V}(cc:jv O)(ay:r.iW=true)(h:et K mg O H r v):pf K mg O H r.arg v:=by
 cases r with
 |v d=>exact pf.rep cc h| fr xs=>obtain⟨a,ys,e,l,t,r⟩:=h;exact⟨a,ys,e,.inl ⟨.inl l,cc.no t (by intro z;cases z)⟩,r⟩
 |bU _=>cases ay
 |mv _=>cases ay
theorem x2(cc:jv O):∀{rs:List R}{vs:List V},rs.all R.iW=true->i4 K mg O H rs vs->mK K mg O H (rs.map R.arg) vs
 |[],_,_,h=>h|_::_,_,ay,h=>by
  rw[anf,ak0]at ay;obtain⟨y,r,q,a,b⟩:=h;exact⟨y,r,q,Rj cc ay.1 a,x2 cc ay.2 b⟩
def pf.r{v:V}(h:pf K mg O H d v):uF K mg O H d v:=by
 cases d with
 |l xs=>obtain⟨a,ys,e,l,r⟩:=h;exact⟨a,ys,e,l.imp (·.1) id,r⟩
 |_=>exact h
theorem mK.r:∀{ds:List D}{vs:List V},mK K mg O H ds vs->lG K mg O H ds vs
 |[],_,h=>h| _::_,_,h=>by obtain⟨y,r,q,a,b⟩:=h;exact⟨y,r,q,a.r,mK.r b⟩
theorem mK.get:∀{ds:List D}{xs:List V}{i:Nat}{d:D},mK K mg O H ds xs->ds[i]? = some d->∃x,xs[i]? = some x/\pf K mg O H d x
 |[],_,_,_,_,e=>by simp at e| _::_,_,0,d,h,e=>by obtain⟨x,r,rfl,a,_⟩:=h;cases(show some _=some d from e);exact⟨x,rfl,a⟩
 |_::ds,_,i+1,d,h,e=>by
  obtain⟨x,r,rfl,_,b⟩:=h;obtain⟨y,au,aF⟩:=mK.get (i:=i) b (by simpa using e);exact⟨y,by simpa using au,aF⟩
def hJ(K:aM)(mg:bl)(mf:dX):ei:=λvs H Q _=>∃O ds r S b,di O H/\f3 K mg O H S/\O.bG.length=S.length/\mK K mg O H ds vs/\(mf ds).run S=.ok r b/\
 ∀a v H',dz O a H H'->di a H'->f3 K mg a H' b->a.bG.length=b.length->et K mg a H' r v->ju H r v->Q v H'
def ae1{ps N:List Str}{ds:List D}(h:di O H)(dT:f3 K mg O H S)(f:O.bG.length=S.length)(b:mK K mg O H ds vs)(hl:ds.length=ps.length):dA K mg (d0 O) (ds.map b6++akI (N.length-ps.length) .e) S (aC.start N vs) H:=by
 refine⟨FF h dT b.r hl,f,λi xs e=>?_⟩
 by_cases hi:i<ds.length
 .rw[akV (by rw[akz];exact hi),akN]at e
  cases o:ds[i]? with
  |none=>rw[o]at e;cases e
  |some d=>
   rw[o]at e;obtain⟨v,c,g⟩:=b.get o
   cases d with
   |l j=>
    cases e;obtain⟨a,ys,rfl,l,r⟩:=g;refine⟨a,ys,?_,l.imp (λz=>⟨z.1,k8 O a,z.2⟩) id,r.da (j5 O)⟩;unfold aC.start;rw[akV (by rw[akz];exact(akw.mp c).1),akN,c];rfl
   |_=>cases e
 .rw[akX (by rw[akz];omega),al8]at e
  split at e
  .cases e
  .cases e
theorem IV{ps N:List Str}(Z:hJ K mg (fnX ps.length N.length C) vs H Q E):pa K mg C { bu:=λ_ H'=>Q .aI H',cx:=Q } (aC.start N vs) H:=by
 obtain⟨O,ds,r,S,U,u,dT,L,X,h,q⟩:=Z;have hl:=CM h;unfold fnX at h;rw[if_pos hl]at h;obtain⟨G,S1,P,h⟩:=aE.N.inv h;have J:=ae1 (N:=N) u dT L X hl;have back:∀{c:a7}{H':aw},gu (d0 O) c H H'->di c H'->∃j:a7,dz O j H H'/\di j H'/\lI c j/\∀b,(c b=.dn\/∃i,c b=.loc i)->H b=none/\j b=.dn:=λ{c H'} g d=>by
  have D:∀b,H b≠none->(match H b with|some _=>O b|none=>(match c b with|.loc _=>.dn|o=>o))=O b:=λb f=>by
   cases e:H b with
   |none=>exact absurd e f|some o=>rfl
  have y:∀b,H b=none->(match H b with|some _=>O b|none=>(match c b with|.loc _=>.dn|o=>o))=(match c b with|.loc _=>Own.dn|o=>o):=λb f=>by rw[f]
  refine⟨⟨λb=>match H b with|some _=>O b|none=>(match c b with|.loc _=>.dn|o=>o),c.bG⟩,⟨λb o e h n=>g.cells b o e (h.imp (λz=>⟨k8 O b,z⟩) id) n,D,g.has,g.cC,g.b3,g.bG,g.new⟩,⟨λb f=>?_,d.tabs,d.cc.1,λb m=>?_⟩,⟨λb f=>?_,rfl⟩,λb f=>?_⟩
  .cases e:H b with
   |some o=>exact g.has b (h8 e)|none=>
    refine d.has b λz=>f ?_
    refine(y b e).trans ?_;rw[z]
  .rcases g.new b m with z|z
   .exact(D b (u.has b (by rw[u.cc.2 b z];intro z;cases z))).trans (u.cc.2 b z)
   .refine(y b z).trans ?_
    rw[d.cc.2 b m]
  .cases e:H b with
   |some o=>exact(D b (h8 e)).trans (nW.mp ((g.own b (h8 e) (k8 O b)).symm.trans f))|none=>
    refine(y b e).trans ?_;rw[f]
  .have aA:H b=none:=by
    cases e:H b with
    |none=>rfl|some o=>
     exfalso;have br:=g.own b (h8 e) (k8 O b);rcases k8 O b with z|z<;>rw[z]at br<;>rcases f with w|⟨i,w⟩<;>rw[br]at w<;>cases w
   refine⟨aA,(y b aA).trans ?_⟩;rcases f with w|⟨i,w⟩<;>rw[w]
 refine⟨d0 O,_,S,G,S1,J,P,?_⟩
 cases G with
 |bu U'=>
  cases h;intro c de H' g B;obtain⟨j,x,s,k,_⟩:=back g B.s3.cu;exact q j .aI H' x s (B.s3.gD.all (λ_ _ z=>Rep.da k z) k.bG λ_ _ _ l _=>l) (by rw[k.bG];exact B.full) rfl trivial
 |bk U'=>cases h
 |cy U'=>cases h
 |cx V=>
  intro c v H' g d A M p;obtain⟨j,x,s,k,Y⟩:=back g d;have I:=A.all (λ_ _ z=>Rep.da k z) k.bG λ_ _ _ l _=>l
  have F:j.bG.length=S1.length:=by rw[k.bG];exact M
  cases V with
  |v dD=>cases h;exact q j v H' x s I F (Rep.da k p) trivial
  |fr xs=>
   cases h;obtain⟨a,ys,rfl,l,t,R⟩:=p;obtain⟨aA,T⟩:=Y a t;exact q j _ H' x s I F ⟨a,ys,rfl,l,T,R.da k⟩ λb W=>by cases W;exact aA
  |bU xs=>exact alf p|mv xs=>exact alf p
end
structure xD(K:aM)(mg:bl)(c m qual:Str)(st:Stmt)(ps:List Str):Prop where
 ex:∃C f fd,mg c=some (.ref C)/\iZ K C/\Meth K C m f/\k3 K m qual st f fd/\Binds K fd ps []
structure kr(P:akZ)(w:World)(K:aM)(mg:bl)(base:Heap)(c m:Str)(ps:List Str)(k:Nat)(sp:ei):Prop where
 ex:∃C f fd,mg c=some (.ref C)/\iZ K C/\Meth K C m f/\e3 P w K mg base eA k f fd ps sp/\Binds K fd ps []
section
variable{P:akZ}{w:World}{K:aM}{mg:bl}{base:Heap}{x c m qual:Str}{st:Stmt}{ps N:List Str}{k:Nat}{cT:b2}{n nl:Nat}{f:Addr}{fd:alI}
def CN(F:k3 K x qual st f fd)(b:gT N ps (dg st))(aA:ps.length=n)(hl:N.length=nl)
  (d:∀(a:Value)(A:ak4)(outer:List Env)(s:akC)(H:aw)(E:gy),cE k (A.deeper (alF qual (dg st) s.heap.objs.size f a))->
   ih (gX eA P w K mg base N qual (dg st) f a A outer s H E).gB (fF st) cT):e3 P w K mg base eA (k+1) f fd ps (hJ K mg (fnX n nl cT)):=by
 subst aA hl;exact F.ok b (λvs H Q E ⟨O,ds,r,S,j,l,dT,i,e,h,q⟩=>e.r.len.trans (CM h)) λa A outer s H vs Q E aD g=>⟨_,(d a A outer s H E aD).un,IV g⟩
theorem Vu(gR:gR K mg x st ps)(d:gT N ps (dg st))(aA:ps.length=n)(hl:N.length=nl)
  (e:∀(f:Addr)(a:Value)(A:ak4)(outer:List Env)(s:akC)(H:aw)(E:gy),cE k (A.deeper (alF x (dg st) s.heap.objs.size f a))->
   ih (gX eA P w K mg base N x (dg st) f a A outer s H E).gB (fF st) cT):eU P w K mg base x ps (k+1) (hJ K mg (fnX n nl cT)):=by
 obtain⟨f,fd,F,b,m⟩:=gR.ex;exact⟨f,fd,CN F d aA hl (λa=>e f a),b,F.kp,m⟩
theorem Vs(gR:xD K mg c m qual st ps)(d:gT N ps (dg st))(aA:ps.length=n)(hl:N.length=nl)
  (e:∀(f:Addr)(a:Value)(A:ak4)(outer:List Env)(s:akC)(H:aw)(E:gy),cE k (A.deeper (alF qual (dg st) s.heap.objs.size f a))->
   ih (gX eA P w K mg base N qual (dg st) f a A outer s H E).gB (fF st) cT):kr P w K mg base c m ps (k+1) (hJ K mg (fnX n nl cT)):=by
 obtain⟨C,f,fd,g,cl,me,F,b⟩:=gR.ex;exact⟨C,f,fd,g,cl,me,CN F d aA hl (λa=>e f a),b⟩
theorem Vt{cT:aP}(gR:xD K mg c m qual st ps)(d:gT N ps (dg st))(aA:ps.length=n)(hl:N.length=nl)
  (e:∀(f:Addr)(a:Value)(A:ak4)(outer:List Env)(s:akC)(H:aw)(E:gy),cE k (A.deeper (alF qual (dg st) s.heap.objs.size f a))->
   uH (gX eA P w K mg base N qual (dg st) f a A outer s H E).gB (fF st) cT):kr P w K mg base c m ps (k+1) (e1 K mg (fnOf n nl cT)):=by
 obtain⟨C,f,fd,g,cl,me,F,b⟩:=gR.ex;exact⟨C,f,fd,g,cl,me,Lz F d aA hl (λa=>e f a),b⟩
end
section
variable{X:aV}{x:Str}{ps:List Str}{k:Nat}{mf:dX}{p pos:Pos}{e:Expr}{az:List Expr}{ms:j4}{pm:c6}{Qf:d1}
theorem ku.dK{O a:a7}(g:dz O a H H'):∀{rs:List R}{vs:List V},ku H' rs vs->ku H rs vs
 |[],_,_=>trivial|_::_,[],_=>trivial|_::_,_::_,h=>⟨h.1.dK g,ku.dK g h.2⟩
theorem ahg(n:eH X e Qf)(aD:gx X az pm)(ay:akx (e::az) X.env=(false,eval e X.env)::akx az X.env:=by rfl):pC X (e::az) (ux Qf pm):=⟨Aa (wR n.un aD.un ay) λy H Q l=>by
 obtain⟨O,U,S,r,w,st,h,q⟩:=l;obtain⟨x,S1,m,h⟩:=N.inv h;obtain⟨xs,u,c,h⟩:=N.inv h;cases h;obtain rfl:=(pm U).fb _ _ _ c;refine⟨O,U,S,x,_,st,m,λi d t f b g bu=>?_⟩;exact⟨i,U,_,xs,_,b.s3,c,λs vs j a bK rs ns=>q s (d::vs) j (f.trans a.dK) (b.go a bK.cu) ⟨d,vs,rfl,g.go a,rs⟩ ⟨bu,ns.dK f⟩⟩⟩
def S0:∀b H Q,xv K mg (o9 mf ms) b H Q->Ax (hJ K mg mf) (Gd K mg ms) b H Q:=by
 rintro b H Q ⟨O,U,S,r,m,st,h,q⟩;obtain⟨rs,S1,j,h⟩:=N.inv h;split at h
 .rename_i u
  refine⟨O,U,S,rs,S1,st,j,λf vs w c a n nn=>?_⟩;exact⟨f,_,r,S1,m,a.s3.cu,a.s3.gD,a.full,x2 a.s3.cu.cc u n,h,λl v H' g d dT i s t=>q l v H' (c.trans g) (a.dK g d dT i) s (t.dK c)⟩
 .cases h
def ahi(h:eU X.prog X.w X.K X.mg X.base x ps k (hJ X.K X.mg mf))(aD:cE k X.A)(a:d6 X x)(b:pC X (e::az) ms)(c:(x==("__debug__":Str))=false:=by decide)
  (he:akx (e::az) X.env=(false,eval e X.env)::akx az X.env:=by rfl) (d:(ak3 pos (akx az X.env)).any (·.1)=false:=by rfl):eH X (.Call (.Name x p) (e::az) [] pos) (o9 mf ms):=
 ⟨ee (Ou h aD a b.un c he d) S0⟩
end
end aE
namespace aE
open PySem PySem.Spec aC
def c0(c m:Str)(mf:bp)(mo:bw)(ms:c6):bw:=λU=>do
 let x <-mo U
 let o <-hG x
 match o with
 |.bb c' aW=>if c'=c/\aW.lookup m=none then(do
  let rs <-ms U
  mf (x.arg::rs.map R.arg))else bad
 |_=>bad
def Fx(x:R)(o:fZ):N Unit:=match x with
 |.v (.ref n)=>⟨λS=>.ok () (S.set n o)⟩
 |_=>h3
def dP(c f:Str)(mo:bw)(mv:d1):b2:=λU=>do
 let r <-mv U
 let d <-r.dat.up
 let x <-(mo U).up
 let o <-(hG x).up
 match o with
 |.bb c' aW=>if c'=c/\aW.length<1000 then(do
  Fx x (.bb c (h5 f d aW))
  pure (.bu U))else h3
 |_=>h3
def kX(f:List D->List R->M (R×List D))(mo:bw)(ms:c6):b2:=λU=>do
 let x <-(mo U).up
 let rs <-(ms U).up
 let o <-(hG x).up
 match o with
 |.l xs=>do
  let p <-(f xs rs).up
  Fx x (.l p.2)
  pure (.bu U)
 |_=>h3
def jU(m:d1):d1:=λU=>do
 let r <-m U
 match r with
 |.fr xs=>do
  let S <-yJ
  putN (S++[.l xs])
  pure (.v (.ref S.length))
 |_=>h3
variable[aC.a4]
def hj(O:a7)(p:Addr):a7:=⟨λb=>if b=p then .out else O b,O.bG++[p]⟩
section
variable{K:aM}{mg:bl}{O ak:a7}{H H':aw}{S ao:bH}{U:aJ}{ar:St}{p a:Addr}{o:fZ}{n:Nat}{u u':gJ}
omit [aC.a4]in
theorem oE(h:b≠p):hj O p b=O b:=if_neg h
omit [aC.a4]in
theorem abI:hj O p p=.out:=if_pos rfl
theorem NY(c:di O H)(f:p∉O.bG):jv (hj O p):=⟨anA.mpr ⟨c.cc.1,by simp,λx b y d=>by rintro rfl;rw[akY.mp d]at b;exact f b⟩,λa m=>by
 by_cases e:a=p
 .rw[e];exact abI
 .rw[oE e];exact c.cc.2 a ((alp.mp m).elim id λz=>absurd (akY.mp z) e)⟩
def di.abS(b:di O H)(c:H p=none):p∉O.bG:=λm=>b.has p (by rw[b.cc.2 p m];intro z;cases z) c
theorem alloc(i:di O H)(dT:f3 K mg O H S)(q:O.bG.length=S.length)(k:H p=none)(c:eC H H')(t:H' p≠none)(bb:(∀d v,Rep K mg O H d v->Rep K mg (hj O p) H' d v)->nR K mg (hj O p) H' p o) :
  dz O (hj O p) H H'/\di (hj O p) H'/\f3 K mg (hj O p) H' (S++[o])/\(hj O p).bG.length=(S++[o]).length:=by
 have g:dz O (hj O p) H H':=⟨λb o e _ n=>c.at' b o e n,λb j=>oE (by rintro rfl;exact j k),λ_ h=>c.some h,c.cC,c.b3,anu _ _,λb m=>(alp.mp m).imp id λz=>by rw[akY.mp z];exact k⟩;have f:∀d v,Rep K mg O H d v->Rep K mg (hj O p) H' d v:=λ_ _ z=>Rep.dK g i.cc z
 refine⟨g,⟨λb j=>?_,c.b3 i.tabs,NY i (i.abS k)⟩,λn w e=>?_,by rw[akB,<-q];exact akB⟩
 .by_cases e:b=p
  .rw[e];exact t
  .rw[oE e]at j;exact c.some (i.has b j)
 .by_cases aA:n<S.length
  .rw[akV aA]at e
   obtain⟨a,r,s⟩:=dT n w e;exact⟨a,by show(O.bG++[p])[n]? = _;rw[akV (by rw[q];exact aA)];exact r,s.all f λu l n=>c.at' _ _ l n⟩
  .rw[akX (by omega)]at e
   obtain rfl:n=S.length:=by
    have:=(akw.mp e).1;simp at this;omega
   rw[amR]at e;cases e;exact⟨p,by show(O.bG++[p])[S.length]? = _;rw[<-q,akX (akE _),amR];rfl,bb f⟩
def dA.write(st:dA K mg O U S ar H)(aA:O.bG[n]? = some a)(c:H a=some u)(A:¬Fix u)(r:∀ps,u≠.gc ps)(s:∀q,u≠.ext (qS a q))(bb:(∀d v,Rep K mg O H d v->Rep K mg O (upd H a u') d v)->nR K mg O (upd H a u') a o) :
  dz O O H (upd H a u')/\dA K mg O U (S.set n o) ar (upd H a u'):=by
 have w:=ak7 aA;have b3:TabsOk H->TabsOk (upd H a u'):=λt=>t.put u' (λps z=>r ps (ak1 (c.symm.trans z))) (λq z=>s q (ak1 (c.symm.trans z)))
 have has:∀b,H b≠none->upd H a u' b≠none:=λb i=>by
  by_cases e:b=a
  .rw[e,dZ];intro z;cases z
  .rw[c5 e];exact i
 have g:dz O O H (upd H a u'):=by
  refine⟨λb o e h _=>?_,λ_ _=>rfl,has,λb ps e=>⟨ps,?_⟩,b3,anN _,λ_ m=>.inl m⟩
  .rw[c5]
   .exact e
   .rintro rfl
    rcases h with h|h
    .exact h w
    .rw[c]at e;cases e;exact A h
  .rw[c5]
   .exact e
   .rintro rfl;rw[c]at e;cases e;exact r _ rfl
 have f:∀d v,Rep K mg O H d v->Rep K mg O (upd H a u') d v:=λ_ _ z=>Rep.dK g st.s3.cu.cc z
 refine⟨g,st.dK g ⟨λb i=>has b (st.s3.cu.has b i),b3 st.s3.cu.tabs,st.s3.cu.cc⟩ (λk x e=>?_) (by rw[ak8];exact st.full)⟩
 by_cases j:n=k
 .subst j
  rw[akU (by have:=(akw.mp e).1;rwa[ak8]at this)]at e;cases e;exact⟨a,aA,bb f⟩
 .rw[akF j]at e
  obtain⟨b,au,aF⟩:=st.s3.gD k x e;refine⟨b,au,aF.all f λu l _=>?_⟩;rw[c5]
  .exact l
  .rintro rfl
   obtain⟨br,bS⟩:=akw.mp au;obtain⟨B,y⟩:=akw.mp aA;exact j ((List.getElem_inj st.s3.cu.cc.1).mp (y.trans bS.symm))
theorem i4.dK(g:dz O ak H H')(cc:jv O):∀{rs:List R}{vs:List V},rs.all R.iW=true->i4 K mg O H rs vs->i4 K mg ak H' rs vs
 |[],_,_,h=>h|_::_,_,ay,h=>by
  rw[anf,ak0]at ay;obtain⟨y,r,q,a,b⟩:=h;exact⟨y,r,q,a.dK g cc ay.1,i4.dK g cc ay.2 b⟩
def wJ{r:R}{v:V}(st:cI K mg O U S ar H)(aD:et K mg O H r v)(h:(hG r).run S=.ok o ao):∃n a,r=.v (.ref n)/\v=.ref a/\O.bG[n]? = some a/\S[n]? = some o/\nR K mg O H a o:=by
 obtain⟨n,rfl,e,rfl⟩:=N6 h;obtain⟨a,c,g⟩:=st.gD n o e;obtain⟨b,f,d⟩:=aD;rw[c]at d;cases d;exact⟨n,a,rfl,f,c,e,g⟩
theorem fx.Ea:∀{J:List (Str×D)}{C:List (Str×V)},fx K mg O H J C->J.lookup f=none->C.lookup f=none
 |[],C,h,e=>by obtain rfl:=h.EF;rfl
 |p::J,C,h,e=>by
  obtain⟨q,r,rfl,au,aF,h'⟩:=h.cons;obtain⟨p1,cD⟩:=p;obtain⟨br,bS⟩:=q;cases(show p1=br from au);rw[akQ]at e ⊢
  cases cB:f==p1 with
  |true=>rw[cB]at e;cases e
  |false=>rw[cB]at e;exact fx.Ea h' e
end
def Ay(mg:bl)(c m:Str)(sp:ei)(f:TE)(t:fQ):TE:=λU H Q=>f U H λx b=>∃a C e aW,x=.ref a/\mg c=some (.ref C)/\b a=some (.ins C e aW)/\aW.lookup m=none/\t U b λvs d=>sp (x::vs) d Q i0
def Bm(t:TE):Prop:=∀U H Q a,(∀v H',Q v H'->a v H')->t U H Q->t U H a
def r1:Bm (fK K mg m):=λc H Q d i ⟨O,U,S,x,b,st,h,q⟩=>⟨O,U,S,x,b,st,h,λa v H' g s p n=>i _ _ (q a v H' g s p n)⟩
section
variable{X:aV}{c m:Str}{ps:List Str}{k:Nat}{sp:ei}{o e:Expr}{az:List Expr}{bW:TE}{t:fQ}{apos pos:Pos}{mf:dX}{rR:bp}{mo:bw}{pm:c6}{ms:j4}
def Ow{pl:Sem Bool}(h:kr X.prog X.w X.K X.mg X.base c m ps k sp)(aD:cE k X.A)(up:Bm bW)(he:bZ X o bW)(i:gV X (e::az) t)
  (s:akx (e::az) X.env=(false,eval e X.env)::akx az X.env:=by rfl) (p:(ak3 pos (akx az X.env)).any (·.1)=false:=by rfl)
  (l:eval (.Call (.Attribute o m apos) (e::az) [] pos) X.env=(do
   let bR <-eval o X.env
   amB apos.atName
   let(f,first) <-alU [bR] (amy bR m pl)
   am2 pos f first (ak3 pos (akx (e::az) X.env)) (amh pos (alK [] X.env))):=by rfl) :
  bZ X (.Call (.Attribute o m apos) (e::az) [] pos) (Ay X.mg c m sp bW t):=by
 obtain⟨C,f,x,r,cl,me,F,b⟩:=h.ex;refine ee (Ov (dvs:=[]) (ds:=[]) he cl me F aD b .nil rQ i s p l) λU H Q g=>up _ _ _ _ (λv u z=>?_) g
 obtain⟨a,y,j,aW,q,d,n,hl,z⟩:=z;rw[r]at d;cases d;refine⟨a,j,aW,q,n,hl,?_⟩;simpa only[alO]using z
def Ox{pl:Sem Bool}(h:kr X.prog X.w X.K X.mg X.base c m ps k sp)(aD:cE k X.A)(up:Bm bW)(he:bZ X o bW)
  (j:eval (.Call (.Attribute o m apos) [] [] pos) X.env=(do
   let bR <-eval o X.env
   amB apos.atName
   let(f,first) <-alU [bR] (amy bR m pl)
   am2 pos f first (ak3 pos (akx [] X.env)) (amh pos (alK [] X.env))):=by rfl) :
  bZ X (.Call (.Attribute o m apos) [] [] pos) (Ay X.mg c m sp bW xa):=by
 obtain⟨C,f,r,p,cl,me,F,b⟩:=h.ex;refine ee (adl (dvs:=[]) (ds:=[]) he cl me F aD b .nil rQ j) λU H Q g=>up _ _ _ _ (λv q z=>?_) g
 obtain⟨a,s,i,aW,n,d,l,hl,z⟩:=z;rw[p]at d;cases d;exact⟨a,i,aW,n,l,hl,z⟩
def NK:∀b H Q,fK K mg (c0 c m rR mo pm) b H Q->Ay mg c m (e1 K mg rR) (fK K mg mo) (oU K mg pm) b H Q:=by
 rintro b H Q ⟨O,U,S,r,A,st,h,q⟩;obtain⟨x,S1,y,s⟩:=M.inv h;clear h;refine⟨O,U,S,x,S1,st,y,λu fW J p j i bu=>?_⟩;obtain⟨bb,a5,l,h⟩:=M.inv s;clear s;obtain⟨n,a,rfl,rfl,bB,w,N⟩:=wJ j i l;obtain rfl:=(hG (.v (.ref n))).fb _ _ _ l;split at h
 .rename_i c' aW
  split at h
  .rename_i V
   obtain⟨rfl,W⟩:=V;obtain⟨rs,T,D,h⟩:=M.inv h;obtain⟨C,B,Y,L,I,Z⟩:=N;refine⟨a,C,B,Y,rfl,I.1,L,Z.Ea W,u,U,_,rs,T,j,D,λE vs aK f bK F nn=>?_⟩;obtain rfl:=(rR _).fb _ _ _ h;exact⟨E,.ref n::rs.map R.arg,r,A,bK.cu,bK.gD,⟨_,_,rfl,GR (et.go f i),Bu F⟩,h,λz v H' g d G P=>q z v H' ((p.trans f).trans g) (bK.go g d) G (P.back (p.trans f).same)⟩
  .cases h
 .cases h
def agx{pl:Sem Bool}(h:kr X.prog X.w X.K X.mg X.base c m ps k (e1 X.K X.mg rR))(aD:cE k X.A)(he:bc X o mo)(a:gx X (e::az) pm)
  (g:akx (e::az) X.env=(false,eval e X.env)::akx az X.env:=by rfl) (d:(ak3 pos (akx az X.env)).any (·.1)=false:=by rfl)
  (b:eval (.Call (.Attribute o m apos) (e::az) [] pos) X.env=(do
   let bR <-eval o X.env
   amB apos.atName
   let(f,first) <-alU [bR] (amy bR m pl)
   am2 pos f first (ak3 pos (akx (e::az) X.env)) (amh pos (alK [] X.env))):=by rfl):bc X (.Call (.Attribute o m apos) (e::az) [] pos) (c0 c m rR mo pm):=
 ⟨ee (Ow h aD r1 he.un a.un g d b) NK⟩
def agy{pl:Sem Bool}(h:kr X.prog X.w X.K X.mg X.base c m ps k (e1 X.K X.mg rR))(aD:cE k X.A)(he:bc X o mo)
  (j:eval (.Call (.Attribute o m apos) [] [] pos) X.env=(do
   let bR <-eval o X.env
   amB apos.atName
   let(f,first) <-alU [bR] (amy bR m pl)
   am2 pos f first (ak3 pos (akx [] X.env)) (amh pos (alK [] X.env))):=by rfl):bc X (.Call (.Attribute o m apos) [] [] pos) (c0 c m rR mo ai):=
 ⟨ee (Ox h aD r1 he.un j) λl H Q d=>r1 _ _ _ _ (λv b z=>by
  obtain⟨a,C,i,aW,au,aF,cO,eJ,O,U,S,rs,S1,st,g,q⟩:=z;cases g;exact⟨a,C,i,aW,au,aF,cO,eJ,q O [] b (Go.refl _ _) st rfl trivial⟩) (NK _ _ _ d)⟩
def Ez:∀i H Q,xv K mg (d5 c m mf mo ms) i H Q->Ay mg c m (hJ K mg mf) (fK K mg mo) (Gd K mg ms) i H Q:=by
 rintro i H Q ⟨O,U,S,r,F,st,h,q⟩;obtain⟨x,S1,p,y⟩:=N.inv h;clear h;obtain rfl:=(mo U).fb _ _ _ p;refine⟨O,U,S1,x,S1,st.s3,p,λA fW H1 u b l bu=>?_⟩;have f:=st.go u b.cu;obtain⟨bb,a5,s,h⟩:=N.inv y;clear y;obtain⟨n,a,rfl,rfl,bB,D,W⟩:=wJ b l s;obtain rfl:=(hG (.v (.ref n))).fb _ _ _ s;split at h
 .rename_i c' aW
  split at h
  .rename_i J
   obtain⟨rfl,hm⟩:=J;obtain⟨rs,z,I,h⟩:=N.inv h;obtain⟨C,G,j8,V,T,oN⟩:=W;split at h
   .rename_i Z
    refine⟨a,C,G,j8,rfl,T.1,V,oN.Ea hm,A,U,_,rs,z,f,I,λL vs aK w bK M nn=>?_⟩;have j:=u.dK.trans w;exact⟨L,.ref n::rs.map R.arg,r,z,F,bK.s3.cu,bK.s3.gD,bK.full,⟨_,_,rfl,Rep.dK w b.cu.cc l,x2 bK.s3.cu.cc Z M⟩,h,λE v H' g d dT B P Y=>q E v H' (j.trans g) (bK.dK g d dT B) P (Y.dK j)⟩
   .cases h
  .cases h
 .cases h
def ahk{pl:Sem Bool}(h:kr X.prog X.w X.K X.mg X.base c m ps k (hJ X.K X.mg mf))(aD:cE k X.A)(he:bc X o mo)(a:pC X (e::az) ms)
  (g:akx (e::az) X.env=(false,eval e X.env)::akx az X.env:=by rfl) (d:(ak3 pos (akx az X.env)).any (·.1)=false:=by rfl)
  (b:eval (.Call (.Attribute o m apos) (e::az) [] pos) X.env=(do
   let bR <-eval o X.env
   amB apos.atName
   let(f,first) <-alU [bR] (amy bR m pl)
   am2 pos f first (ak3 pos (akx (e::az) X.env)) (amh pos (alK [] X.env))):=by rfl):eH X (.Call (.Attribute o m apos) (e::az) [] pos) (d5 c m mf mo ms):=
 ⟨ee (Ow h aD r1 he.un a.un g d b) Ez⟩
def ahl{pl:Sem Bool}(h:kr X.prog X.w X.K X.mg X.base c m ps k (hJ X.K X.mg mf))(aD:cE k X.A)(he:bc X o mo)
  (j:eval (.Call (.Attribute o m apos) [] [] pos) X.env=(do
   let bR <-eval o X.env
   amB apos.atName
   let(f,first) <-alU [bR] (amy bR m pl)
   am2 pos f first (ak3 pos (akx [] X.env)) (amh pos (alK [] X.env))):=by rfl):eH X (.Call (.Attribute o m apos) [] [] pos) (d5 c m mf mo qx):=
 ⟨ee (Ox h aD r1 he.un j) λl H Q d=>r1 _ _ _ _ (λv b z=>by
  obtain⟨a,C,i,aW,au,aF,cO,eJ,O,U,S,rs,S1,st,g,q⟩:=z;cases g;exact⟨a,C,i,aW,au,aF,cO,eJ,q O [] b (Go.refl _ _).dK st rfl trivial⟩) (Ez _ _ _ d)⟩
theorem Qj{aW:List Str}{p:Pos}(T:mM X.K X.mg c aW)(h:kr X.prog X.w X.K X.mg X.base c "__init__" ps k (hJ X.K X.mg mf))(aD:cE (k+1) X.A)(Z:d6 X c)(j:pC X (e::az) ms)(eF:(c==("__debug__":Str))=false:=by decide)
  (he:akx (e::az) X.env=(false,eval e X.env)::akx az X.env:=by rfl) (eK:(ak3 pos (akx az X.env)).any (·.1)=false:=by rfl):eH X (.Call (.Name c p) (e::az) [] pos) (o_ c mf ms):=by
 obtain⟨C,f,fd,B,cl,me,F,b⟩:=h.ex;obtain⟨k0,P,_,⟨mk,kp⟩,_⟩:=T.ex;rw[B]at P;cases P;refine⟨ee (adk (dvs:=[]) (ds:=[]) ⟨mk,me.at_,me.fn,kp⟩ F aD Z B b .nil rQ j.un eF he eK) λar H Q J=>?_⟩;obtain⟨O,U,S,r,ao,st,h,q⟩:=J;obtain⟨rs,S1,ag,l⟩:=N.inv h;clear h;refine⟨O,U,S,rs,S1,st,ag,λs vs E g1 i bt nn a x j W u=>?_⟩;split at l
 .rename_i L
  obtain⟨uR,a5,ah,I⟩:=N.inv l;clear l;cases ah;obtain⟨_,hM,bI,M⟩:=N.inv I;clear I;cases bI;obtain⟨b1,sj,cW,h⟩:=N.inv M;clear M;have oP:eC E (upd (upd E x (.own a)) a (.ins C x [])):=(ub W _).trans (ub (by rw[c5 (am9 u)];exact j) _);obtain⟨D,y,V,G⟩:=alloc (o:=.bb c []) i.s3.cu i.s3.gD i.full j oP (by rw[dZ];intro z;cases z) λ_=>⟨C,x,[],dZ,⟨B,cl⟩,rfl,rfl⟩
  rw[alO];have n:(hj s a).bG[S1.length]? = some a:=by show(s.bG++[a])[S1.length]? = _;rw[<-i.full,akX (akE _),amR];rfl
  have i_:=g1.trans D;refine⟨hj s a,.ref S1.length::rs.map R.arg,b1,_,sj,y,V,G,⟨_,_,rfl,⟨a,rfl,n⟩,?_⟩,cW,λak v H' g d dT Y bx hE=>?_⟩
  .exact x2 y.cc L (i4.dK D i.s3.cu.cc L bt)
  .split at h
   .cases h
    refine⟨bx,q ak _ H' (i_.trans g) ((i.dK D y V G).dK g d dT Y) ⟨a,rfl,?_⟩ trivial⟩;obtain⟨t,e⟩:=g.bG;rw[<-e,akV (akw.mp n).1];exact n
   .cases h
 .cases l
end
end aE
namespace aE
open PySem PySem.Spec aC PyProof.Rows
@[reducible] def vK:apf where
 α:=Int
 blt a b:=decide (a<b)
 irrefl a:=by simp
 trans a b c o C:=by simp only[decide_eq_true_eq]at *;omega
 negTrans a b c h:=by simp only[decide_eq_true_eq]at *;omega
 total a b o C:=by simp only[decide_eq_false_iff_not]at *;omega
 keyOf v:=match v with|.int i _=>some i|_=>none
 dflt:=0
def Yx:vK.OneLt:=by
 intro prog w A E s x y a b Q d c h;cases x<;>simp only[vK,reduceCtorEq,aps]at d
 cases y<;>simp only[vK,reduceCtorEq,aps]at c
 cases d;cases c;exact oneLt_int h
structure iD where
 κ:apf
 eL:κ.α->D
 un:D->Option κ.α
structure iD.Ok(Z:iD):Prop where
 one:Z.κ.OneLt
 uq:∀d a,Z.un d=some a->d=Z.eL a
 key:∀(a:Z.κ.α)(K:aM)(mg:bl)(O:a7)(H:aw)(v:V)(u:Value),Rep K mg O H (Z.eL a) v->RelV v u->Z.κ.keyOf u=some a
 kind:∀(qt qu:Value)(vs:List Value),(∀v∈qt::qu::vs,∃a,Z.κ.keyOf v=some a)->keyKind' (qt::qu::vs).toArray=pure oneType'
@[reducible] def fs:iD where
 κ:=vK
 eL:=D.int
 un d:=match d with|.int i=>some i|_=>none
@[reducible] def mb:iD where
 κ:=apg
 eL:=λl=>D.str ⟨l.toArray⟩
 un d:=match d with|.str x=>some x.cps.toList|_=>none
def Nc:fs.Ok where
 one:=Yx
 uq:=λd a h=>by cases d<;>first|(cases h;rfl)|cases h
 key:=λa K mg O H v u h r=>by
  cases(show v=.int a from h);obtain⟨t,rfl⟩:=r;rfl
 kind:=λe f vs h=>by
  refine keyKind_ints (ns:=(e::f::vs).map numOf) (intsAre_map _ λv c=>?_);obtain⟨a,b⟩:=h v c;cases v<;>first|(cases b;exact⟨_,_,rfl⟩)|cases b
def Zd:mb.Ok where
 one:=strKind_oneLt
 uq:=λd a h=>by cases d<;>first|(cases h;rfl)|cases h
 key:=λa K mg O H v u h r=>by
  cases(show v=.str ⟨a.toArray⟩from h);obtain⟨t,rfl⟩:=r;rfl
 kind:=λe f vs h=>by
  have key:∀(l:List Value),(∀v∈l,∃a,apg.keyOf v=some a)->∃ss,StrsAre l ss:=λl=>by
   induction l with
   |nil=>exact λ_=>⟨[],.nil⟩
   |cons v l b=>
    intro h;obtain⟨ss,ay⟩:=b λw hw=>h w (akL _ hw)
    obtain⟨a,c⟩:=h v akS;cases v<;>first|exact⟨_::ss,.cons _ _ ay⟩|cases c
  obtain⟨ss,ay⟩:=key _ h;exact keyKind_strs ay
section
variable{β:Type}
def s6(blt:β->β->Bool)(p:β×D):List (β×D)->List (β×D)
 |[]=>[p]
 |q::r=>if blt q.1 p.1 then q::s6 blt p r else p::q::r
def jT(blt:β->β->Bool):List (β×D)->List (β×D)
 |[]=>[]
 |p::r=>s6 blt p (jT blt r)
theorem DJ(blt:β->β->Bool)(p:β×D):∀l,(s6 blt p l).Perm (p::l)
 |[]=>.refl _|q::r=>by
  unfold s6;split
  .exact((DJ blt p r).cons q).trans (.swap p q r)
  .exact .refl _
theorem Aq(blt:β->β->Bool):∀l,(jT blt l).Perm l
 |[]=>.refl _|p::r=>(DJ blt p _).trans ((Aq blt r).cons p)
end
theorem MI(O:amd)(p:O.α×D):∀l:List (O.α×D),l.Pairwise (λa b=>O.blt a.1 b.1=true)->(∀q∈l,q.1≠p.1)->(s6 O.blt p l).Pairwise (λa b=>O.blt a.1 b.1=true)
 |[],_,_=>List.pairwise_singleton _ _|q::r,h,aA=>by
  rw[amk]at h;unfold s6
  cases e:O.blt q.1 p.1 with
  |true=>
   rw[if_pos rfl,amk];refine⟨λx c=>?_,MI O p r h.2 λx c=>aA x (akL _ c)⟩;rcases akP.mp ((DJ O.blt p r).mem_iff.mp c)with rfl|c
   .exact e
   .exact h.1 x c
  |false=>
   rw[if_neg akD,amk,amk];have d:O.blt p.1 q.1=true:=by
    cases aF:O.blt p.1 q.1 with
    |true=>rfl|false=>exact absurd (O.total _ _ e aF) (aA q akS)
   refine⟨λx c=>?_,h.1,h.2⟩;rcases akP.mp c with rfl|c
   .exact d
   .exact O.trans _ _ _ d (h.1 x c)
theorem Fz(O:amd):∀l:List (O.α×D),(l.map (·.1)).Nodup->(jT O.blt l).Pairwise (λa b=>O.blt a.1 b.1=true)
 |[],_=>.nil|p::r,h=>by
  rw[akO,alx]at h;refine MI O p _ (Fz O r h.2) λq c e=>h.1 ?_
  rw[<-e];exact amU ((Aq O.blt r).mem_iff.mp c)
theorem Pa{f:Type}{lt:f->f->Prop}(g:∀a,¬lt a a)(i:∀a b c,lt a b->lt b c->lt a c):∀{d l₂:List f},d.Perm l₂->d.Pairwise lt->l₂.Pairwise lt->d=l₂
 |[],l₂,p,_,_=>(List.nil_perm.mp p).symm|a::d,[],p,_,_=>(List.nil_perm.mp p.symm)
 |a::d,b::l₂,p,o,C=>by
  rw[amk]at o C;have e:a=b:=by
   rcases akP.mp (p.mem_iff.mp akS)with h|h
   .exact h
   .rcases akP.mp (p.mem_iff.mpr akS)with h'|h'
    .exact h'.symm
    .exact(g _ (i _ _ _ (o.1 b h') (C.1 a h))).elim
  subst e;rw[Pa g i (List.Perm.cons_inv p) o.2 C.2]
def FA(O:amd){l ps:List (O.α×D)}(aA:(l.map (·.1)).Nodup)(d:ps.Perm l)(ay:ps.Pairwise (λa b=>O.blt a.1 b.1=true)):ps=jT O.blt l:=
 Pa (lt:=λa b=>O.blt a.1 b.1=true) (λa=>by rw[O.irrefl];exact akD) (λa b c=>O.trans _ _ _) (d.trans (Aq O.blt l).symm) ay (Fz O l aA)
def ae5(O:amd){ps:List (O.α×D)}(aA:(ps.map (·.1)).Nodup)(h:ps.Pairwise (λa b=>O.blt b.1 a.1=false)):ps.Pairwise (λa b=>O.blt a.1 b.1=true):=by
 induction ps with
 |nil=>exact .nil|cons p r d=>
  rw[akO,alx]at aA;rw[amk]at h ⊢;refine⟨λq c=>?_,d aA.2 h.2⟩
  cases e:O.blt p.1 q.1 with
  |true=>rfl| false=>exact absurd (amU (f:=λx:O.α×D=>x.1) c) (by rw[<-O.total _ _ e (h.1 q c)];exact aA.1)
end aE
namespace aE
open PySem PySem.Spec aC PyProof.Rows
variable[aC.a4]
def nQ(X:aV)(k:Nat)(f:Addr)(G:aw->Prop)(mf:bp):Prop:=
 (∀H H',eC H H'->G H->G H')/\(∀H p a o,H p=some (.l a)->G H->G (upd H p o))/\∀(A:ak4)(s:akC)(H:aw)(u:Value)(v:V)(Q:cU),cE k A->k2 X.prog X.w X.K X.mg X.base A X.stack s H->G H->RelV v u->e1 X.K X.mg mf [v] H Q i0->
  ani (model X.prog X.w) A (.call (.ref f) ⟨[u],[]⟩) (Gn eA X.stack X.prog X.w H s Q i0) s
def lstP(a:Addr)(e:Nat):Heap->Prop:=λh=>h.get? a=some (alB "list" #[] e)
structure qD(X:aV)(zn:c3)(U:aC.St)(G:aw->Prop)(O:a7)(H:aw)(a dE:Addr)(au:Nat)(b4:List D)(aZ:akC):Prop where
 ex:∃ak H' ys,Inv X zn U H' aZ/\Go O ak H H'/\di ak H'/\G H'/\H' a=some (.ext (lstP a au))/\H' dE=some (.l ys)/\bj X.K X.mg ak H' b4 ys/\ak dE=.dn
 na:a∉O.bG
section
variable{X:aV}{zn:c3}{U:aC.St}{H:aw}{s:akC}{G:aw->Prop}{mf:bp}{f a dE:Addr}{k:Nat}{O:a7}{au:Nat}
def ZN{h:Heap}(e:h.get? a=some (alB "list" #[] au)):iG prog w H h a (.ext (lstP a au)):=
 ⟨e,⟨_,e⟩,λb c p q=>q _ p⟩
def Lo{H':aw}(J:Inv X zn U H' C)(b:H' a=some (.ext (lstP a au)))(q:Str):H' a≠some (.ext (qS a q)):=λz=>by
 obtain⟨p,_⟩:=J.cb a _ b;obtain⟨cD,_⟩:=J.cb a _ z;obtain⟨c,o,vs,t,au,aF,cO,_⟩:=cD;cases au;have p:C.heap.get? a=_:=p;rw[p]at aF;cases aF;cases cO
def Y_{m:List D}{v:V}(E:nQ X k f G mf)(aD:cE k X.A.in1.in1)(l4:H a=none)(l6:H dE=none)(oa:dE≠a)(dh:Rep X.K X.mg O H d v)(ef:RelV v u)(hd:(mf [d]).run []=.ok (.v o) [])(sV:m.length<64)(S:qD X zn U G O H a dE au m C) :
  wpAny (model X.prog X.w) X.A.in1.in1 (call (.ref f) [u]) (λu' s2=>∃(b:a7)(H':aw)(ys:List V)(c:V),Inv X zn U H' s2/\Go O b H H'/\di b H'/\G H'/\H' a=some (.ext (lstP a au))/\H' dE=some (.l ys)/\bj X.K X.mg b H' m ys/\Rep X.K X.mg b H' o c/\RelV c u'/\b dE=.dn) (λ_ _=>False) C:=by
 obtain⟨p,n,ys,y,B,eE,F,M,t,Q,J⟩:=S.ex;refine wpAny_call (anb (E.2.2 X.A.in1.in1 C n u v (λc H'=>∃b,Go p b n H'/\di b H'/\Rep X.K X.mg b H' o c) aD y.vd.in1.in1 F ef ?_) λr s2 i=>?_)
 .refine⟨p,[d],.v o,[],eE,f3.nil,⟨v,[],rfl,?_,rfl⟩,hd,λb c H' g Z W _=>⟨b,g,Z,W⟩⟩
  have j:=dh.go B;cases d<;>first|exact j|exact alf j|skip
  obtain⟨x,zs,q,l,r⟩:=j;exact⟨x,zs,q,l.cR,r⟩
 .cases r with
  |error e=>exact alf i|ok L=>
   cases L with
   |ret u'=>
    obtain⟨c,I,P,R,T,h,Y,N⟩:=y.after i;exact⟨T,I,ys,c,P,B.trans h,Y,E.1 _ _ h.same F,h.same.at' _ _ M,h.same.at' _ _ t,Q.go h,N,R,(h.own dE (by rw[t];intro z;cases z)).trans J⟩
   |next=>exact alf i
   |brk=>exact alf i|cont=>exact alf i
def aeX{Z:iD}(j_:Z.Ok){ds:List D}{c:List Z.κ.α}{xs:List V}{us:List Value}{P:Fin->akC->Prop}{E:dk}(gk:nQ X k f G mf)(aD:cE k X.A.in1.in1)(l4:H a=none)(l6:H dE=none)(oa:dE≠a)
  (C:bj X.K X.mg O H ds xs) (J:Vals xs us) (sV:∀(i:Nat)(d:D),ds[i]? = some d->∃κ,c[i]? = some κ/\(mf [d]).run []=.ok (.v (Z.eL κ)) []) (hlen:c.length=ds.length) (la:ds.length<64) (S:qD X zn U G O H a dE au [] s)
  (fin:∀(q:akC)(p:Array Value),qD X zn U G O H a dE au (c.map Z.eL) q->p.toList.map Z.κ.keyOf=c.map some->wpAny (model X.prog X.w) X.A.in1.in1 (ksk_end a false us.toArray au (.ref dE) p) P E q) :
  wpAny (model X.prog X.w) X.A.in1.in1 (ksk_rest a (.ref f) false us.toArray au (.ref dE)) P E s:=by
 have ZQ:=C.len;have Ed:=J.length;unfold ksk_rest;refine akv (aoJ ?_)
 first
  |rw[List.forIn_toArray]
  |(rw[<-Array.forIn_toList];simp only[List.toList_toArray])
  |rw[<-Array.forIn_toList]
 refine akv (ksk_fold (λi q=>qD X zn U G O H a dE au ((c.take i).map Z.eL) q) us 0 s (by rw[ao9];exact S) ?step ?done)
 case step=>
  intro j u q cH B;simp only[amQ]at B ⊢;have a_:j<us.length:=(akw.mp cH).1;obtain⟨v,I,ef⟩:∃v,xs[j]? = some v/\RelV v u:=by
   have I:xs[j]? = some xs[j]:=akJ (by omega);obtain⟨u',y6,r⟩:=J.get I;rw[cH]at y6;cases y6;exact⟨_,I,r⟩
  obtain⟨d,hd,dh⟩:=C.LN I;obtain⟨κ,Yi,hm⟩:=sV j d hd;have hz:((c.take j).map Z.eL).length<64:=by rw[akz,alT];omega
  refine akv (wpAny_attempt (alu (Y_ gk aD l4 l6 oa dh ef hm hz B) (λu' s2 he=>?_) λ_ _ kD=>kD.elim));obtain⟨W,Q,ys,fL,F,L,c8,qC,vq,m,N,R,T,Y⟩:=he
  try dsimp only
  obtain⟨gO,its,n,g,M⟩:=F.cb dE _ m;have XA:its.length=(c.take j).length:=by rw[<-g.length,N.len,akz]
  have ajJ:its.length<64:=by rw[XA,alT];omega
  have s1:=alM s2.heap dE (ak6 (·.push u'));obtain⟨ae,jI⟩:∃ae,(s2.heap.update dE (ak6 (·.push u'))).get? dE=some (alB "list" (its.toArray.push u') ae):=⟨_,am1 M (·.push u')⟩;refine akv (aoz M rfl ?_ (by rw[akH,ak2];omega) (ald (ans (Array.size_push ..)) (by rw[akH,ak2];omega)));refine akG ⟨rfl,⟨⟨W,upd Q dE (.l (ys++[fL])),ys++[fL],?_,⟨uu l6 L.same m _,L.own,L.bG⟩,c8.eg m,gk.2.1 _ _ _ _ m qC,by rw[c5 oa.symm];exact vq,dZ,?_,Y⟩,B.na⟩⟩
  .refine F.write (x:=dE) (e:=dE) (t':=s2.toks) (by rw[m];trivial) (.inl rfl) (λb o ab e=>(s1.2 b ab).trans e) ⟨_,jI⟩ ⟨?_,its++[u'],ae,g.append (.cons T .nil),?_⟩
   .rw[akB,g.length];rw[ak2];simp;omega
   .rw[jI];simp[alB]
  .have ip:c.take (j+1)=c.take j++[κ]:=by rw[aoD,Yi];rfl
   rw[ip,al1];exact(N.append (.one R)).eg (by rw[Y];intro z;cases z) m
 case done=>
  intro q B;have cO:c.take (0+us.length)=c:=alV (by omega);rw[cO]at B;obtain⟨W,Q,ys,F,L,c8,qC,vq,m,N,Y⟩:=id B.ex;obtain⟨gO,its,n,g,M⟩:=F.cb dE _ m;refine akv (listItems_at M rfl ?_);refine fin q its.toArray B ?_;have key:∀(c:List Z.κ.α)(ys:List V)(its:List Value),bj X.K X.mg W Q (c.map Z.eL) ys->Vals ys its->its.map Z.κ.keyOf=c.map some:=by
   intro c
   induction c with
   |nil=>intro ys its h r;cases h;cases r;rfl
   |cons κ c aO=>
    intro ys its h r;obtain⟨y,t,rfl,ag,ah⟩:=h
    cases r with
    |cons bA b1=>
     rw[akO,akO,aO _ _ ah b1,j_.key κ _ _ _ _ _ _ ag bA]
  exact key _ _ _ N g
end
end aE
namespace aE
open PySem PySem.Spec aC PyProof.Rows
def adu{α b:Type}(f:α->b):∀{L M:List b},L.Perm M->∀{Q:List α},M=Q.map f->∃a:List α,a.Perm Q/\L=a.map f:=by
 intro L M h
 induction h with
 |nil=>
  intro Q e
  cases Q with
  |nil=>exact⟨[],.refl _,rfl⟩|cons q Q=>cases e
 |cons x _ d=>
  intro Q e
  cases Q with
  |nil=>cases e
  |cons q Q=>
   rw[akO]at e;injection e with au aF
   obtain⟨a,p,cO⟩:=d aF;exact⟨q::a,p.cons q,by rw[au,cO];rfl⟩
 |swap x y l=>
  intro Q e
  cases Q with
  |nil=>cases e
  |cons q Q=>
   cases Q with
   |nil=>rw[akO]at e;injection e with _ aF;cases aF
   |cons r Q=>
    rw[akO,akO]at e;injection e with au aF
    injection aF with aF cO
    exact⟨r::q::Q,.swap _ _ _,by rw[au,aF,cO];rfl⟩
 |trans _ _ i j=>
  intro Q e;obtain⟨g,p1,au⟩:=j e;obtain⟨c,cD,aF⟩:=i au;exact⟨c,cD.trans p1,aF⟩
variable[aC.a4]
abbrev xS(Z:iD):=(Value×Value)×(Z.κ.α×(D×V))
section
variable{K:aM}{mg:bl}{O:a7}{H:aw}{Z:iD}
def ad9{ds:List D}:∀{xs:List V}{us a:List Value}{b:List Z.κ.α},bj K mg O H ds xs->Vals xs us->a.map Z.κ.keyOf=b.map some->b.length=ds.length->
  ∃Q:List (xS Z),Q.map (·.1)=a.zip us/\Q.map (λq=>(q.2.1,q.2.2.1))=b.zip ds/\∀q∈Q,Z.κ.keyOf q.1.1=some q.2.1/\Rep K mg O H q.2.2.1 q.2.2.2/\RelV q.2.2.2 q.1.2:=by
 induction ds with
 |nil=>
  intro xs us a b h r e l;cases h;cases r;rw[amW.mp l]at e ⊢;have:a=[]:=by cases a with|nil=>rfl|cons=>cases e
  subst this;exact⟨[],rfl,rfl,λ_ h=>(nomatch h)⟩
 |cons d ds f=>
  intro xs us a b h r e l;obtain⟨x,t,rfl,g,i⟩:=h
  cases r with
  |@cons _ u _ us k j=>
   cases b with
   |nil=>cases l
   |cons κ b=>
    cases a with
    |nil=>cases e
    |cons kv a=>
     rw[akO,akO]at e;injection e with au aF
     obtain⟨Q,br,bS,m⟩:=f i j aF (by simpa using l);refine⟨((kv,u),(κ,(d,x)))::Q,?_,?_,λq c=>?_⟩
     .rw[akO,br];rfl
     .rw[akO,bS];rfl
     .rcases akP.mp c with rfl|c
      .exact⟨au,g,k⟩
      .exact m q c
theorem O8{α:Type}(f:α->D)(g:α->V):∀l:List α,(∀q∈l,Rep K mg O H (f q) (g q))->bj K mg O H (l.map f) (l.map g)
 |[],_=>rfl|q::l,h=>⟨_,_,rfl,h q akS,O8 f g l λx a=>h x (akL _ a)⟩
omit [aC.a4]in
theorem PV{α:Type}(f:α->V)(g:α->Value):∀l:List α,(∀q∈l,RelV (f q) (g q))->Vals (l.map f) (l.map g)
 |[],_=>.nil|q::l,h=>.cons (h q akS) (PV f g l λx a=>h x (akL _ a))
def sorted_out{ds:List D}{xs:List V}{us:List Value}{e:Array Value}{g:List Z.κ.α}(E:bj K mg O H ds xs)(F:Vals xs us)(B:e.toList.map Z.κ.keyOf=g.map some)(hl:g.length=ds.length)(aA:g.Nodup)
  {c:Array Keyed}(z:c.Perm (e.zip us.toArray)) (ay:SortedToK Z.κ c c.size) :
  ∃ys,Vals ys (c.map (·.2)).toList/\ys.length=ds.length/\bj K mg O H ((jT Z.κ.blt (g.zip ds)).map (·.2)) ys:=by
 obtain⟨Q,br,bS,G⟩:=ad9 E F B hl;have y:c.toList.Perm (Q.map (·.1)):=by
  rw[br,<-ksk_zip];exact Array.perm_iff_toList_perm.mp z
 obtain⟨d,r,n⟩:=adu (λq:xS Z=>q.1) y rfl;have k:∀q∈d,Z.κ.keyOf q.1.1=some q.2.1/\Rep K mg O H q.2.2.1 q.2.2.2/\RelV q.2.2.2 q.1.2:=λq h=>G q (r.mem_iff.mp h)
 have w:(g.zip ds).map (·.1)=g:=by rw[List.map_fst_zip];omega
 have f:(d.map λq=>(q.2.1,q.2.2.1)).Perm (g.zip ds):=by rw[<-bS];exact r.map _
 have fB:((d.map λq:xS Z=>(q.2.1,q.2.2.1)).map (·.1)).Nodup:=by
  have:=f.map (λp:Z.κ.α×D=>p.1);rw[w]at this;exact this.nodup_iff.mpr aA
 have l:(d.map λq:xS Z=>(q.2.1,q.2.2.1)).Pairwise (λa b=>Z.κ.blt b.1 a.1=false):=by
  rw[am8,List.pairwise_iff_getElem];intro i j hi A x;have u:c.toList.length=d.length:=by rw[n,akz]
  have I:i<c.size:=by rw[alk]at u;omega
  have t:j<c.size:=by rw[alk]at u;omega
  have:=ay i j (ame x) t;have at':∀(m:Nat)(s:m<d.length)(L:m<c.size),KK Z.κ c m=d[m].2.1:=λm s L=>by
   have au:c[m]? = some d[m].1:=by
    have:c.toList[m]? = some d[m].1:=by rw[n,akN,akJ s];rfl
    rwa[anT]at this
   unfold KK;rw[au];show(Z.κ.keyOf d[m].1.1).getD Z.κ.dflt=_;rw[(k _ (ami s)).1];rfl
  rw[at' i hi I,at' j A t]at this;exact this
 have one:=FA Z.κ.toKeyOrd (by rw[w];exact aA) f (ae5 Z.κ.toKeyOrd fB l);refine⟨d.map λq=>q.2.2.2,?_,?_,?_⟩
 .have:(c.map (·.2)).toList=d.map λq=>q.1.2:=by
   rw[Array.toList_map,n,amq];rfl
  rw[this];exact PV _ _ _ λq h=>(k q h).2.2
 .rw[akz,r.length_eq]
  have:=congrArg amn bS;rw[akz,List.length_zip,hl,Nat.min_self]at this;exact this
 .rw[<-one,amq]
  exact O8 _ _ _ λq h=>(k q h).2.1
end
section
variable{X:aV}{zn:c3}{U:aC.St}{H:aw}{s:akC}{G:aw->Prop}{a dE:Addr}{O:a7}{au:Nat}{Z:iD}{ds:List D}{cP:List Z.κ.α}{xs:List V}{us:List Value}{E:dk}{keys:Array Value}
def Bh(X:aV)(zn:c3)(U:aC.St)(O:a7)(H:aw)(a:Addr)(out:List D)(c:akC):Prop:=
 ∃b H' ys,Inv X zn U H' c/\Go O b H H'/\di b H'/\H' a=some (.l ys)/\b a=.dn/\bj X.K X.mg b H' out ys
def Pr{A:ak4}{st:SortSt}(y:H a=none)(l6:H dE=none)(Q:dE≠a)(bB:bj X.K X.mg O H ds xs)(bT:Vals xs us)(av:keys.toList.map Z.κ.keyOf=cP.map some)(hl:cP.length=ds.length)(aA:cP.Nodup)(la:ds.length<64)
  (S:qD X zn U G O H a dE au (cP.map Z.eL) s) (Y:(arrOf st).Perm (keys.zip us.toArray)) (ay:SortedToK Z.κ (arrOf st) (arrOf st).size) (V:failedOf st=none) :
  wpAny (model X.prog X.w) A (ksk_tail a false au (.ref dE) st) (λr C=>r=.done (.ret .none)/\Bh X zn U O H a ((jT Z.κ.blt (cP.zip ds)).map (·.2)) C) E s:=by
 obtain⟨M,h,aks,t,j,i,qC,T,k,t6,tW⟩:=S.ex;obtain⟨_,its,n,f,N⟩:=t.cb dE _ k;have W:s.heap.get? a=some (alB "list" #[] au):=(t.cb a _ T).1;obtain⟨D,I,mG,q⟩:=sorted_out bB bT av hl aA Y ay;have gO:(arrOf st).size=ds.length:=by
  have ag:=I.length;have ah:((arrOf st).map (·.2)).toList.length=(arrOf st).size:=by rw[alk,Array.size_map]
  omega
 have J:its.length=ds.length:=by rw[<-f.length,t6.len,akz,hl]
 have R:=alM s.heap dE (ak6 λ_=>(#[]:Array Value));obtain⟨bf,F⟩:∃bf,(s.heap.update dE (ak6 λ_=>(#[]:Array Value))).get? dE=some (alB "list" #[] bf):=⟨_,am1 N λ_=>#[]⟩;have p:(s.heap.update dE (ak6 λ_=>(#[]:Array Value))).get? a=some (alB "list" #[] au):=(R.2 a Q.symm).trans W;have u:Inv X zn U (upd h dE (.l [])) { s with heap:=s.heap.update dE (ak6 λ_=>(#[]:Array Value)) }:=
  t.write (x:=dE) (e:=dE) (t':=s.toks) (by rw[k];trivial) (.inl rfl) (λb o c e=>(R.2 b c).trans e) ⟨_,F⟩ ⟨alh _,[],bf,.nil,F⟩
 have s2:=alM (s.heap.update dE (ak6 λ_=>(#[]:Array Value))) a (ak6 λ_=>(arrOf st).map (·.2));obtain⟨ae,P⟩:∃ae,((s.heap.update dE (ak6 λ_=>(#[]:Array Value))).update a (ak6 λ_=>(arrOf st).map (·.2))).get? a=some (alB "list" ((arrOf st).map (·.2)) ae):=⟨_,am1 p λ_=>(arrOf st).map (·.2)⟩;have d:upd h dE (.l []) a=some (.ext (lstP a au)):=by rw[c5 Q.symm];exact T
 unfold ksk_tail
 try dsimp only
 simp only[anv,if_false];refine akv (aoz N rfl ?_ (by rw[akH,ak2];omega) (alh _));refine akv (am6 ?_);refine akv (seqEpoch_at p rfl ?_);refine akv (aoz p rfl ?_ (alh _) (ald (ans (Array.size_map ..)) (by rw[gO,ak2];omega)));rw[V];simp only[bne_self_eq_false,anv,if_false];have same:eC H (upd (upd h dE (.l [])) a (.l D)):=by
  have B:=uu l6 j.same k (.l []);refine⟨λb o e n=>by rw[c5 (kM e y)];exact B.at' b o e n,λb ps e=>by rw[c5 (kM e y)];exact B.cC b ps e,λg=>?_⟩;exact(B.b3 g).put _ (λps=>by rw[d];intro z;cases z) (Lo u d)
 have go:Go O (fV M a .dn) H (upd (upd h dE (.l [])) a (.l D)):=⟨same,λb c=>by
  rw[o1 (by rintro rfl;exact c y)];exact j.own b c,j.bG⟩
 refine akG ⟨rfl,fV M a .dn,_,D,?_,go,⟨λb c=>?_,?_,i.cc.1,λb m=>by rw[o1 (by rintro rfl;exact S.na (j.bG▸m))];exact i.cc.2 b m⟩,dZ,lC,q.go go⟩
 .refine u.write (x:=a) (e:=a) (t':=s.toks) (by rw[d];trivial) (.inl rfl) (λb o c e=>(s2.2 b c).trans e) ⟨_,P⟩ ⟨?_,_,ae,I,?_⟩
  .rw[mG,ak2];omega
  .rw[P,an2]
 .by_cases e:b=a
  .rw[e,dZ];intro z;cases z
  .rw[c5 e]
   rw[o1 e]at c
   by_cases L:b=dE
   .rw[L,dZ];intro z;cases z
   .rw[c5 L];exact i.has b c
 .exact(i.tabs.l k _).put _ (λps=>by rw[d];intro z;cases z) (Lo u d)
def aeV{A:ak4}(q:Z.Ok)(t:H a=none)(u:H dE=none)(x:dE≠a)(h:bj X.K X.mg O H ds xs)(k:Vals xs us)(f:keys.toList.map Z.κ.keyOf=cP.map some)(hl:cP.length=ds.length)(aA:cP.Nodup)(m:ds.length<64)
    (S:qD X zn U G O H a dE au (cP.map Z.eL) s) :
    wpAny (model X.prog X.w) A (ksk_end a false us.toArray au (.ref dE) keys) (λr n=>r=.done (.ret .none)/\Bh X zn U O H a ((jT Z.κ.blt (cP.zip ds)).map (·.2)) n) E s:=by
  have D:us.length=ds.length:=by rw[<-k.length,h.len]
  have T:keys.size=ds.length:=by
    have:=congrArg amn f;rw[akz,akz,alk]at this;omega
  have g:(keys.zip us.toArray).size=ds.length:=by rw[Array.size_zip,T,akH,D,Nat.min_self]
  have B:∀v∈keys.toList,∃κ,Z.κ.keyOf v=some κ:=λv l=>by
    have:Z.κ.keyOf v∈cP.map some:=by rw[<-f];exact amU l
    obtain⟨κ,_,e⟩:=ak5.mp this;exact⟨κ,e.symm⟩
  unfold ksk_end
  try dsimp only
  simp only[anv,if_false]
  by_cases b:us.toArray.size<2
  · rw[if_pos b,if_pos b]
    refine akv (akG ?_);rw[StateT.run_pure];refine akv (akG ?_)
    try dsimp only
    refine Pr (st:=SortSt.mk' general' (keys.zip us.toArray) #[] 7 none) t u x h k f hl aA m S (Array.Perm.refl _) ?_ rfl;intro i j V L;have F:j<(keys.zip us.toArray).size:=L;rw[g]at F;rw[akH]at b;have:i=j:=by omega
    subst this;exact PyProof.Rows.KeyOrd.kle_refl _
  · rw[if_neg b,if_neg b]
    rw[akH]at b;have I:2<=(keys.zip us.toArray).size:=by
      have W:2<=us.length:=Nat.le_of_not_lt b;rw[g];omega
    have R:keyKind' keys=pure oneType':=by
      cases e:keys.toList with
      |nil=>
               have M:keys.size=0:=by rw[<-alk,e];rfl
               omega
      |cons y r=>
        cases r with
        |nil=>
                 have M:keys.size=1:=by rw[<-alk,e];rfl
                 omega
        |cons z r=>
          have P:keys=(y::z::r).toArray:=by rw[<-e,an2]
          rw[P];exact q.kind y z r λv l=>B v (by rw[e];exact l)
    rw[R];refine akv (akG ?_);refine akv (alu (wpS_sortRunsK (κ:=Z.κ) q.one (a₀:=keys.zip us.toArray) (st:=SortSt.mk' oneType' (keys.zip us.toArray) #[] 7 none)
      (Q:=λ_ d=>(arrOf d).Perm (keys.zip us.toArray)/\failedOf d=none/\SortedToK Z.κ (arrOf d) (keys.zip us.toArray).size)
      (λp c=>?_) ⟨Array.Perm.refl _,rfl,rfl,rfl⟩ I (by rw[g];exact m) λd a1 a2 fE=>⟨a1,a2,fE⟩) ?_ λ_ _ e=>e)
    · rw[ksk_zip]at c
      exact B _ (ank c).1
    rintro⟨⟨⟩,d⟩ n ⟨rfl,c,N,ay⟩
    try dsimp only
    exact Pr t u x h k f hl aA m S c (by rw[c.size_eq];exact ay) N
end
end aE
namespace aE
open PySem PySem.Spec aC PyProof.Rows
variable[aC.a4]
section
variable{X:aV}{zn:c3}{U:aC.St}{H:aw}{s:akC}{G:aw->Prop}{mf:bp}{f l:Addr}{k:Nat}{O:a7}{Z:iD}{ds:List D}{cP:List Z.κ.α}{xs:List V}{E:dk}
def aeU(S:Z.Ok)(J:Inv X zn U H s)(t:di O H)(n:bj X.K X.mg O H ds xs)(fp:dt X.K H l xs)(R:nQ X k f G mf)(yG:G H)(aD:cE (k+2) X.A)
  (sV:∀(i:Nat)(d:D),ds[i]? = some d->∃κ,cP[i]? = some κ/\(mf [d]).run []=.ok (.v (Z.eL κ)) []) (c:cP.length=ds.length) (aA:cP.Nodup) (W:ds.length<64) :
  wpAny (model X.prog X.w) X.A (call (.builtin "sorted") [.ref l] [(akT "key",.ref f)]) (λu I=>∃a,u=.ref a/\H a=none/\Bh X zn U O H a ((jT Z.κ.blt (cP.zip ds)).map (·.2)) I) E s:=by
 obtain⟨us,p,pl,_⟩:=J.list fp;have hl:s.heap.IsList l us.toArray:=pl.isList;have Ed:us.length=ds.length:=by rw[<-p.length,n.len]
 have g:H (s.heap.objs.size+1)=none:=J.cb.fresh (aom _);refine call_function_entry_kw kind_sorted plain_sorted entry_sorted (ksk_s1 _ _) ?_;unfold aog.«sorted»;refine akv (m:=checkCount "sorted" 1 1 _) (akG ?_);refine akv (collect_list hl ?_ (by rw[ak2];omega));refine akv (wpAny_newList ?_ (by rw[ak2];omega));have M:((s.heap.push (alB "list" #[] 0)).update s.heap.objs.size (ak6 (·++us.toArray))).objs.size=s.heap.objs.size+1:=by
  rw[Heap.size_update,size_push']
 have j:(((s.heap.push (alB "list" #[] 0)).update s.heap.objs.size (ak6 (·++us.toArray))).push (alB "list" us.toArray 0)).get? (s.heap.objs.size+1)=some (alB "list" us.toArray 0):=by
  rw[<-M];exact akK _ rfl
 have keep:∀b o,s.heap.get? b=some o->(((s.heap.push (alB "list" #[] 0)).update s.heap.objs.size (ak6 (·++us.toArray))).push (alB "list" us.toArray 0)).get? b=some o:=λb o q=>by
  have L:b<s.heap.objs.size:=akM q;rw[Heap.get?_push_ne _ _ _ (by rw[M];exact alc (Nat.lt_succ_of_lt L)),Heap.get?_update_ne _ _ _ _ (alc L),Heap.get?_push_ne _ _ _ (alc L)];exact q
 have bh:Inv X zn U (upd H (s.heap.objs.size+1) (.l xs)) { s with heap:=((s.heap.push (alB "list" #[] 0)).update s.heap.objs.size (ak6 (·++us.toArray))).push (alB "list" us.toArray 0) }:=
  J.laid (t':=s.toks) keep (aom _) ⟨by rw[n.len,ak2];omega,us,0,p,j⟩
 have U1:Go O O H (upd H (s.heap.objs.size+1) (.l xs)):=Go.hh g;have ahZ:di O (upd H (s.heap.objs.size+1) (.l xs)):=t.same U1.same;show wpAny _ _ _ _ _ { s with heap:=((s.heap.push (alB "list" #[] 0)).update s.heap.objs.size (ak6 (·++us.toArray))).push (alB "list" us.toArray 0) };rw[M];refine akv (al5 (wpAny_call_entry_kw slot_list_sort ⟨_,j,rfl⟩ entry_list_sort ?body (ksk_l1 _ _)))
 case body=>
  show wpAny (model X.prog X.w) X.A.in1.in1 (aog.«list.sort» ⟨[.ref (s.heap.objs.size+1)],[(akT "key",.ref f)]⟩) _ _ _;rw[ksk_t1];generalize ha:s.heap.objs.size+1=a at *;generalize((s.heap.push (alB "list" #[] 0)).update s.heap.objs.size (ak6 (·++us.toArray))).push (alB "list" us.toArray 0)=ag at *;have s1:=alM ag a (ak6 λ_=>(#[]:Array Value));obtain⟨au,B⟩:∃au,(ag.update a (ak6 λ_=>(#[]:Array Value))).get? a=some (alB "list" #[] au):=⟨_,am1 j λ_=>#[]⟩;have P:Inv X zn U (upd (upd H a (.l xs)) a (.ext (lstP a au))) { s with heap:=ag.update a (ak6 λ_=>(#[]:Array Value)) }:=
   bh.write (x:=a) (e:=a) (t':=s.toks) (by rw[dZ];trivial) (.inl rfl) (λb o ab e=>(s1.2 b ab).trans e) ⟨_,B⟩ (ZN B)
  rw[af8]at P;unfold ksk_tree;refine akv (listItems_at j rfl ?_);refine akv (aoz j rfl ?_ (by rw[akH,ak2];omega) (alh _));refine akv (seqEpoch_at B rfl ?_);refine akv (wpAny_newTuple ?_ (by show us.length<=_;rw[ak2];omega));refine akv (wpAny_newList ?_ (alh _));refine al5 ?_;have Q:Inv X zn U (upd H a (.ext (lstP a au))) { s with heap:=(ag.update a (ak6 λ_=>(#[]:Array Value))).push (alB "tuple" us.toArray 0) }:=
   P.kept (t':=s.toks) λb o e=>aky _ e
  generalize ajI:(ag.update a (ak6 λ_=>(#[]:Array Value))).push (alB "tuple" us.toArray 0)=C at *;have h:upd H a (.ext (lstP a au)) C.objs.size=none:=Q.cb.fresh (akE _);have y:C.objs.size≠a:=by
   intro z;rw[z,dZ]at h;cases h
  have V:H C.objs.size=none:=by rw[c5 y]at h;exact h
  have jZ:Inv X zn U (upd (upd H a (.ext (lstP a au))) C.objs.size (.l [])) { s with heap:=C.push (alB "list" #[] 0) }:=
   Q.laid (t':=s.toks) (λb o e=>aky _ e) (akE _) ⟨alh _,[],0,.nil,akK _ rfl⟩
  have N:Go O (fV O C.objs.size .dn) H (upd (upd H a (.ext (lstP a au))) C.objs.size (.l [])):=(Go.hh g).trans (Go.new h);have TK:di (fV O C.objs.size .dn) (upd (upd H a (.ext (lstP a au))) C.objs.size (.l [])):=(t.same (Go.hh (O:=O) g).same).new h;have Y:qD X zn U G O H a C.objs.size au [] { s with heap:=C.push (alB "list" #[] 0) }:=
   ⟨⟨fV O C.objs.size .dn,_,[],jZ,N,TK,R.1 _ _ N.same yG,by rw[c5 y.symm];exact dZ,dZ,rfl,lC⟩,λm=>t.has a (by rw[t.cc.2 a m];intro z;cases z) g⟩
  refine alu (aeX (E:=E) S R (aD.in1.in1) g V y n p sV c W Y λI T ao XH=>aeV S g V y n p XH c aA W ao) (λr I F=>?_) λ_ _ e=>e
  obtain⟨rfl,F⟩:=F;exact⟨_,rfl,akG ⟨_,rfl,a,rfl,g,F⟩⟩
end
structure pv(K:aM)(c P:Addr)(q:Str):Prop where
 hd:∀h,K.In h->W.CodeHd h c P
 h9:a4.h9 P
 t5:a4.t5 P=q
structure kq(base:Heap)(mg:bl):Prop where
 ex:∃bm o,mg (akT "__builtins__")=some (alv bm)/\bm≠aoG/\bm≠ak9/\base.get? bm=some o/\o.cls=apc "module"/\o.dict=some aoG/\o.data=Data.plain
def EM(f:Addr)(bb:Obj):Heap->Prop:=λh=>h.get? f=some bb
def mR(f c:Addr)(q:Str)(bb:Obj):aw->Prop:=λH=>H f=some (.ext (EM f bb))/\H c=some (.ext (qS c q))
def mR.mono(H H':aw)(s:eC H H')(g:mR f c q bb H):mR f c q bb H':=⟨s.at' _ _ g.1,s.at' _ _ g.2⟩
def mR.upd(H:aw)(p:Addr)(a:List V)(o:gJ)(h:H p=some (.l a))(g:mR f c q bb H):mR f c q bb (upd H p o):=
 ⟨by rw[c5 (by rintro rfl;have:=g.1;rw[h]at this;cases this)];exact g.1,by rw[c5 (by rintro rfl;have:=g.2;rw[h]at this;cases this)];exact g.2⟩
def Ul{K:aM}{mg:bl}{N ps:List Str}{m:bw}{vs:List V}{H:aw}{Q:cU}(h:e1 K mg (fnOf ps.length N.length (aY m)) vs H Q i0):fK K mg m (aC.start N vs) H Q:=by
 obtain⟨O,ds,r,S,j,dT,E,h,q⟩:=h;have hl:=yB h;unfold fnOf at h;rw[if_pos hl]at h;obtain⟨G,S1,A,h⟩:=M.inv h;have F:=FF (N:=N) j dT E hl;obtain⟨s,y,B,k⟩:=M.inv A;refine⟨d0 O,_,S,s,y,F,B,λi v H' g w u nn=>?_⟩
 let f:a7:=⟨λb=>match H b with|some _=>O b|none=>i b,O.bG⟩
 have p:∀b,H b≠none->f b=O b:=λb c=>by
  show(match H b with|some _=>O b|none=>i b)=O b
  cases e:H b with
  |none=>exact absurd e c|some o=>rfl
 have n:∀b,H b=none->f b=i b:=λb c=>by
  show(match H b with|some _=>O b|none=>i b)=i b;rw[c]
 have da:lI i f:=⟨λb c=>by
  by_cases aA:H b=none
  .rw[n b aA];exact c
  .rw[p b aA];exact nW.mp ((g.own b aA).symm.trans c),g.bG.symm⟩
 have go:Go O f H H':=⟨g.same,λb c=>p b c,rfl⟩;have cu:di f H':=⟨λb c=>by
  by_cases aA:H b=none
  .rw[n b aA]at c;exact w.cu.has b c
  .exact g.same.some aA,w.cu.tabs,j.cc.1,λb m=>(p b (j.has b (by rw[j.cc.2 b m];intro z;cases z))).trans (j.cc.2 b m)⟩
 cases s with
 |v d=>
  cases k;cases h;exact q f v H' go cu (Rep.da da u) trivial
 |fr x=>
  cases k;cases h;obtain⟨a,ys,rfl,l,t,D⟩:=u;have aA:=nn a rfl;exact q f _ H' go cu ⟨a,ys,rfl,l,(n a aA).trans t,D.da da⟩ nn
 |bU x=>cases k
 |mv x=>cases k
section
variable{X:aV}{k:Nat}{f c:Addr}{name q:Str}{params:ant}{body:Expr}{scope:Scope}{pm gW:Value}{N ps:List Str}{m:bw}
theorem Nl{p1:Str}(a:gT N [p1] scope)(M:∀(u:Value),amN (W.kla_fn name q params body scope [] pm (.ref c) gW) ⟨[u],[]⟩=pure [(p1,u)])
  (z:∀(A:ak4)(s:akC)(H:aw),cE k (A.deeper (anc q scope s.heap.objs.size f (.ref c)))->hp (gX eA X.prog X.w X.K X.mg X.base N q scope f (.ref c) A X.stack s H i0).gB body m) :
  nQ X (k+1) f (mR f c q (W.kla_obj name q params body scope [] pm c gW)) (fnOf 1 N.length (aY m)):=by
 refine⟨mR.mono,mR.upd,λA s H u v Q aD d g D L=>?_⟩;obtain⟨F,_⟩:=d.cb f _ g.1;obtain⟨G,_⟩:=d.cb c _ g.2;have i:s.heap.NoLimit:=d.mod.nolimit.keeps λb o e=>(d.bs b o e).1
 have l:∀y∈[p1].zip [u],scope.names.lookup y.1=some .local\/(scope.names.lookup y.1=some .cell/\((cellsFrom (s.heap.objs.size+1) scope.names []).lookup y.1).isSome=true):=λr p=>by
  obtain⟨n,v⟩:=r;rcases a.par n (ank p).1 with q|q
  .exact .inl q
  .exact .inr ⟨q,aoQ _ _ _ (.inl q)⟩
 refine W.kla_callFunE aD.depth F rfl a.co a.gen rfl G ?_;rw[M];refine akG ?_;refine wpAny_newFunctionEnv_cells a.kind l λenv he j x=>?_
 subst he;refine⟨i.keeps x.toInCall.keep,W.kla_codeExpr ?_⟩;have J:Inv (gX eA X.prog X.w X.K X.mg X.base N q scope f (.ref c) A X.stack s H i0) [] (aC.start N [v]) H j:=MJ a aD.hd d rfl (.cons D .nil) x;refine alu ((bZ.gB (z A s H (aD.deeper _))) [] j (aC.start N [v]) H _ J (Ul (ps:=[p1]) L)) (λu' t ay=>?_) λe t ay=>ay
 obtain⟨E,H',h,B,I⟩:=ay;exact⟨E,H',h.os,h.bare,h.base,h.cb,B,I⟩
end
end aE
namespace aE
open PySem PySem.Spec aC PyProof.Rows
theorem PI{a b:Int}:∀l:List Value,ao1 l->ao1 (l++[amF a,amF b,c])
 |[],_=>trivial|.int _ _::.int _ _::_::rest,h=>PI rest h
theorem GN{pos e:Pos}:∀l:List Value,ao1 l->anS e (l++[amF pos.line,amF pos.col,c])=some o->anS e l=some o\/o=c
 |[],_,h=>by
  right;have h:(if((pos.line:Int)==e.line&&(pos.col:Int)==e.col)=true then some c else none)=some o:=h;split at h
  .cases h;rfl
  .cases h
 |.int a _::.int b _::d::rest,t,h=>by
  have h:(if(a==e.line&&b==e.col)=true then some d else anS e (rest++[amF pos.line,amF pos.col,c]))=some o:=h;show(if(a==e.line&&b==e.col)=true then some d else anS e rest)=some o\/_;split at h
  .rename_i f;rw[if_pos f];exact .inl h
  .rename_i f;rw[if_neg f];exact GN rest t h
variable[aC.a4]
section
variable{X:aV}{zn:c3}{U:aC.St}{H:aw}{s:akC}{O:a7}{c P:Addr}{q:Str}{params:ant}{body:Expr}{scope:Scope}{pos:Pos}
def Nk(J:Inv X zn U H s)(cV:di O H)(L:pv X.K c P q)(B:kq X.base X.mg)(nj:X.env.code=.ref c)(a6:X.env.qual++akT "<lambda>"=q)(ob:aoK params X.env=([],[]))(ni:am0 scope X.env=pure []) :
  wpAny (model X.prog X.w) X.A (eval (.Lambda params body scope pos) X.env) (λu aZ=>∃(f c':Addr)(pm E:Value)(H':aw),u=.ref f/\Inv X zn U H' aZ/\Go O O H H'/\di O H'/\mR f c' q (W.kla_obj (akT "<lambda>") q params body scope [] pm c' E) H') X.dN s:=by
 obtain⟨ps,i,N,T⟩:=cV.tabs P L.h9;rw[L.t5]at T;have LJ:s.heap.get? P=some (W.tabObj ps):=J.cb P _ i;have IK:∀b o,X.base.get? b=some o->b≠P:=λb o e z=>by
  subst z;have:=(J.bs b o e).2;rw[i]at this;cases this
 have pT:s.heap.Ns ak9 X.mg:=J.mod.glob.keeps J.bk;have Xw:ak9≠P:=by
  obtain⟨o,az,cp,e,_⟩:=J.mod.glob;exact IK _ _ e
 have nh:s.heap.BuiltinsAt X.mg P:=by
  obtain⟨bm,o,cm,ct,g6,hu,jz⟩:=B.ex;exact⟨bm,o,cm,ct,g6,IK _ _ hu,J.bk _ _ hu,jz⟩
 have C:=L.hd _ J.f9;refine W.kla_eval ob ?_;rw[a6]
 cases hQ:anS pos ps.toList with
 |some F=>
  obtain⟨c',rfl,rm⟩:=T pos F hQ;refine W.kla_makeFunctionHit ni J.ok.glob pT nj C LJ N hQ nh λE h' tk av gO=>?_
  have aA:H h'.objs.size=none:=J.cb.fresh gO;have go:Go O O H (upd H h'.objs.size (.ext (EM h'.objs.size (W.kla_obj (akT "<lambda>") q params body scope [] ((X.mg (akT "__name__")).getD .none) c' E)))):=Go.hh aA;refine⟨h'.objs.size,c',_,E,_,rfl,J.laid (t':=tk) (λb o e=>aky _ (av b o e)) gO ?_,go,cV.same go.same,dZ,go.same.at' _ _ rm⟩;exact⟨akK _ rfl,⟨_,akK _ rfl⟩,λy a p r=>r _ p⟩
 |none=>
  refine W.kla_makeFunction ni J.ok.glob pT nj C LJ N hQ Xw nh λc' E h' tk I Mg eR Dv Mz=>?_
  have Mq:H c'=none:=J.cb.fresh Mg;have V:c'≠P:=(kM i Mq).symm
  let M:=ps++#[amF pos.line,amF pos.col,.ref c']
  let m:=upd (upd H P (.gc M)) c' (.ext (qS c' q))
  have k:∀{b:Addr},b≠P->b≠c'->m b=H b:=λy a=>by show upd _ _ _ _=_;rw[c5 a,c5 y]
  have Q:m P=some (.gc M):=by show upd _ _ _ _=_;rw[c5 V.symm];exact dZ
  have S:m c'=some (.ext (qS c' q)):=dZ;have Z:∀{b:Addr}{o:Obj},s.heap.get? b=some o->b≠c':=λe=>alc (ala (akM e) Mg)
  have x:∀{b:Addr}{o:gJ},H b=some o->b≠c':=λe=>kM e Mq
  have un:gL X.aW [] H m s.heap h':=by
   refine⟨λb o e n _ _=>I b o (by rintro rfl;rw[i]at n;cases n) e,λb o e n _ _=>⟨o.slots,I b o (by rintro rfl;rw[i]at n;cases n) e⟩,
    λb o e n _=>by rw[k (by rintro rfl;rw[i]at n;cases n) (Z e)];exact n,λb o e _=>?_,λb xs e=>?_,λb o u e=>?_,λb R e=>?_⟩
   .by_cases l:b=P
    .rw[l];exact⟨_,Mz⟩
    .exact⟨o,I b o l e⟩
   .rw[k (by rintro rfl;rw[i]at e;cases e) (x e)];exact e
   .rw[k (by rintro rfl;rw[i]at e;cases e) (x e)];exact e
   .by_cases l:b=P
    .subst l
     rw[i]at e;cases e;exact⟨_,Q⟩
    .exact⟨#[],by rw[k l (x e),e];simp⟩
  have cb:gd X.prog X.w m h':=λb u e=>by
   by_cases y:b=c'
   .subst y
    rw[S]at e;cases e;obtain⟨ae,cw,vs,t,gH,er,r8,A1⟩:=Dv;cases gH;exact⟨⟨_,cw,vs,t,rfl,er,r8,A1⟩,⟨_,er⟩,λy a aX r=>by obtain⟨eI,Y,agb,t3,ahc,ahd,ahe,ahf⟩:=aX;cases ahc;exact⟨_,Y,agb,t3,rfl,r _ ahd,ahe,ahf⟩⟩
   .by_cases a:b=P
    .subst a
     rw[Q]at e;cases e;exact Mz
    .rw[k a y]at e
     refine(J.cb b u e).rX (λd o hd lX=>I d o (λz=>?_) lX) (λd D=>?_) λd xs D=>?_
     .rcases hd with rfl|hd
      .exact a z
      .rw[z,i]at hd;cases hd
     .rw[k (by rintro rfl;rw[i]at D;cases D) (x D)];exact D
     .rw[k (by rintro rfl;rw[i]at D;cases D) (x D)];exact D
  have bh:Inv X zn U m { s with heap:=h',toks:=tk }:=J.un (t':=tk) un cb;have aA:m h'.objs.size=none:=cb.fresh (akE _);have aeC:eC H m:=by
   refine⟨λb o e n=>by rw[k (by rintro rfl;rw[i]at e;cases e;exact n) (x e)];exact e,λb R e=>?_,λg qI Vl=>?_⟩
   .by_cases l:b=P
    .exact⟨M,by rw[l];exact Q⟩
    .exact⟨R,by rw[k l (x e)];exact e⟩
   .obtain⟨R,au,aF,cO⟩:=g qI Vl
    by_cases l:qI=P
    .subst l
     refine⟨M,Q,?_,λj F G=>?_⟩
     .show ao1 (ps++#[amF pos.line,amF pos.col,.ref c']).toList
      rw[Array.toList_append];exact PI _ N
     .have G:anS j (ps++#[amF pos.line,amF pos.col,.ref c']).toList=some F:=G
      rw[Array.toList_append]at G;rw[L.t5];rcases GN _ N G with h|h
      .obtain⟨ae,rfl,a⟩:=T j F h
       exact⟨ae,rfl,by rw[k (by rintro rfl;rw[i]at a;cases a) (x a)];exact a⟩
      .exact⟨c',h,S⟩
    .refine⟨R,by rw[k l (x au)];exact au,aF,λj F G=>?_⟩
     obtain⟨ae,y,a⟩:=cO j F G;exact⟨ae,y,by rw[k (by rintro rfl;rw[i]at a;cases a) (x a)];exact a⟩
  have go:Go O O H (upd m h'.objs.size (.ext (EM h'.objs.size (W.kla_obj (akT "<lambda>") q params body scope [] ((X.mg (akT "__name__")).getD .none) c' E)))):=(⟨aeC,λ_ _=>rfl,rfl⟩:Go O O H m).trans (Go.hh aA);refine⟨h'.objs.size,c',_,E,_,rfl,bh.laid (t':=tk) (λb o e=>aky _ e) (akE _) ?_,go,cV.same go.same,dZ,(ub aA _).at' _ _ S⟩;exact⟨akK _ rfl,⟨_,akK _ rfl⟩,λy a p r=>r _ p⟩
end
end aE
namespace aE
open PySem PySem.Spec aC PyProof.Rows
def SU:alm "sorted"=some (.builtin "sorted"):=by decide +kernel
def ta(Z:iD)(mf:bp)(d:D):Option Z.κ.α:=match(mf [d]).run []with
 |.ok (.v x) []=>Z.un x|_=>none
def keysOf(Z:iD)(mf:bp):List D->Option (List Z.κ.α)
 |[]=>some []|d::ds=>match ta Z mf d,keysOf Z mf ds with
  |some a,some as=>some (a::as)|_,_=>none
def mY{α:Type}(blt:α->α->Bool):List α->Bool
 |[]=>true|a::r=>r.all (λb=>blt a b||blt b a)&&mY blt r
def n8(Z:iD)(mf:bp)(x:R):M R:=match x.ft with
 |some ds=>match keysOf Z mf ds with
  |some a=>if mY Z.κ.blt a=true/\ds.length<64 then pure (.fr ((jT Z.κ.blt (a.zip ds)).map (·.2)))else bad|none=>bad
 |none=>bad
@[simp] def pE(Z:iD)(mf:bp)(a:bw)(U:aJ):M R:=do
 let x <-a U
 n8 Z mf x
theorem M9{Z:iD}{mf:bp}(uq:∀d a,Z.un d=some a->d=Z.eL a):∀{ds:List D}{b:List Z.κ.α},keysOf Z mf ds=some b->b.length=ds.length/\∀(i:Nat)(d:D),ds[i]? = some d->∃κ,b[i]? = some κ/\(mf [d]).run []=.ok (.v (Z.eL κ)) []
 |[],b,h=>by cases h;exact⟨rfl,λi d h=>by simp at h⟩
 |d::ds,b,h=>by
  unfold keysOf at h;split at h
  .rename_i a as c f
   cases h;obtain⟨l,r⟩:=M9 uq f;refine⟨by rw[alb,alb,l],λi e he=>?_⟩
   cases i with
   |zero=>
    cases(show some d=some e from he);refine⟨a,rfl,?_⟩;unfold ta at c;split at c
    .rename_i x g
     rw[g,uq x a c]
    .cases c
   |succ i=>
    obtain⟨κ,au,aF⟩:=r i e (by simpa using he);exact⟨κ,by simpa using au,aF⟩
  .cases h
theorem GP(Q:amd):∀{l:List Q.α},mY Q.blt l=true->l.Nodup
 |[],_=>.nil|a::r,h=>by
  unfold mY at h;rw[ak0,alg]at h;rw[alx];refine⟨λb=>?_,GP Q h.2⟩;have:=h.1 a b;rw[Q.irrefl]at this;cases this
variable[aC.a4]
section
variable{X:aV}{k:Nat}{e:Expr}{cQ:bw}{Z:iD}{p pos kp:Pos}{jb:Expr}{mf:bp}{G:Addr->aw->Prop}
def Te(F:Z.Ok)(P:d6 X "sorted")(hm:X.mg "sorted"=none)(aD:cE (k+2) X.A)(Y:hp X e cQ)
  (eh:∀(zn:c3)(s:akC)(U:aC.St)(O:a7)(H:aw),Inv X zn U H s->di O H->
   wpAny (model X.prog X.w) X.A (eval jb X.env) (λu T=>∃(f:Addr)(H':aw)(G:aw->Prop),u=.ref f/\Inv X zn U H' T/\Go O O H H'/\di O H'/\G H'/\nQ X k f G mf) X.dN s)
  (he:ak3 pos (akx [e] X.env)=(false,eval e X.env)::ak3 pos (akx [] X.env):=by rfl)
  (ay:akx [e] X.env=(false,eval e X.env)::akx [] X.env:=by rfl)
  (hV:(ak3 pos (akx [e] X.env)).any (·.1)=false:=by rfl) :
  hp X (.Call (.Name "sorted" p) [e] [⟨some (akT "key"),jb,kp⟩] pos) (pE Z mf cQ):=by
 rintro zn s U H Q J ⟨O,I,S,r,W,st,h,q⟩;obtain⟨x,S1,V,h⟩:=M.inv h;obtain⟨ds,g,oc,N,yP,la,rfl,rfl⟩:∃ds g,x.ft=some ds/\keysOf Z mf ds=some g/\mY Z.κ.blt g=true/\ds.length<64/\r=.fr ((jT Z.κ.blt (g.zip ds)).map (·.2))/\S1=W:=by
  unfold n8 at h;split at h
  .rename_i ds au
   split at h
   .rename_i g aF
    by_cases c:mY Z.κ.blt g=true/\ds.length<64
    .rw[if_pos c]at h
     cases h;exact⟨ds,g,au,aF,c.1,c.2,rfl,rfl⟩
    .rw[if_neg c]at h;cases h
   .cases h
  .cases h
 obtain⟨m,sV⟩:=M9 F.uq N;refine alS (ny J P hm SU ?_);refine callWith_kw ?_ he hV rfl rfl;refine bX ((wR Y Ab ay) pos zn s U H (λvs i=>∃v d,vs=[v]/\Go O d H i/\cI X.K X.mg d I S1 U i/\et X.K X.mg d i x v) J ⟨O,I,S,x,S1,st,V,λd v i t n B nn=>⟨v,d,rfl,t,n,B⟩⟩) λus s1 y=>?_
 obtain⟨vs,i,bh,bA,v,d,ev,t,n,B⟩:=y;subst ev;obtain⟨l,ys,rfl,hl,bB⟩:=R.ou B oc;obtain⟨u,rfl,ef⟩:=vals1 bA;cases ef;refine wpAny_evalAll_cons (akv (bX (eh zn s1 U d i bh n.cu) λu s2 o=>akv (anI (akG ?_))));obtain⟨f,aK,G,rfl,C,j,c8,L,gk⟩:=o;refine wpAny_evalAll_nil ?_;show wpAny _ _ (call (.builtin "sorted") [.ref l] [(akT "key",.ref f)]) _ _ _;refine bX (aeU F C c8 (bB.go j) (j.same.seq hl) gk L aD sV m (GP Z.κ.toKeyOrd yP) la) λu s3 y=>?_
 obtain⟨a,m',l4,e5,D,zs,dH,E,pH,rj,nF,z⟩:=y;subst m';refine⟨.ref a,D,dH,rfl,q e5 _ D (t.trans (j.trans E)) (n.go (j.trans E) pH) ⟨a,zs,rfl,rj,nF,z⟩ λb cB=>?_⟩;cases cB;exact(t.trans j).same.free l4
def Tf{c P:Addr}{q p1:Str}{params:ant}{body:Expr}{scope:Scope}{x:Pos}{N:List Str}{m:bw}(y:Z.Ok)(h:d6 X "sorted")(t:X.mg "sorted"=none)(aD:cE (k+3) X.A)(L:pv X.K c P q)(B:kq X.base X.mg)(I:X.env.code=.ref c)
  (g:X.env.qual++akT "<lambda>"=q) (d:gT N [p1] scope)
  (z:∀(c:Addr)(b a u:Value),amN (W.kla_fn (akT "<lambda>") q params body scope [] b (.ref c) a) ⟨[u],[]⟩=pure [(p1,u)])
  (i:∀(f c:Addr)(A:ak4)(s:akC)(H:aw),cE k (A.deeper (anc q scope s.heap.objs.size f (.ref c)))->hp (gX eA X.prog X.w X.K X.mg X.base N q scope f (.ref c) A X.stack s H i0).gB body m)
  (j:hp X e cQ) (M:aoK params X.env=([],[]):=by rfl) (F:am0 scope X.env=pure []:=by rfl)
  (he:ak3 pos (akx [e] X.env)=(false,eval e X.env)::ak3 pos (akx [] X.env):=by rfl)
  (ay:akx [e] X.env=(false,eval e X.env)::akx [] X.env:=by rfl)
  (r:(ak3 pos (akx [e] X.env)).any (·.1)=false:=by rfl) :
  hp X (.Call (.Name "sorted" p) [e] [⟨some (akT "key"),.Lambda params body scope x,kp⟩] pos) (pE Z (fnOf 1 N.length (aY m)) cQ):=
 Te (k:=k+1) y h t aD j (λzn s U O H J l=>bX (Nk J l L B I g M F) λu Q ⟨f,c',b,a,H',E,n,g',d',D⟩=>
  ⟨f,H',_,E,n,g',d',D,Nl d (z c' b a) (i f c')⟩) he ay r
end
def yQ{P:akZ}{w:World}{K:aM}{mg:bl}{base:Heap}{x:Str}{st:Stmt}{ps N:List Str}{k:Nat}{p:aP}{n nl:Nat}{c:Addr}(gR:gR K mg x st ps)(I:∀(f:Addr)(cw:Value)(i:Option Addr)(du a l:Value)(g:Option Addr)(d cy:Value)(j:Array (Option Value)),mg x=some (.ref f)->K.lookup f=some ⟨cw,i,.func (amv x x (iM st) (fF st) (dg st) .none du a l g d cy),j⟩->d=.ref c)
  (u:gT N ps (dg st)) (aA:ps.length=n) (hl:N.length=nl)
  (y:∀(f:Addr)(A:ak4)(outer:List Env)(s:akC)(H:aw)(E:gy),cE k (A.deeper (alF x (dg st) s.heap.objs.size f (.ref c)))->
   uH (gX eA P w K mg base N x (dg st) f (.ref c) A outer s H E).gB (fF st) p):eU P w K mg base x ps (k+1) (e1 K mg (fnOf n nl p)):=by
 obtain⟨f,B,F,b,m⟩:=gR.ex;refine⟨f,B,?_,b,F.kp,m⟩;obtain⟨cw,i,du,a,l,g,d,cy,j,rfl,t,D⟩:=F.ex;have e:=I f cw i du a l g d cy j m t;subst e;subst aA hl;refine CP t D u (λvs H Q E ⟨O,ds,r,L,M,dT,z,h,q⟩=>z.len.trans (yB h)) λA outer s H vs Q E aD G=>⟨_,(y f A outer s H E aD).gB,IW G⟩
end aE
namespace aC
open PySem PySem.Spec PyProof.Rows
def h2(r:Int->Int->Bool)(z:Nat->Nat->Bool):List Int->List Int->Bool
 |x::xs,y::ys=>if x=y then h2 r z xs ys else r x y|xs,ys=>z xs.length ys.length
def Nu(r:Int->Int->Bool)(z:Nat->Nat->Bool)(x y:Int)(xs ys:List Int):h2 r z (x::xs) (y::ys)=if x=y then h2 r z xs ys else r x y:=rfl
def ZE(r:Int->Int->Bool)(z:Nat->Nat->Bool)(ys:List Int):h2 r z [] ys=z 0 ys.length:=by cases ys<;>rfl
def ZF(r:Int->Int->Bool)(z:Nat->Nat->Bool)(xs:List Int):h2 r z xs []=z xs.length 0:=by cases xs<;>rfl
inductive iF where
 |lt|le|gt
def iF.op:iF->CmpOp
 |.lt=>.Lt|.le=>.LtE|.gt=>.Gt
abbrev iF.r(c:iF)(i j:Int):Bool:=match c with
 |.lt=>decide (i<j)|.le=>decide (i<=j)|.gt=>decide (j<i)
abbrev iF.z(c:iF)(i j:Nat):Bool:=match c with
 |.lt=>decide (i<j)|.le=>decide (i<=j)|.gt=>decide (j<i)
def iF.B:iF->aog
 |.lt=>aog.«tuple.__lt__»|.le=>aog.«tuple.__le__»|.gt=>aog.«tuple.__gt__»
abbrev lexLt:List Int->List Int->Bool:=h2 (λi j=>decide (i<j)) (λi j=>decide (i<j))
abbrev lexLe:List Int->List Int->Bool:=h2 (λi j=>decide (i<=j)) (λi j=>decide (i<=j))
abbrev p4:List Int->List Int->Bool:=h2 (λi j=>decide (j<i)) (λi j=>decide (j<i))
def iF.uE(c:iF){a b d e:Nat}(h:a+e=b+d):c.z a b=c.z d e:=by cases c<;>exact decide_eq_decide.mpr (by omega)
def iF.oR(c:iF)(m n:Nat):Builtin.Tuple.tupleCompareSizes c.op m n=.bool (c.z m n):=by cases c<;>rfl
section
open PySem.SeqAt
open PySem.AutoSeq1 (wpAny_loadPart')
open PySem.MeetsSeq PySem.MeetsSeq2 PySem.MeetsSeq3
set_option maxHeartbeats 0 in
def FV(i:iF)(l b:Addr)(f m:Array Value)(n X:Nat)(dD Y:Option Addr)(ba Z:Array (Option Value))(ns ms:List Int)(hi:amM f.toList ns)(P:amM m.toList ms) :
  Meets (i.B ⟨[.ref l,.ref b],[]⟩)
   (λ_ R s=>s.heap.get? l=some { cls:=.type "tuple",dict:=dD,data:=.seq f n,slots:=ba }/\s.heap.get? b=some { cls:=.type "tuple",dict:=Y,data:=.seq m X,slots:=Z }/\
    R (.ok (.ret (.bool (h2 i.r i.z ns ms)))) s):=
 .of_wp λprog w A R s h=>by
  have oR:=i.oR;have uE:=@iF.uE i;have O:∀(A:ak4)(a c:Int)(t u:Tok)(E:dk)(Q:dk)(s:akC),Q (.bool (i.r a c)) s->wpAny (model prog w) A (richCompare i.op (.int a t) (.int c u)) Q E s:=by
   cases i<;>intro A a c t u E Q s h
   .exact(PyProof.Rows.lt_int h:wpAny (model prog w) A (alj .Lt (.int a t) (.int c u)) Q E _)
   .exact(PyProof.Rows.le_int h:wpAny (model prog w) A (alj .LtE (.int a t) (.int c u)) Q E _)
   .exact(PyProof.Rows.gt_int h:wpAny (model prog w) A (alj .Gt (.int a t) (.int c u)) Q E _)
  have L:∀{x y:Int}{xs ys:List Int},h2 i.r i.z (x::xs) (y::ys)=if x=y then h2 i.r i.z xs ys else i.r x y:=rfl
  generalize i.r=C at *;generalize i.z=o at *;obtain⟨I,g,d,tk,os⟩:=s;obtain⟨hl,W,h⟩:=h;cases i
  all_goals
   dsimp only[iF.op]at O oR;have f2:=aoS;have gH:f.size=ns.length:=by rw[<-hi.length];simp
   have er:m.size=ms.length:=by rw[<-P.length];simp
   wp_walk using wpAny_loadPart' hl,wpAny_loadPart' W,wpAny_forIn_list _ (λrest b K=>b.1=none/\K=⟨I,g,d,tk,os⟩/\∃(vs F:List Value)(D p:List Int),rest=vs.zip F/\
    amM vs D/\amM F p/\D.length+m.size=p.length+f.size/\R (.ok (.ret (.bool (h2 C o D p)))) ⟨I,g,d,tk,os⟩) _
   case turn=>
    rintro⟨y,x⟩ rest b K ⟨M,rfl,vs,F,D,p,hz,G,H,j,k⟩
    cases G with
    |nil=>rw[List.zip_nil_left]at hz;cases hz
    |cons a t T=>
     cases H with
     |nil=>rw[List.zip_nil_right]at hz;cases hz
     |cons c u V=>
      rw[anw]at hz;injection hz with U J
      injection U with a3 aj
      subst a3 aj;rw[L]at k;simp only[alb]at j;obtain⟨e,he,N⟩:=c1.T4 A.in1 ⟨I,g,d,tk,os⟩ a t c u;refine akv (he prog w _ _ ?_)
      cases e with
      |true=>
       rw[if_pos (N.mp rfl)]at k
       wp_walk
       exact⟨rfl,rfl,_,_,_,_,J,T,V,by omega,k⟩
      |false=>
       rw[if_neg (λq=>absurd (N.mpr q) akD)]at k
       wp_walk using O
       exact⟨_,rfl,by simpa using k⟩
   case fin=>
    rintro⟨cm,ct⟩ K ⟨M,rfl,vs,F,D,p,hz,G,H,j,k⟩;simp only at M;subst M;have S:h2 C o D p=o f.size m.size:=by
     cases G with
     |nil=>
      rw[ZE];simp only[alQ]at j;exact uE (by simp only[alQ]at *;omega)
     |cons a t S=>
      cases H with
      |nil=>
       rw[ZF];simp only[alQ]at j;exact uE (by simp only[alQ]at *;omega)
      |cons c u hw=>
       rw[anw]at hz;cases hz
    rw[S]at k
    wp_walk
    exact⟨_,rfl,by rw[oR];exact k⟩
   case h=>
    exact⟨rfl,rfl,f.toList,m.toList,ns,ms,rfl,hi,P,by omega,h⟩
end
def I4(c:iF){prog:akZ}{w:World}{A:ak4}{E:dk}{s:akC}{l b:Addr}{a g:Array Value}{ns ms:List Int}{Q:dk}(hl:IsTup s.heap l a)(B:IsTup s.heap b g)(hi:amM a.toList ns)(j:amM g.toList ms)
  (k:A.units<cLine) (h:Q (.bool (h2 c.r c.z ns ms)) s):wpAny (model prog w) A (alj c.op (.ref l) (.ref b)) Q E s:=by
 obtain⟨⟨cls,dD,data,ba⟩,d,u,i,hd⟩:=id hl;obtain⟨⟨D,q,m,t⟩,e,y,p,f⟩:=id B;simp only at u hd y f;subst u hd y f;have n:aoF (h2 c.r c.z ns ms)≠Value.notImplemented/\Q (.bool (h2 c.r c.z ns ms)) s:=⟨(λx=>nomatch x),h⟩;cases c
 .exact anF (op:=.Lt) ⟨_,d,rfl⟩ ⟨_,e,rfl⟩ PySem.F.slot_tuple_lt PySem.F.entry_tuple_lt (PySem.F.args_tuple_lt_2 _ _) (FV .lt l b a g i p dD q ba t ns ms hi j) ⟨d,e,n⟩ k
 .exact anF (op:=.LtE) ⟨_,d,rfl⟩ ⟨_,e,rfl⟩ PySem.F.slot_tuple_le PySem.F.entry_tuple_le (PySem.F.args_tuple_le_2 _ _) (FV .le l b a g i p dD q ba t ns ms hi j) ⟨d,e,n⟩ k
 .exact anF (op:=.Gt) ⟨_,d,rfl⟩ ⟨_,e,rfl⟩ PySem.F.slot_tuple_gt PySem.F.entry_tuple_gt (PySem.F.args_tuple_gt_2 _ _) (FV .gt l b a g i p dD q ba t ns ms hi j) ⟨d,e,n⟩ k
def Ob(c:iF)(k:X.A.units+64<cLine):dU X (alj c.op) (λx y H Q=>∃a b ns ms,x=.ref a/\y=.ref b/\dB X.K H a (ns.map V.int)/\dB X.K H b (ms.map V.int)/\Q (.ax (h2 c.r c.z ns ms)) H):=by
 intro zn s U H x y v u Q J d i h;obtain⟨a,b,ns,ms,rfl,rfl,f,e,q⟩:=h;cases d;cases i;obtain⟨its,j,p1,_⟩:=J.tuple f;obtain⟨l,g,cD,_⟩:=J.tuple e;exact I4 c p1 cD (intsAre_of j) (intsAre_of g) (by omega) ⟨.ax (h2 c.r c.z ns ms),H,J,rfl,q⟩
def acj(c:X.A.units+64<cLine):dU X (alj .Lt) (λx y H Q=>∃a b ns ms,x=.ref a/\y=.ref b/\dB X.K H a (ns.map V.int)/\dB X.K H b (ms.map V.int)/\Q (.ax (lexLt ns ms)) H):=Ob .lt c
def aci(c:X.A.units+64<cLine):dU X (alj .LtE) (λx y H Q=>∃a b ns ms,x=.ref a/\y=.ref b/\dB X.K H a (ns.map V.int)/\dB X.K H b (ms.map V.int)/\Q (.ax (lexLe ns ms)) H):=Ob .le c
def U_{A:ak4}{s:akC}{a c:Array Value}{ns ms:List Int}{Q:dk}(hl:IsTup s.heap l a)(e:IsTup s.heap b c)(hi:amM a.toList ns)(d:amM c.toList ms)(f:A.units<cLine)(h:Q (.bool (p4 ns ms)) s):wpAny (model prog w) A (alj .Gt (.ref l) (.ref b)) Q E s:=I4 .gt hl e hi d f h
end aC
namespace aE
open PySem PySem.Spec aC
def tQ(g:List Int->List Int->Bool):R->R->M R
 |.v (.t xs),.v (.t ys)=>match nums xs,nums ys with
  |some ns,some ms=>pure (.v (.ax (g ns ms)))|_,_=>bad
 |_,_=>bad
variable[aC.a4]
def GZ{g:List Int->List Int->Bool}:d_ K mg (λx y H Q=>∃a b ns ms,x=.ref a/\y=.ref b/\dB K H a (ns.map V.int)/\dB K H b (ms.map V.int)/\Q (.ax (g ns ms)) H) (tQ g):=λO U S m H x y k n p l Q st f e h q=>by
 unfold tQ at h;split at h
 .rename_i xs ys
  split at h
  .rename_i ns ms au aF
   cases h;obtain⟨a,as,rfl,d,i⟩:=f;obtain⟨b,bs,rfl,c,j⟩:=e;rw[z4 i au]at d;rw[z4 j aF]at c;exact⟨a,b,ns,ms,rfl,rfl,d,c,q O _ H (Go.refl _ _) st rfl trivial⟩
  .cases h
 .cases h
end aE
namespace aE
open PySem PySem.Spec aC PyProof.Rows
def tc(x:Str):Str:=x++akT ".<locals>."++akT "<lambda>"
def oi(K:aM)(P:Addr)(x:Str):Bool:=match W.tabIn K x with
 |some (_,o)=>o==P|none=>false
abbrev ui(K:aM)(ln:List Str):a4:=⟨λP=>∃x∈ln,∃c,W.tabIn K x=some (c,P),λP=>match ln.find? (oi K P)with
 |some x=>tc x| none=>""⟩
def ad6{K:aM}{ln:List Str}{x:Str}{c P:Addr}(b:x∈ln)(d:W.tabIn K x=some (c,P))(inj:∀y∈ln,oi K P y=true->y=x):(ui K ln).t5 P=tc x:=by
 show(match ln.find? (oi K P)with|some x=>tc x|none=>"")=_;have a:oi K P x=true:=by unfold oi;rw[d];exact beq_self_eq_true P
 cases e:ln.find? (oi K P)with
 |none=>exact absurd a (List.find?_eq_none.mp e x b)|some y=>
  dsimp only;rw[inj y (amm e) (anm e)]
def xd{K:aM}{x:Str}{f c P:Addr}{cw k:Value}{h g:Option Addr}{b:alI}{ba j:Array (Option Value)}{vs:Array Value}(a:anE K ak9 x=some (some (.ref f)))(l:K.lookup f=some ⟨cw,h,.func b,ba⟩)(i:b.code=.ref c)
  (d:K.lookup c=some ⟨k,g,.fields vs,j⟩) (e:vs[11]? = some (.ref P)):W.tabIn K x=some (c,P):=by
 unfold W.tabIn;rw[a];simp only[l,i,d,e]
def W'{K:aM}{c P:Addr}{n:Option Addr}{ba:Array (Option Value)}{vs:Array Value}{b:Str}{f cg tt:Tok}{a e:Int}{g:Bool}(d:K.lookup c=some ⟨.type "code",n,.fields vs,ba⟩)(p:vs[11]? = some (.ref P))(j:vs.getD 11 .none=.ref P)
  (k:vs.getD 18 .none=.str b f) (l:vs.getD 7 .none=.int a cg) (m:vs.getD 9 .none=.bool g) (i:vs.getD 10 .none=.int e tt) (ne:c≠P):∀h,K.In h->W.CodeHd h c P:=λh X=>
 ⟨_,vs,b,f,a,cg,g,e,tt,X _ _ d,rfl,rfl,p,j,k,l,m,i,ne⟩
def Tn{K:aM}{st:Stmt}{g:alI}(X:K.In h)(G:h.Ns ak9 mg)(a:anE K ak9 x=some (some (.ref o)))(l:K.lookup o=some ⟨C,J,.func g,U⟩)(n:g.code=.ref c) :
  ∀(f:Addr)(cw:Value)(j:Option Addr)(du b m:Value)(i:Option Addr)(d cy:Value)(k:Array (Option Value)),mg x=some (.ref f)->K.lookup f=some ⟨cw,j,.func (amv x x (iM st) (fF st) (dg st) .none du b m i d cy),k⟩->d=.ref c:=by
 intro f cw j du b m i d cy k p hl;have e:=aof X G a;rw[p]at e;cases e;rw[l]at hl;cases hl;exact n
def Ra{l:W.OpenLaw}{w:World}{K:aM}{mg:bl}{fa:Addr}{k:Nat}{st:Stmt}[aC.a4](j:mg "law"=some (.ref fa))(i:gR K mg "law" st ["script"])
  (n:∀(du c h:Value)(d:Option Addr)(g cy v:Value),amN (amv "law" "law" (iM st) (fF st) (dg st) .none du c h d g cy) ⟨[v],[]⟩=pure [(("script":Str),v)])
  (ok:∀(base:Heap),kq base mg->∀(f:Addr)(a:alI),k3 K "law" "law" st f a->e3 l.prog w K mg base eA k f a ["script"] (w9 K)) :
  ∃a:alI,(∀(s:akC)(v:Value),BindsTo s a ⟨[v],[]⟩ [("script",v)])/\∀base:Heap,K.In base->base.Ns ak9 mg->kq base mg->e3 l.prog w K mg base eA k fa a ["script"] (w9 K):=by
 obtain⟨f,a,F,b,m⟩:=i.ex;have e:alv fa=alv f:=ak1 (j.symm.trans m);cases e;refine⟨a,λs v=>?_,λbase _ _ bm=>ok base bm fa a F⟩;obtain⟨cw,p,du,c,h,d,g,cy,q,rfl,t,r⟩:=F.ex;exact .of_eq (n du c h d g cy v)
def Zq{P:akZ}{w:World}{K:aM}{mg N:bl}{k:Nat}{fa a:Addr}{Z:alI}{c:akC}{vs:List Value}{ns:List Int}[aC.a4]
  (Y:K.In c.heap) (y2:c.heap.Ns ak9 mg) (f:c.heap.Ns aoG N) (W6:∀x:Str,x≠"__name__"->N x=alm x) (XK:c.heap.NoLimit) (aR:c.gens=#[])
  (A:c.heap.get? a=some { cls:=.type "list",data:=.seq vs.toArray }) (hi:amM vs ns) (hl:ns.length<=63) (aD:cE k aoN)
  (C9:kq c.heap mg) (F:∀base:Heap,K.In base->base.Ns ak9 mg->kq base mg->e3 P w K mg base eA k fa Z ["script"] (w9 K)) (l2:∀(s:akC)(u:Value),BindsTo s Z ⟨[u],[]⟩ [("script",u)])
  (i:∀p,a4.h9 p->c.heap.get? p=some (W.tabObj #[])/\isCodeTable c.heap p/\K.lookup p=none) :
  ani (model P w) aoN (.call (.ref fa) ⟨[.ref a],[]⟩) (λr g=>r=.ok (.ret (.bool true))/\OldK c.heap g.heap/\g.os=c.os/\anQ g.gens) c:=by
 have X:=PU hi;have ZA:=hi.length;have R:ns.length<=akA:=by rw[ak2];omega
 have M:¬a4.h9 a:=λz=>by have:=(i a z).1;rw[A]at this;cases this
 have j:∀H:aw,(∀b,H b=none\/(∃o xs,H b=some (.cM o (.l xs)))\/(a4.h9 b/\H b=some (.gc #[])))->dt K H a (ns.map V.int)->TabsOk H->gd P w H c.heap->(∀b,H b≠none->b=a\/a4.h9 b)->(∀b,H b≠none->K.lookup b=none)->
   ani (model P w) aoN (.call (.ref fa) ⟨[.ref a],[]⟩) (λr g=>r=.ok (.ret (.bool true))/\OldK c.heap g.heap/\g.os=c.os/\anQ g.gens) c:=by
  intro H Vk fp Vn cb U hb;have wC:∀{b:Addr}{o:Obj}{G:Array anU}{cp:Nat},c.heap.get? b=some o->o.data=.dict G cp->H b=none:=λ{b o G cp} e d=>by
   cases q:H b with
   |none=>rfl|some u=>
    rcases U b (by rw[q];simp)with C|C
    .subst C
     rw[A]at e;cases e;cases d
    .rw[(i b C).1]at e;cases e
     cases d
  have I:∀{b:Addr}{m:bl},c.heap.Ns b m->(od c.heap H).Ns b m:=λ{b m} ⟨o,G,cp,e,d,r⟩=>⟨o,G,cp,Dk e (wC e d),d,r⟩
  have Q:K.In (od c.heap H):=λb o e=>Dk (Y b o e) (by
   cases q:H b with
   |none=>rfl| some u=>rw[hb b (by rw[q];simp)]at e;cases e)
  have C6:Mod K mg (od c.heap H):=⟨Q,I y2,⟨N,I f,W6⟩,let⟨fT,ag,ah⟩:=XK;⟨fT,I ag,ah⟩⟩;have d7:k2 P w K mg (od c.heap H) aoN [] c H:=⟨rfl,C6,λb o e=>ab4 e,ans (Xy _ _),trivial,λb f=>absurd (show b∈([]:List Addr)from f) (by simp),cb,.of_eq aR⟩;have Vf:kq (od c.heap H) mg:=by
   obtain⟨bm,o,cm,ct,g6,B,jz,uU,L⟩:=C9.ex;refine⟨bm,o,cm,ct,g6,Dk B ?_,jz,uU,L⟩
   cases q:H bm with
   |none=>rfl|some u=>
    rcases U bm (by rw[q];simp)with C|C
    .subst C
     rw[A]at B;cases B;cases L
    .rw[(i bm C).1]at B;cases B
     cases L
  refine anb ((F _ Q (I y2) Vf).run aoN [] c H ⟨[.ref a],[]⟩ [.ref a] [.ref a] (λv _=>v=.ax true) i0 aD d7 (l2 c (.ref a)) (.cons rfl .nil) ⟨a,ns,rfl,fp,hl,Vn,λ_=>rfl⟩) λr g h=>?_
  cases r with
  |error e=>exact alf h|ok aQ=>
   cases aQ with
   |next=>exact alf h
   |brk=>exact alf h|cont=>exact alf h|ret u=>
    obtain⟨v,H',os,bare,un,S,bx,q⟩:=h;have gq:v=.ax true:=q;subst gq;obtain rfl:u=aoF true:=bx;have n:∀b o,c.heap.get? b=some o->asItWas c.heap g.heap b o/\∃dy,g.heap.get? b=some dy:=λb o e=>by
     rcases Vk b with z|⟨bb,xs,z⟩|⟨t,z⟩
     .have:=un.keep b o e z (by intro w;exact absurd (show b∈([]:List Addr)from w) (by simp)) (by simp)
      exact⟨.inl this,o,this⟩
     .have O:=un.n9 b bb _ z
      obtain⟨au,_⟩:=cb b _ z;obtain⟨aF,_⟩:=S b _ O;rw[e]at au;cases au;exact⟨.inl aF,_,aF⟩
     .obtain⟨E,O⟩:=un.oV b #[] z
      have aF:g.heap.get? b=_:=S b _ O;rw[(i b t).1]at e;cases e;exact⟨.inr (.inl ⟨(i b t).2.1,rfl,#[],E,rfl,aF⟩),_,aF⟩
    exact⟨rfl,⟨λb o e=>(n b o e).1,λb o e=>(n b o e).2⟩,os,bare⟩
 classical
 have T:∀(H:aw),(∀p,a4.h9 p->H p=some (.gc #[]))->TabsOk H:=λH h p y=>⟨#[],h p y,trivial,λpos ij z=>by cases z⟩
 cases J:K.lookup a with
 |some o=>
  have e:=Y a o J;rw[A]at e;cases e;refine j (λb=>if a4.h9 b then some (.gc #[])else none) (λb=>?_) (.inr ⟨_,vs.toArray,_,J,rfl,rfl,rfl,by rw[akH,ZA];exact R,by simpa using X⟩) (T _ λp y=>if_pos y) (λb u z=>?_) (λb z=>?_) λb z=>?_
  .by_cases t:a4.h9 b
   .exact .inr (.inr ⟨t,if_pos t⟩)
   .exact .inl (if_neg t)
  .by_cases t:a4.h9 b
   .have D:=(if_pos t).symm.trans z
    cases D;exact(i b t).1
   .have D:=(if_neg t).symm.trans z
    cases D
  .by_cases t:a4.h9 b
   .exact .inr t
   .exact absurd (if_neg t) z
  .by_cases t:a4.h9 b
   .exact(i b t).2.2
   .exact absurd (if_neg t) z
 |none=>
  refine j (λb=>if b=a then some (.cM { cls:=.type "list",data:=.seq vs.toArray } (.l (ns.map V.int)))else if a4.h9 b then some (.gc #[])else none) (λb=>?_) (.inl (.inr ⟨{ cls:=.type "list",data:=.seq vs.toArray },if_pos rfl⟩)) (T _ λp y=>?_) (λb u z=>?_) (λb z=>?_) λb z=>?_
  .by_cases f:b=a
   .exact .inr (.inl ⟨_,_,if_pos f⟩)
   .by_cases t:a4.h9 b
    .exact .inr (.inr ⟨t,by rw[if_neg f,if_pos t]⟩)
    .exact .inl (by rw[if_neg f,if_neg t])
  .rw[if_neg (by rintro rfl;exact M y),if_pos y]
  .by_cases f:b=a
   .have D:=(if_pos f).symm.trans z
    cases D;subst f;exact⟨A,by rw[akz];exact R,vs,_,X,A⟩
   .try dsimp only at z
    rw[if_neg f]at z
    by_cases t:a4.h9 b
    .rw[if_pos t]at z;cases z
     exact(i b t).1
    .rw[if_neg t]at z;cases z
  .by_cases f:b=a
   .exact .inl f
   .try dsimp only at z
    rw[if_neg f]at z
    by_cases t:a4.h9 b
    .exact .inr t
    .rw[if_neg t]at z;exact absurd rfl z
  .by_cases f:b=a
   .rw[f];exact J
   .try dsimp only at z
    rw[if_neg f]at z
    by_cases t:a4.h9 b
    .exact(i b t).2.2
    .rw[if_neg t]at z;exact absurd rfl z
def age{l:W.OpenLaw}{q:akZ}{k:Nat}{j:List Str}{xW:(Str->Option Value)->Heap->Prop}{A:World->Heap->Prop}{d:DefRec}{K:Params->aM}(ln:List Str)(aA:l.most=some 63)(D:d.params.defaults=[])(aD:cE k aoN)
  (H:∀x∈ln,∃d,(recsOf q).find? (λe=>e.name==x)=some d) (I:∀p,W.noTabs (K p)=true)
  (sS:∀(w:World)(h:Heap),A w h->(K w.params).In h)
  (F:∀(w:World)(mg:bl)(fa:Addr)(h:Heap),(K w.params).In h->h.Ns ak9 mg->mg d.name=some (.ref fa)->
   ∃t:alI,(∀(s:akC)(u:Value),BindsTo s t ⟨[u],[]⟩ [("script",u)])/\∀base:Heap,(K w.params).In base->base.Ns ak9 mg->kq base mg->@e3 l.prog w (K w.params) mg base eA k fa t ["script"] (@w9 (ui (K w.params) ln) (K w.params))) :
  W.WalkO q j xW A l.row.toRowW d [] (λf vs=>PySem.call f vs):=by
 refine Gi.Rn aA D λw gQ X mg cT fa o pm cd Z a vs ns G Y a0 hd gA vB E i m L=>?_
 have n:=sS w _ Y;obtain⟨t,N,U⟩:=F w mg fa _ n G.T.g vB
 letI:=ui (K w.params) ln
 have B:kq X.heap mg:=by
  obtain⟨bm,bb,S,V,y,C,J,z⟩:=G.T.bmain;refine⟨bm,bb,S,V,λq=>?_,y,C,J,z⟩;obtain⟨o,az,cp,e,hd,_⟩:=G.T.g;rw[q,e]at y;cases y;rw[hd]at z;cases z
 refine Zq n G.T.g G.T.b G.T.builtins G.T.nolimit L E i m aD B U N λp M=>?_
 obtain⟨x,P,c,Q⟩:=M;obtain⟨d,hd⟩:=H x P;obtain⟨O,r⟩:=W.tab_of G.T n hd Q;refine⟨r,(O.tab r).isCodeTable,?_⟩
 cases e:(K w.params).lookup p with
 |none=>rfl|some o=>
  have aF:=n p o e;rw[r]at aF;cases aF;have R:=alg.mp (I w.params) (p,_) (W.mem_of_lookupK e);exact absurd (show false=true from R) akD
def zu{K:aM}{h:Heap}{mg:bl}{x:Str}{st:Stmt}{ln:List Str}{f c P:Addr}{cw s:Value}{i D:Option Addr}{p:alI}{ba H:Array (Option Value)}{vs:Array Value}{e:Str}{t cg tt:Tok}{b g:Int}{I:Bool}(X:K.In h)(G:h.Ns ak9 mg)(k:x∈ln)
  (a:anE K ak9 x=some (some (.ref f))) (l:K.lookup f=some ⟨cw,i,.func p,ba⟩) (q:p.code=.ref c) (d:K.lookup c=some ⟨s,D,.fields vs,H⟩) (L:s=.type "code") (r:vs[11]? = some (.ref P)) (w:vs.getD 11 .none=.ref P)
  (z:vs.getD 18 .none=.str e t) (A:vs.getD 7 .none=.int b cg) (B:vs.getD 9 .none=.bool I) (u:vs.getD 10 .none=.int g tt) (ne:c≠P) (inj:∀y∈ln,oi K P y=true->y=x) :
  ∃c P,@pv (ui K ln) K c P (tc x)/\∀(f:Addr)(cw:Value)(i:Option Addr)(du j F:Value)(E:Option Addr)(n cy:Value)(o:Array (Option Value)),mg x=some (.ref f)->K.lookup f=some ⟨cw,i,.func (amv x x (iM st) (fF st) (dg st) .none du j F E n cy),o⟩->n=.ref c:=by
 subst L;have m:=xd a l q d r;exact⟨c,P,@pv.mk (ui K ln) K c P (tc x) (W' d r w z A B u ne) ⟨x,k,c,m⟩ (ad6 k m inj),Tn X G a l q⟩
end aE
namespace aE
open PySem PySem.Spec aC PyProof.Rows
variable[aC.a4]
section
variable{X:aV}{k:Nat}{e:Expr}{cQ:bw}{Z:iD}{p pos kp:Pos}
def F0{c P:Addr}{q p1:Str}{params:ant}{body:Expr}{scope:Scope}{n:Pos}{N:List Str}{m:bw}(r:Z.Ok)(d:d6 X "sorted")(l:X.mg "sorted"=none)(aD:cE (k+3) X.A)(L:pv X.K c P q)(B:kq X.base X.mg)(y:X.env.code=.ref c)
  (b:X.env.qual++akT "<lambda>"=q) (a:gT N [p1] scope)
  (t:∀(c:Addr)(D i u:Value),amN (W.kla_fn (akT "<lambda>") q params body scope [] D (.ref c) i) ⟨[u],[]⟩=pure [(p1,u)])
  (g:∀(f c:Addr)(A:ak4)(s:akC)(H:aw),cE k (A.deeper (anc q scope s.heap.objs.size f (.ref c)))->bc (gX eA X.prog X.w X.K X.mg X.base N q scope f (.ref c) A X.stack s H i0).gB body m)
  (h:bc X e cQ) (z:aoK params X.env=([],[]):=by rfl) (x:am0 scope X.env=pure []:=by rfl)
  (he:ak3 pos (akx [e] X.env)=(false,eval e X.env)::ak3 pos (akx [] X.env):=by rfl)
  (ay:akx [e] X.env=(false,eval e X.env)::akx [] X.env:=by rfl)
  (j:(ak3 pos (akx [e] X.env)).any (·.1)=false:=by rfl) :
  bc X (.Call (.Name "sorted" p) [e] [⟨some (akT "key"),.Lambda params body scope n,kp⟩] pos) (pE Z (fnOf 1 N.length (aY m)) cQ):=
 ⟨Tf r d l aD L B y b a t (λf c A s H aD=>(g f c A s H aD).un) h.un z x he ay j⟩
end
end aE
namespace aE
open PySem PySem.Spec aC PyProof.Rows
def pF(z:Str)(lo hi:Option Int):Str:=⟨(cutD z.cps.toList lo hi).toArray⟩
def EK:R->Option Int->Option Int->M R
 |.v (.str z),lo,hi=>if z.length<=akA then pure (.v (.str (pF z lo hi)))else bad|_,_,_=>bad
@[simp] def sv(a:bw)(lo hi:lK)(U:aJ):M R:=do
 let x <-a U
 let l <-lo U
 let h <-hi U
 EK x l h
def part_of{v:Value}{o:Option Int}(h:anB v o):∃l:Option (Int×Tok),v=partValue l/\l.map (·.1)=o:=by
 cases h with
 |none=>exact⟨none,rfl,rfl⟩|int i t=>exact⟨some (i,t),rfl,rfl⟩
def Ph(n d:Nat)(hd:d<=n)(o:Option Int):c1.cv n d o<=n:=by
 unfold c1.cv
 cases o with
 |none=>exact hd|some i=>simp only[];split<;>omega
def adF(z:Str)(lo hi:Option Int):(amz lo hi 1 z.length).filterMap (λx=>z.cps[x]?)=cutD z.cps.toList lo hi/\(amz lo hi 1 z.length).length=c1.cv z.length z.length hi-c1.cv z.length 0 lo:=by
 obtain⟨a,b,c⟩:=Pp lo hi z.length;have e:amz lo hi 1 z.length=sliceRange (amL lo hi none z.length).1 (amL lo hi none z.length).2.1 1:=rfl;rw[e,a,b,sliceRange_one];refine⟨?_,by rw[akz,alZ]⟩;rw[pick_run];unfold cutD;rw[show z.cps.toList.length=z.length from alk]
def Tw{z:Str}{lo hi:Option Int}(h:c1.cv z.length z.length hi-c1.cv z.length 0 lo=z.length):pF z lo hi=z:=by
 have c:=Ph z.length 0 (alh _) lo;have d:=Ph z.length z.length (akE _) hi;have b:z.cps.toList.length=z.length:=alk;unfold pF cutD;rw[b];have a:c1.cv z.length 0 lo=0\/z.length=0:=by omega
 have:(z.cps.toList.drop (c1.cv z.length 0 lo)).take (c1.cv z.length z.length hi-c1.cv z.length 0 lo)=z.cps.toList:=by
  rcases a with a|a
  .rw[a,aoh,alV (by omega)]
  .have:z.cps.toList=[]:=aoa (by omega)
   rw[this];simp
 rw[this]
def Tu(z:Str)(lo hi:Option Int):(pF z lo hi).length<=z.length:=by
 show(cutD z.cps.toList lo hi).toArray.size<=z.cps.size;rw[akH];unfold cutD;rw[alT,alE,alk];omega
def aeN:nU X (λx lo hi H Q=>∃z,x=.str z/\z.length<=akA/\Q (.str (pF z lo hi)) H):=by
 rintro zn s U H x v g h lo hi ba Q J a ay pl f ⟨z,ex,hz,q⟩;subst ex;obtain⟨t,rfl⟩:=a;obtain⟨l,rfl,el⟩:=part_of pl;obtain⟨u,rfl,d⟩:=part_of f;refine⟨"str",_,slot_str_getitem.lookup,typeIs_str s z t,?_⟩;refine wpAny_getItem_str_slice (l:=l) (u:=u) (st:=none) ay rfl ?_;obtain⟨p1,cD⟩:=adF z lo hi;have cp:slicePicked z l u none=amz lo hi 1 z.length:=by
  unfold slicePicked;rw[el,d];rfl
 unfold sliceMade;rw[cp,cD]
 by_cases c:c1.cv z.length z.length hi-c1.cv z.length 0 lo=z.length
 .rw[if_pos (by simp[c])]
  rw[Tw c]at q;exact⟨.str z,H,J,⟨t,rfl⟩,q⟩
 .rw[if_neg (by simp[c])]
  show _<=akA/\_;rw[p1];refine⟨ald (Tu z lo hi) hz,.str (pF z lo hi),H,?_,⟨s.toks,rfl⟩,q⟩;exact J.kept (t':=s.toks+1) λb o e=>e
variable[aC.a4]
section
variable{X:aV}{e:Expr}{m:bw}{lo hi:Option Expr}{lq qb:lK}{pos cD:Pos}
def agD(he:bc X e m)(hl:pB X lo lq)(w:pB X hi qb):bc X (.Subscript e (.Slice lo hi none cD) pos) (sv m lq qb):=⟨ee (E1 aeN he.un hl.un w.un) λP H Q k=>by
 obtain⟨O,U,S,r,N,st,h,q⟩:=k;obtain⟨x,S1,n,d⟩:=M.inv h;clear h;obtain⟨l,a,p,b⟩:=M.inv d;clear d;obtain⟨u,I,s,h⟩:=M.inv b;clear b;refine⟨O,U,S,x,S1,st,n,λi B K D j f bu=>?_⟩;refine⟨i,U,S1,l,a,j,p,λt L E bK=>?_⟩;refine⟨t,U,a,u,I,bK,s,λA y F G=>?_⟩;have g:=(D.trans E).trans F;unfold EK at h;split at h
 .rename_i z
  by_cases c:z.length<=akA
  .rw[if_pos c]at h
   cases h;cases(show B=.str z from f);exact⟨z,rfl,c,q A _ y g G rfl trivial⟩
  .rw[if_neg c]at h;cases h
 .cases h⟩
end
omit [aC.a4]in
@[simp] theorem aju{z:Str}{lo hi:Option Int}:EK (.v (.str z)) lo hi=if z.length<=akA then pure (.v (.str (pF z lo hi)))else bad:=rfl
end aE
namespace aE
open PySem PySem.Spec aC PyProof.Rows
structure uJ(P:akZ)(w:World)(K:aM)(mg:bl)(x:Str)(ps:List (Str×Str)):Prop where
 ex:∃(a:Addr)(az:Array anU)(n:Nat),mg x=some (.ref a)/\amf a K=some { cls:=.type "dict",data:=.dict az n }/\KeysOf (anK P w) az/\
  ∀k fn,ps.lookup k=some fn->∃f,aoo alD az k=some (.ref f)/\mg fn=some (.ref f)
@[simp] def B8(ps:List (Str×Str))(mk:bw)(U:aJ):M R:=do
 let k <-mk U
 match k with
 |.v (.str z)=>match ps.lookup z with
  |some fn=>pure (.v (.fn fn))|none=>bad
 |_=>bad
@[simp] def B5(i:Nat)(aW:List (Str×bp))(ms:c6)(U:aJ):M R:=match U[i]? with
 |some (.v (.fn f))=>match aW.lookup f with
  |some mf=>bo mf ms U|none=>bad
 |_=>bad
def afy(mg:bl)(ps:List (Str×Str))(ty:TE):TE:=λU H Q=>ty U H λy a=>∃z fn f,y=.str z/\ps.lookup z=some fn/\mg fn=some (.ref f)/\Q (.ref f) a
variable[aC.a4]
section
variable{X:aV}{x:Str}{ps:List (Str×Str)}{i:Expr}{pos p:Pos}{ty:TE}{mk:bw}{j k:Nat}{e:Expr}{az:List Expr}{ms:c6}{pp:List Str}{aW:List (Str×bp)}
omit [aC.a4]in
theorem ads(T:uJ X.prog X.w X.K X.mg x ps)(g:d6 X x)(hi:bZ X i ty)(ay:Be i)(r:(x==("__debug__":Str))=false:=by decide):bZ X (.Subscript (.Name x p) i pos) (afy X.mg ps ty):=by
 intro zn s U H Q J h;obtain⟨a,ds,n,D,hl,m,B⟩:=T.ex;refine ae7 PySem.F.slot_dict_getitem.lookup ay (tf J g D ?_ r);refine bX (hi zn s U H _ J h) λE s2 l=>?_
 obtain⟨y,d,c,q,z,fn,f,A,el,u,bS⟩:=l;subst A;obtain⟨t,rfl⟩:=q;have b:=c.f9 a _ hl;obtain⟨G,au,aF⟩:=B z fn el;rw[u]at aF;cases aF;refine⟨⟨_,b,rfl⟩,?_⟩;refine wpAny_getItem_of (knd:=anK X.prog X.w) (k:=z) (f:=aoo alD ds) (v:=.ref f) ?_ ?_ au ?_
 .show(z==z)=true
  simp
 .exact⟨_,ds,n,b,⟨rfl,rfl,rfl⟩,rfl,m,λ_=>rfl⟩
 .exact⟨.ref f,d,c.tok _,rfl,bS⟩
omit [aC.a4]in
theorem ac8(hN:X.N[j]? = some x)(n:qL X.env.scope x)(aD:cE k X.A){t:fQ}(l:gV X (e::az) t)(z:(x==("__debug__":Str))=false:=by decide)(E:(x==("__classdict__":Str))=false:=by decide)
  (he:akx (e::az) X.env=(false,eval e X.env)::akx az X.env:=by rfl) (B:(ak3 pos (akx az X.env)).any (·.1)=false:=by rfl) :
  bZ X (.Call (.Name x p) (e::az) [] pos) (λU H Q=>∃(f:Addr)(c:alI)(sp:ei),U[j]? = some (some (.ref f))/\e3 X.prog X.w X.K X.mg X.base eA k f c pp sp/\Binds X.K c pp []/\amx X.K (.ref f)=true/\t U H λvs a=>sp vs a Q i0):=by
 rintro zn s U H Q J ⟨f,c,sp,D,F,b,kp,h⟩;refine alS (bX (Ac hN n z E zn s U H (λv H'=>v=.ref f/\H'=H) J ⟨.ref f,D,rfl,rfl⟩) λu G g=>?_);obtain⟨v,a,y,m,au,aF⟩:=g;subst au aF;obtain rfl:u=alv f:=m;refine aoP (h₀:=X.base) J.ok.mod.tb kp (bX (l pos zn G U a _ y h) λus s2 ⟨vs,I,d,r,q⟩=>⟨d.f9,?_⟩) he B;exact w0 (dvs:=[]) (ds:=[]) F aD b .nil rQ d r (by simpa only[alO]using q)
def P1(T:uJ X.prog X.w X.K X.mg x ps)(g:d6 X x)(hi:bc X i mk)(ay:Be i:=by exact λ_ _=>rfl)(t:(x==("__debug__":Str))=false:=by decide):bc X (.Subscript (.Name x p) i pos) (B8 ps mk):=⟨ee (ads T g hi.un ay t) λB H Q m=>by
 obtain⟨O,U,S,r,A,st,h,q⟩:=m;obtain⟨y,S1,n,h⟩:=M.inv h;split at h
 .rename_i z
  split at h
  .rename_i fn el
   cases h;obtain⟨_,_,_,_,_,_,a⟩:=T.ex;obtain⟨f,_,b⟩:=a z fn el;refine⟨O,U,S,_,_,st,n,λd v c u l s nn=>?_⟩;exact⟨z,fn,f,s,el,b,q d _ c u l ⟨f,rfl,b⟩ trivial⟩
  .cases h
 .cases h⟩
def agp(n:∀f mf,aW.lookup f=some mf->eU X.prog X.w X.K X.mg X.base f pp k (e1 X.K X.mg mf))(hN:X.N[j]? = some x)(z:qL X.env.scope x)(aD:cE k X.A)(u:gx X (e::az) ms)(B:(x==("__debug__":Str))=false:=by decide)(G:(x==("__classdict__":Str))=false:=by decide)
  (he:akx (e::az) X.env=(false,eval e X.env)::akx az X.env:=by rfl) (D:(ak3 pos (akx az X.env)).any (·.1)=false:=by rfl):bc X (.Call (.Name x p) (e::az) [] pos) (B5 j aW ms):=⟨ee (ac8 (pp:=pp) hN z aD u.un B G he D) λd H Q s=>by
  obtain⟨O,U,S,r,t,st,h,q⟩:=s;unfold B5 at h;split at h
  .rename_i f I
   split at h
   .rename_i mf el
    obtain⟨fa,E,F,b,kp,m⟩:=(n f mf el).ex;obtain⟨v,c,a,rfl,g⟩:=st.loc j _ I;have:a=fa:=by
     rw[m]at g;cases g;rfl
    subst this;have l:d[j]? = some (some (.ref a)):=by
     cases w:d[j]? with
     |none=>rw[w]at c;cases c
     |some y=>rw[w]at c;exact congrArg some c
    exact⟨a,E,_,l,F,b,kp,B_ d H Q ⟨O,U,S,r,t,st,h,q⟩⟩
   .cases h
  .cases h⟩
end
omit [aC.a4]in
theorem lookup_all{α f:Type}[BEq α][LawfulBEq α]{P:α->f->Prop}:∀{l:List (α×f)},(∀x∈l,P x.1 x.2)->∀a b,l.lookup a=some b->P a b
 |[],_,_,_,h=>by cases h
 |(c,d)::l,o,a,b,h=>by
  rw[akQ]at h;split at h
  .rename_i e
   cases h;rw[eq_of_beq e];exact o _ akS
  .exact lookup_all (λx g=>o x (akL _ g)) a b h
omit [aC.a4]in
theorem Uv{P:akZ}{w:World}{K:aM}{h:Heap}{mg:bl}{x:Str}{d:Addr}{b:Array anU}{n:Nat}{ps:List (Str×Str)}(X:K.In h)(G:h.Ns ak9 mg)
  (a:anE K ak9 x=some (some (.ref d))) (l:amf d K=some { cls:=.type "dict",data:=.dict b n }) (k:∀e∈b.toList,∃s,alD s e.key=true/\e.hash=hashStr w s)
  (f:∀p∈ps,∃f,anE K d p.1=some (some (.ref f))/\anE K ak9 p.2=some (some (.ref f))):uJ P w K mg x ps:=by
 refine⟨d,b,n,aof X G a,l,λe he=>?_,lookup_all (P:=λk fn=>∃f,aoo alD b k=some (.ref f)/\mg fn=some (.ref f)) λp i=>?_⟩
 .obtain⟨s,c,g⟩:=k e (by simpa using he)
  exact⟨s,c,g⟩
 .obtain⟨f,c,g⟩:=f p i
  exact⟨f,W.find_K l c,aof X G g⟩
omit [aC.a4]in
@[simp] theorem ajo:b6 (.fn f)=.v (.fn f):=rfl
omit [aC.a4]in
theorem zZ{K:aM}{P a c:Addr}{x y:Str}(b:W.tabIn K y=some (c,a))(ne:a≠P)(h:oi K P y=true):y=x:=by
 unfold oi at h;rw[b]at h;exact absurd (eq_of_beq h) ne
end aE
namespace aE
open PySem PySem.Spec aC PyProof.Rows
@[simp] def ahV(j:Nat)(mk mv:bw)(U:aJ):M fY:=do
 let r <-mv U
 let d <-r.dat
 let k <-mk U
 match U[j]?,k with
 |some (.d9 p xs),.v (.int i)=>if 0<=i/\i<xs.length then pure (.bu (U.set j (.d9 p (xs.set i.toNat d))))else bad|_,_=>bad
def wI:R->R->M R:=λx y=>match x.own,y with
 |some xs,.v (.int k)=>if 0<=k/\k<1000/\xs.length*k.toNat<=akA then pure (.fr (akI k.toNat xs).flatten)else bad|_,_=>bad
variable[aC.a4]
section
variable{K:aM}{mg:bl}
theorem bj.rep{O:a7}(h:bj K mg O H xs us):∀n:Nat,bj K mg O H (akI n xs).flatten (akI n us).flatten
 |0=>rfl|n+1=>by
  rw[amb,amb,amH,amH];exact h.append (bj.rep h n)
def RA:d_ K mg O5 wI:=λO U S m H x y j n r l Q st f e h q=>by
 unfold wI at h;split at h
 .rename_i xs k au
  by_cases hl:0<=k/\k<1000/\xs.length*k.toNat<=akA
  .rw[if_pos hl]at h
   cases h;obtain⟨a,us,rfl,g,d⟩:=R.z' f au;cases(show y=.int k from e);refine⟨a,k,us,rfl,rfl,g,by omega,by omega,by rw[d.len];exact hl.2.2,λp c=>q (fV O p .dn) _ _ (Go.new c) (st.new c) ⟨p,_,rfl,dZ,lC,(d.rep k.toNat).go (Go.new c)⟩ λb i=>?_⟩;cases i;exact c
  .rw[if_neg hl]at h;cases h
 .cases h
end
end aE
namespace aE
open PySem PySem.Spec aC
def gg(b:Bool)(h:Heap)(i l:Addr)(k:Nat):Prop:=match b with
 |true=>h.IsTupleIter i l k|false=>h.IsListIter i l k
def i5(b:Bool)(h:Heap)(l:Addr)(xs:Array Value):Prop:=match b with
 |true=>h.IsTuple l xs|false=>h.IsList l xs
def gg.extBut(x:gg b h a l i)(ay:Heap.ExtBut c h h')(d:a≠c):gg b h' a l i:=by
 cases b with
 |true=>exact Heap.IsTupleIter.extBut x ay d|false=>exact Heap.IsListIter.extBut x ay d
def i5.extBut(x:i5 b h a xs)(ay:Heap.ExtBut c h h')(d:a≠c):i5 b h' a xs:=by
 cases b with
 |true=>exact Heap.IsTuple.extBut x ay d|false=>exact Heap.IsList.extBut x ay d
def gg.obj{h:Heap}(x:gg b h a l i):∃o vs,h.get? a=some o/\o.data=.fields vs:=by
 cases b with
 |true=>obtain⟨o,e,_,d⟩:=x;exact⟨o,_,e,d⟩
 |false=>obtain⟨o,e,_,d⟩:=x;exact⟨o,_,e,d⟩
def gg.at'{h h':Heap}(x:gg b h a l i)(k:∀o,h.get? a=some o->h'.get? a=some o):gg b h' a l i:=by
 cases b with
 |true=>obtain⟨o,e,r⟩:=x;exact⟨o,k o e,r⟩
 |false=>obtain⟨o,e,r⟩:=x;exact⟨o,k o e,r⟩
def i5.obj{h:Heap}(x:i5 b h a xs):∃o n,h.get? a=some o/\o.data=.seq xs n:=by
 cases b with
 |true=>obtain⟨o,e,_,n,d⟩:=x;exact⟨o,n,e,d⟩
 |false=>obtain⟨o,e,_,n,d⟩:=x;exact⟨o,n,e,d⟩
section
variable{prog:akZ}{w:World}{A:ak4}{E:dk}{s:akC}
def EE{b:Bool}{it l:Addr}{i:Nat}{c:Array Value}{x:Value}{Q:dk}(a:gg b s.heap it l i)(hl:i5 b s.heap l c)(e:c[i]? = some x)
  (f:∀h',gg b h' it l (i+1)->aoO it s.heap h'->Q x { s with heap:=h' }):wpAny (model prog w) A (alC (.ref it)) Q E s:=by
 cases b with
 |false=>exact wpAny_nextOf_list_item a hl e f|true=>
  have a:s.heap.IsTupleIter it l i:=a;obtain⟨o,d,h,hd⟩:=id a;obtain⟨k,g,_,nl,j⟩:=hl;unfold alC;refine akv (al9 (name:=akT "__next__") a.typeIs amE (amO amE a.typeIs aor ?_ (aoi _)));show wpAny _ _ (field (.ref it) 0 >>= _) _ _ s;refine akv (alP d hd (x:=.ref l) rfl ?_);show wpAny _ _ (if(alv l==amX)=true then _ else _) _ _ s;rw[if_neg (show ¬((alv l==amX)=true)from akD)];show wpAny _ _ (field (.ref it) 1 >>= _) _ _ s;refine akv (alP d hd (x:=.int i 0) rfl ?_);show wpAny _ _ (anV (.ref l) >>= _) _ _ s;refine akv (alW g j ?_);simp only[am7,e];refine akv (wpAny_setField d hd (by simp) (akG ⟨x,rfl,akG (f _ ?_ (alM ..))⟩));exact⟨_,Heap.get?_update_self _ d (Obj.isFreed_of_fields (Obj.data_mapFields hd _)),(Obj.cls_mapFields ..).trans h,by rw[Obj.data_mapFields hd];simp[amF]⟩
def NZ{b:Bool}{it l:Addr}{i:Nat}{d:Array Value}{Q:dk}(cX:A.handled=none)(c:gg b s.heap it l i)(hl:i5 b s.heap l d)(g:d[i]? = none)
  (h:∀h' e,Heap.ExtBut it s.heap h'->(∃o,h'.get? e=some o/\o.cls=.type "StopIteration")->E (.ref e) { s with heap:=h' }):wpAny (model prog w) A (alC (.ref it)) Q E s:=by
 cases b with
 |false=>exact wpAny_nextOf_list_end cX c hl g h|true=>
  have c:s.heap.IsTupleIter it l i:=c;obtain⟨o,f,n,hd⟩:=id c;obtain⟨p,j,_,nl,k⟩:=hl;unfold alC;refine akv (al9 (name:=akT "__next__") c.typeIs amE (amO amE c.typeIs aor ?_ (aoi _)));show wpAny _ _ (field (.ref it) 0 >>= _) _ _ s;refine akv (alP f hd (x:=.ref l) rfl ?_);show wpAny _ _ (if(alv l==amX)=true then _ else _) _ _ s;rw[if_neg (show ¬((alv l==amX)=true)from akD)];show wpAny _ _ (field (.ref it) 1 >>= _) _ _ s;refine akv (alP f hd (x:=.int i 0) rfl ?_);show wpAny _ _ (anV (.ref l) >>= _) _ _ s;refine akv (alW j k ?_);simp only[am7,g];refine akv (aoJ (akv (wpAny_setField f hd (by simp) ?_)));show wpAny _ _ (newExc (.type "StopIteration") [] >>= _) _ _ _;refine akv ?_;simp only[newExc,newTuple];refine akv (amt ?_ (by size_fits));refine akv (m:=firstArgMember _ _) (wpAny_of_eq (a:=amX) (by first|rfl|(simp only[firstArgMember];rfl)) ?_);refine amt ?_ (by size_fits);simp only[raiseNew];refine akv (wpAny_handled ?_)
  first|rw[show A.in1.handled=none from cX]|rw[cX]
  refine akv (akG (wpAny_throw ?_));exact h _ _ (((alM ..).extBut.push _).push _) ⟨_,akK _ rfl,rfl⟩
end
section
variable{prog:akZ}{w:World}{A:ak4}{E:dk}{s:akC}
def ahM{p q:Bool}{z TI dO f g k l:Addr}{ej d2:Nat}{xs ys:Array Value}{x y a b:Value}{Q:Option Value->akC->Prop}(D:ZipApart z TI dO f g k l)
  (hz:IsZip s.heap z TI dO .none) (kE:amS s.heap TI (.ref f) (.ref g)) (lb:amS s.heap dO a b)
  (ag:gg p s.heap f k ej) (ah:gg q s.heap g l d2) (lh:i5 p s.heap k xs) (jK:i5 q s.heap l ys) (aj:xs[ej]? = some x) (U:ys[d2]? = some y)
  (jG:∀h',IsZip h' z TI dO (amF s.heap.objs.size)->amS h' dO x y->gg p h' f k (ej+1)->gg q h' g l (d2+1)->amS h' s.heap.objs.size x y->
   (∀c o,c≠z->c≠dO->c≠f->c≠g->s.heap.get? c=some o->h'.get? c=some o)->Q (some (.ref s.heap.objs.size)) { s with heap:=h' }) :
  wpAny (model prog w) A (anr (.ref z)) Q E s:=by
 have S:s.TypeIs (.ref z) "zip":=⟨_,hz,rfl⟩;unfold anr;refine akv (wpAny_attempt (al9 (name:=akT "__next__") S an3 (amO an3 S F.entry_zip_next ?_ (F.args_zip_next_1 _))));show wpAny _ _ (field (.ref z) 2 >>= _) _ _ _;refine akv (alP hz rfl (x:=.bool false) rfl ?_);show wpAny _ _ (field (.ref z) 3 >>= _) _ _ _;refine akv (alP hz rfl (x:=.ref TI) rfl ?_);refine akv (alW kE rfl ?_);show wpAny _ _ (al7 (.ref z) >>= _) _ _ _;refine akv ?_;unfold al7;refine akv (alP hz rfl (x:=.none) rfl (akG ?_));simp only[if_true];refine akv (aoJ ?_);refine akv (alP hz rfl (x:=.ref dO) rfl ?_);refine akv (amA hz (by simp) λkH G h=>?_)
 replace G:IsZip kH z TI dO .ellipsis:=G
 refine akv ?_;simp only[List.zipIdx_cons,List.zipIdx_nil,ao2,List.forIn_nil];refine akv (akv (aoA ?_));show wpAny _ _ (alC (.ref f) >>= _) _ _ _;refine akv (EE (ag.extBut h.extBut D.i1z) (lh.extBut h.extBut D.l1z) aj λl9 V i=>akG ?_);have T:amS l9 dO a b:=i.extBut _ _ D.TOi1 (h.extBut _ _ D.TOz lb);refine akv (alW T rfl ?_);refine akv (an4 T λog I j=>?_)
 replace I:amS og dO x b:=I
 refine akv (am6 (akG ?_));refine akv (akv (aoA ?_));show wpAny _ _ (alC (.ref g) >>= _) _ _ _;refine akv (EE (((ah.extBut h.extBut D.i2z).extBut i.extBut D.i12.symm).extBut j.extBut D.TOi2.symm)
  (((jK.extBut h.extBut D.l2z).extBut i.extBut D.l2i1).extBut j.extBut D.l2TO) U λvG X m=>akG ?_)
 have K:amS vG dO x b:=m.extBut _ _ D.TOi2 I;refine akv (alW K rfl ?_);refine akv (an4 K λd u n=>?_)
 replace u:amS d dO x y:=u
 refine akv (am6 (akG (akG ?_)));refine akv (alW u rfl ?_);refine akv (wpAny_newTuple ?_);have R:d.objs.size=s.heap.objs.size:=by rw[n.1,m.1,j.1,i.1,h.1]
 have N:IsZip d z TI dO .ellipsis:=n.extBut _ _ D.TOz.symm (m.extBut _ _ D.i2z.symm (j.extBut _ _ D.TOz.symm (i.extBut _ _ D.i1z.symm G)));have Z:∀c o,c≠z->c≠dO->c≠f->c≠g->s.heap.get? c=some o->d.get? c=some o:=λc o bf ae eI H e=>
  n.extBut _ _ ae (m.extBut _ _ H (j.extBut _ _ ae (i.extBut _ _ eI (h.extBut _ _ bf e))))
 have W:gg p d f k (ej+1):=((V.extBut j.extBut D.TOi1.symm).extBut m.extBut D.i12).extBut n.extBut D.TOi1.symm;have Y:gg q d g l (d2+1):=X.extBut n.extBut D.TOi2.symm;have M:z<d.objs.size:=akM N;show wpAny _ _ (anx (.ref z) (.ref d.objs.size) >>= _) _ _ _;refine akv ?_;unfold anx;have C:IsZip (d.push { cls:=.type "tuple",data:=.seq #[x,y] }) z TI dO .ellipsis:=aky _ N;refine akv (amA C (by simp) λJ B O=>?_)
 replace B:IsZip J z TI dO (amF d.objs.size):=B
 refine amA B (by simp) λt r P=>?_
 replace r:IsZip t z TI dO (amF d.objs.size):=r
 have up:∀c o,c≠z->d.get? c=some o->t.get? c=some o:=λc o bf e=>P.extBut _ _ bf (O.extBut _ _ bf (aky _ e))
 have L:amS t d.objs.size x y:=P.extBut _ _ (Nat.ne_of_gt M) (O.extBut _ _ (Nat.ne_of_gt M) (akK _ rfl));rw[R]at r L;refine akG ⟨_,rfl,?_⟩;show wpAny _ _ (pure (some (alv d.objs.size))) _ _ _;rw[R];exact akG (jG t r (up _ _ D.TOz u) (W.at' λo e=>up _ o D.i1z e) (Y.at' λo e=>up _ o D.i2z e) L λc o bf ae eI H e=>up c o bf (Z c o bf ae eI H e))
def ahL{G H:Bool}{z TI dO j k q r:Addr}{ej d2:Nat}{xs ys:Array Value}{a b:Value}{Q:Option Value->akC->Prop}(cX:A.handled=none)(D:ZipApart z TI dO j k q r)
  (hz:IsZip s.heap z TI dO .none) (kE:amS s.heap TI (.ref j) (.ref k)) (lb:amS s.heap dO a b)
  (B:gg G s.heap j q ej) (W:gg H s.heap k r d2) (K:i5 G s.heap q xs) (U:i5 H s.heap r ys) (P:xs[ej]? = none\/ys[d2]? = none)
  (J:∀h',(∀c o,c≠z->c≠dO->c≠j->c≠k->s.heap.get? c=some o->h'.get? c=some o)->Q none { s with heap:=h' }):wpAny (model prog w) A (anr (.ref z)) Q E s:=by
 have I:s.TypeIs (.ref z) "zip":=⟨_,hz,rfl⟩;have fin:∀h' e,(∀c o,c≠z->c≠dO->c≠j->c≠k->s.heap.get? c=some o->h'.get? c=some o)->(∃o,h'.get? e=some o/\o.cls=.type "StopIteration")->
   wpAny (model prog w) A (do
    if <-isInstance (.ref e) (.type "StopIteration")then pure none else throw (.ref e)) Q E { s with heap:=h' }:=λh' e X V=>by
  obtain⟨o,R,Y⟩:=V;refine akv (wpAny_isInstance (T:="StopIteration") (b:=true) ⟨o,R,Y⟩ isSubtype_stop ?_);exact akG (J _ X)
 unfold anr;refine akv (wpAny_attempt (al9 (name:=akT "__next__") I an3 (amO an3 I F.entry_zip_next ?_ (F.args_zip_next_1 _))));show wpAny _ _ (field (.ref z) 2 >>= _) _ _ _;refine akv (alP hz rfl (x:=.bool false) rfl ?_);show wpAny _ _ (field (.ref z) 3 >>= _) _ _ _;refine akv (alP hz rfl (x:=.ref TI) rfl ?_);refine akv (alW kE rfl ?_);show wpAny _ _ (al7 (.ref z) >>= _) _ _ _;refine akv ?_;unfold al7;refine akv (alP hz rfl (x:=.none) rfl (akG ?_));simp only[if_true];refine akv (aoJ ?_);refine akv (alP hz rfl (x:=.ref dO) rfl ?_);refine akv (amA hz (by simp) λkH m d=>?_)
 replace m:IsZip kH z TI dO .ellipsis:=m
 refine akv ?_;simp only[List.zipIdx_cons,List.zipIdx_nil,ao2,List.forIn_nil];refine akv (akv (aoA ?_));show wpAny _ _ (alC (.ref j) >>= _) _ _ _
 cases C:xs[ej]? with
 |none=>
  refine akv (NZ cX (B.extBut d.extBut D.i1z) (K.extBut d.extBut D.l1z) C λt e f he=>?_);obtain⟨p,i,l⟩:=he;have u:IsZip t z TI dO .ellipsis:=f _ _ D.i1z.symm m;have n:e≠z:=λx=>by subst x;rw[u]at i;cases i;simp at l
  exact amA u (by simp) λL _ g=>fin L e (λc o bf _ eI _ x=>g.extBut _ _ bf (f _ _ eI (d.extBut _ _ bf x))) ⟨p,g.extBut _ _ n i,l⟩
 |some x=>
  have S:ys[d2]? = none:=by rcases P with h|h;rw[C]at h;cases h;exact h
  refine akv (EE (B.extBut d.extBut D.i1z) (K.extBut d.extBut D.l1z) C λt LU f=>akG ?_);have O:amS t dO a b:=f.extBut _ _ D.TOi1 (d.extBut _ _ D.TOz lb);refine akv (alW O rfl ?_);refine akv (an4 O λL yN g=>?_);refine akv (am6 (akG ?_));refine akv (akv (aoA ?_));show wpAny _ _ (alC (.ref k) >>= _) _ _ _;refine akv (NZ cX (((W.extBut d.extBut D.i2z).extBut f.extBut D.i12.symm).extBut g.extBut D.TOi2.symm)
   (((U.extBut d.extBut D.l2z).extBut f.extBut D.l2i1).extBut g.extBut D.l2TO) S λvG e M he=>?_)
  obtain⟨p,i,l⟩:=he;have y:IsZip vG z TI dO .ellipsis:=M _ _ D.i2z.symm (g.extBut _ _ D.TOz.symm (f.extBut _ _ D.i1z.symm m));have n:e≠z:=λx=>by subst x;rw[y]at i;cases i;simp at l
  exact amA y (by simp) λZ _ N=>fin Z e (λc o bf ae eI u1 x=>N.extBut _ _ bf (M _ _ u1 (g.extBut _ _ ae (f.extBut _ _ eI (d.extBut _ _ bf x))))) ⟨p,N.extBut _ _ n i,l⟩
end
section
variable{X:aV}{zn:c3}{U:St}{H:aw}{s:akC}{h':Heap}
def Inv.PM{t':Nat}{ch:List Addr}(J:Inv X zn U H s)(k:∀b o,b∉ch->s.heap.get? b=some o->h'.get? b=some o)(d:∀b∈ch,gU X zn H b):Inv X zn U H { s with heap:=h',toks:=t' }:=by
 have f:∀b u,H b=some u->b∉ch:=λb u e z=>by rw[(d b z).1]at e;cases e
 refine J.step (g':=s.gens) (d':=s.drawn) (ch:=ch) (λb h=>?_) (λb o _ _ a e _=>k b o a e) (λb o _ _ a e _=>⟨o.slots,k b o a e⟩) (λ_ _ _ _ n=>n)
  (λb o a e=>⟨o,k b o a e⟩) (λ_ _ e=>e) (λ_ _ _ e=>e) (λb ps e=>⟨#[],by rw[e];simp⟩) (λm w=>?_) (λb u e=>?_) J.bare
 .obtain⟨_,j,_,p,l,t⟩:=d b h
  exact⟨p,j,l,t⟩
 .obtain⟨o,i,cp,g,r⟩:=w
  exact⟨o,i,cp,k _ o (λz=>(d _ z).2.1 rfl) g,r⟩
 .refine(J.cb b u e).rX (λc v a q=>k c v ?_ q) (λ_ q=>q) λ_ _ q=>q
  rcases a with z|z
  .rw[z];exact f b u e
  .exact f c _ z
end
def hO(b:Bool)(K:aM)(H:aw)(a:Addr)(xs:List V):Prop:=match b with
 |true=>dB K H a xs|false=>dt K H a xs
def Inv.cR{s:akC}(J:Inv X zn U H s)(h:hO b X.K H a xs):∃its:List Value,Vals xs its/\i5 b s.heap a its.toArray:=by
 cases b with
 |true=>obtain⟨its,r,p,_⟩:=J.tuple h;exact⟨its,r,p⟩
 |false=>obtain⟨its,r,p,_⟩:=J.list h;exact⟨its,r,p.isList⟩
def Inv.Pu{s:akC}(J:Inv X zn U H s)(h:hO b X.K H a xs)(h':hO b X.K H a ys):xs=ys:=by
 cases b with
 |true=>exact J.PK h h'|false=>exact J.Nw h h'
def Gz(K:aM)(c d:Bool)(a b:Addr):ib:=
  ⟨λi H=>(∃xs x,hO c K H a xs/\xs[i]? = some x)/\∃ys y,hO d K H b ys/\ys[i]? = some y,
   λi H x H'=>∃u v T,x=.ref T/\H T=none/\H'=upd H T (.t [u,v])/\(∀xs,hO c K H a xs->xs[i]? = some u)/\∀ys,hO d K H b ys->ys[i]? = some v,
   λi H=>∃xs ys,hO c K H a xs/\hO d K H b ys/\(xs.length<=i\/ys.length<=i)⟩
def af1(cm ct:Bool){z TI dO g j R T:Addr}(D:ZipApart z TI dO g j R T):Turn P w K (.Tuple elts ja fu) (Gz K cm ct R T) [z,TI,dO,g,j] z
  (λi h=>IsZip h z TI dO .none/\amS h TI (.ref g) (.ref j)/\(∃a b,amS h dO a b)/\gg cm h g R i/\gg ct h j T i) where
 mem:=by simp
 obj:=λi h st b c=>by
  obtain⟨hz,l,⟨x,y,r⟩,m,n⟩:=st;rcases akP.mp c with rfl|c
  .exact⟨_,hz,λv z=>by cases z⟩
  rcases akP.mp c with rfl|c
  .exact⟨_,l,λv z=>by cases z⟩
  rcases akP.mp c with rfl|c
  .exact⟨_,r,λv z=>by cases z⟩
  rcases akP.mp c with rfl|c
  .obtain⟨o,vs,e,d⟩:=m.obj;exact⟨o,e,λv z=>by rw[d]at z;cases z⟩
  rcases akP.mp c with rfl|c
  .obtain⟨o,vs,e,d⟩:=n.obj;exact⟨o,e,λv z=>by rw[d]at z;cases z⟩
  cases c
 keep:=λi h h' ⟨hz,l,⟨x,y,r⟩,m,n⟩ k=>⟨k z (by simp) _ hz,k TI (by simp) _ l,⟨x,y,k dO (by simp) _ r⟩,m.at' λo e=>k g (by simp) o e,n.at' λo e=>k j (by simp) o e⟩
 item:=by
  rintro X V hw W hc i zn s U H E J I ⟨hz,l,⟨mX,iK,r⟩,m,n⟩ ⟨⟨xs,x,F,C⟩,⟨ys,y,aD,Z⟩⟩;subst V hw W;obtain⟨its,S,p⟩:=Inv.cR J F;obtain⟨MS,jk,q⟩:=Inv.cR J aD;obtain⟨u,cH,ef⟩:=S.get C;obtain⟨v,bV,Q⟩:=jk.get Z;have Xr:∀b∈[z,dO,g,j],b∈[z,TI,dO,g,j]:=λb c=>by simp at c ⊢;rcases c with h|h|h|h<;>simp[h]
  refine ahM D hz l r m n p q (x:=u) (y:=v) (by simpa using cH) (by simpa using bV) λh' a1 a2 fE iJ jy G=>⟨_,rfl,wpAny_letOwnedTupleGo_zip a1 λsR Yf B=>?_⟩
  have aA:=J.cb.fresh (akE s.heap.objs.size);have O:=akM hz;have N:=akM r;have L:g<s.heap.objs.size:=by obtain⟨_,_,e,_⟩:=m.obj;exact akM e
  have M:j<s.heap.objs.size:=by obtain⟨_,_,e,_⟩:=n.obj;exact akM e
  have jK:Vals [x,y] [u,v]:=.cons ef (.cons Q .nil);have bh:Inv X zn U (upd H s.heap.objs.size (.t [x,y])) { s with heap:=s.heap.push { cls:=.type "tuple",data:=.seq #[u,v] } }:=
   J.laid (t':=s.toks) (λb u e=>aky _ e) (akE _) ⟨by rw[ak2];show 2<=_;decide,[u,v],jK,⟨_,akK _ rfl,rfl,_,rfl⟩⟩
  have b7:Inv X zn U (upd H s.heap.objs.size (.t [x,y])) { s with heap:=sR }:=by
   refine Inv.PM (s:={ s with heap:=s.heap.push { cls:=.type "tuple",data:=.seq #[u,v] } }) (ch:=[z,dO,g,j]) (t':=s.toks) bh (λb o c e=>?_) λb c=>?_
   .have Y:b≠z:=λq=>c (by simp[q])
    refine B.extBut _ _ Y ?_;rcases Heap.get?_push_cases e with⟨rfl,rfl⟩|e
    .exact jy
    .exact G b o Y (λq=>c (by simp[q])) (λq=>c (by simp[q])) (λq=>c (by simp[q])) e
   .obtain⟨f0,f⟩:=I b (Xr b c)
    refine⟨?_,f⟩;rw[c5]
    .exact f0
    .rintro rfl
     simp at c;rcases c with h|h|h|h
     .rw[<-h]at O;exact als _ O
     .rw[<-h]at N;exact als _ N
     .rw[<-h]at L;exact als _ L
     .rw[<-h]at M;exact als _ M
  refine⟨.ref s.heap.objs.size,_,b7,rfl,⟨x,y,_,rfl,aA,rfl,λo' h'=>by rw[Inv.Pu J h' F];exact C,λakr h'=>by rw[Inv.Pu J h' aD];exact Z⟩,
   ⟨Yf,B.extBut _ _ D.TIz (G _ _ D.TIz D.TITO D.TIi1 D.TIi2 l),⟨_,_,B.extBut _ _ D.TOz a2⟩,fE.extBut B.extBut D.i1z,iJ.extBut B.extBut D.i2z⟩,λb c=>?_⟩
  rw[c5]
  .exact(I b c).1
  .rintro rfl
   have A:=akM l;simp at c;rcases c with h|h|h|h|h
   .rw[<-h]at O;exact als _ O
   .rw[<-h]at A;exact als _ A
   .rw[<-h]at N;exact als _ N
   .rw[<-h]at L;exact als _ L
   .rw[<-h]at M;exact als _ M
 done:=by
  rintro X V hw W hc i zn s U H E J I ⟨hz,l,⟨mX,iK,r⟩,m,n⟩ ⟨xs,ys,F,aD,hl⟩;subst V hw W;obtain⟨its,S,p⟩:=Inv.cR J F;obtain⟨MS,jk,q⟩:=Inv.cR J aD;have au:=S.length;have aF:=jk.length;refine ahL (J.ok.hd hc) D hz l r m n p q ?_ λh' G=>⟨rfl,?_⟩
  .rcases hl with hl|hl
   .exact .inl (by simp;omega)
   .exact .inr (by simp;omega)
  .refine Inv.PM (ch:=[z,dO,g,j]) (t':=s.toks) J (λb o c e=>G b o (λq=>c (by simp[q])) (λq=>c (by simp[q])) (λq=>c (by simp[q])) (λq=>c (by simp[q])) e) λb c=>I b ?_
   simp at c ⊢;rcases c with h|h|h|h<;>simp[h]
 self:=λ_ _ _ _ _ ⟨hz,_⟩ h=>wpAny_pyIter_zip hz h
def za(b:Bool)(l:Addr):Obj:=match b with
 |true=>{ cls:=.type "tuple_iterator",data:=.fields #[.ref l,.int 0 0] }
 |false=>{ cls:=.type "list_iterator",data:=.fields #[.ref l,.int 0 0] }
abbrev A2(b:Bool)(h:Heap)(a:Addr):Heap:=h.push (za b a)
abbrev A3(c d:Bool)(h:Heap)(a b:Addr):Heap:=(A2 c h a).push (za d b)
abbrev A4(b d:Bool)(h:Heap)(a c:Addr):Heap:=(A3 b d h a c).push { cls:=.type "tuple",data:=.seq #[.ref h.objs.size,.ref (A2 b h a).objs.size] }
abbrev A5(c d:Bool)(h:Heap)(a b:Addr):Heap:=(A4 c d h a b).push { cls:=.type "tuple",data:=.seq #[.none,.none] }
abbrev uD(c d:Bool)(h:Heap)(a b:Addr):Heap:=(A5 c d h a b).push { cls:=.type "zip",data:=.fields #[.none,.bool false,.bool false,.ref (A3 c d h a b).objs.size,.ref (A4 c d h a b).objs.size] }
def Z9(l e:Bool)(a c:Addr)(xs ys:Array Value) :
  Meets (aog.«zip.__new__» ⟨[.type "zip",.ref a,.ref c],[]⟩) (λ_ R s=>i5 l s.heap a xs/\i5 e s.heap c ys/\
   R (.ok (.ret (.ref (A5 l e s.heap a c).objs.size))) { s with heap:=uD l e s.heap a c }):=by
 cases l with
 |false=>
  cases e with
  |false=>exact meets_zip_new a c xs ys|true=>
   refine .of_wp λprog w A R s h=>?_
   obtain⟨b,g,d,tk,os⟩:=s;obtain⟨i,f,h⟩:=h;have m:=sub_zip;have j:Heap.IsList (anG ⟨b,g,d,tk,os⟩) a xs:=i;have k:aoT (anG ⟨b.push { cls:=.type "list_iterator",data:=.fields #[.ref a,.int 0 0] },g,d,tk,os⟩) c ys:=apt f _
   wp_walk using amG j,amZ k
   exact⟨_,rfl,h⟩
 |true=>
  cases e with
  |false=>
   refine .of_wp λprog w A R s h=>?_
   obtain⟨b,g,d,tk,os⟩:=s;obtain⟨i,f,h⟩:=h;have m:=sub_zip;have j:aoT (anG ⟨b,g,d,tk,os⟩) a xs:=i;have k:Heap.IsList (anG ⟨b.push { cls:=.type "tuple_iterator",data:=.fields #[.ref a,.int 0 0] },g,d,tk,os⟩) c ys:=Heap.IsList.push f _
   wp_walk using amZ j,amG k
   exact⟨_,rfl,h⟩
  |true=>
   refine .of_wp λprog w A R s h=>?_
   obtain⟨b,g,d,tk,os⟩:=s;obtain⟨i,f,h⟩:=h;have m:=sub_zip;have j:aoT (anG ⟨b,g,d,tk,os⟩) a xs:=i;have k:aoT (anG ⟨b.push { cls:=.type "tuple_iterator",data:=.fields #[.ref a,.int 0 0] },g,d,tk,os⟩) c ys:=apt f _
   wp_walk using amZ j,amZ k
   exact⟨_,rfl,h⟩
def gg.new{h:Heap}(e:h.get? a=some (za b l)):gg b h a l 0:=by
 cases b with
 |true=>exact⟨_,e,rfl,rfl⟩|false=>exact⟨_,e,rfl,rfl⟩
section
variable{prog:akZ}{w:World}{A:ak4}{E:dk}{s:akC}
def S'{d f:Bool}{a e:Addr}{xs ys:Array Value}{Q:dk}(y:i5 d s.heap a xs)(u:i5 f s.heap e ys)
  (h:∀h',IsZip h' (s.heap.objs.size+4) (s.heap.objs.size+2) (s.heap.objs.size+3) .none->amS h' (s.heap.objs.size+2) (.ref s.heap.objs.size) (.ref (s.heap.objs.size+1))->
   amS h' (s.heap.objs.size+3) .none .none->gg d h' s.heap.objs.size a 0->gg f h' (s.heap.objs.size+1) e 0->
   (∀c o,s.heap.get? c=some o->h'.get? c=some o)->Q (.ref (s.heap.objs.size+4)) { s with heap:=h' }) :
  wpAny (model prog w) A (call (.type "zip") [.ref a,.ref e]) Q E s:=by
 refine callType_new F.called_zip (by decide) (F.typeCall_zip_2 _ _) (F.newCall_zip_2 _ _) (λobj=>F.args_object_init_3 obj _ _) F.entry_zip_new (Z9 d f a e xs ys) ⟨y,u,?_⟩;have j:(A2 d s.heap a).objs.size=s.heap.objs.size+1:=ana ..;have i:(A3 d f s.heap a e).objs.size=s.heap.objs.size+2:=by rw[ana,j]
 have k:(A4 d f s.heap a e).objs.size=s.heap.objs.size+3:=by rw[ana,i]
 have m:(A5 d f s.heap a e).objs.size=s.heap.objs.size+4:=by rw[ana,k]
 have n:∀b l,(za b l).isFreed=false:=λb l=>by cases b<;>rfl
 have g:(uD d f s.heap a e).get? (A5 d f s.heap a e).objs.size=some _:=akK _ rfl;have r:(uD d f s.heap a e).get? (A4 d f s.heap a e).objs.size=some _:=aky _ (akK _ rfl);have q:(uD d f s.heap a e).get? (A3 d f s.heap a e).objs.size=some _:=aky _ (aky _ (akK _ rfl));have p:(uD d f s.heap a e).get? (A2 d s.heap a).objs.size=some _:=aky _ (aky _ (aky _ (akK _ (n _ _))));have t:(uD d f s.heap a e).get? s.heap.objs.size=some _:=aky _ (aky _ (aky _ (aky _ (akK _ (n _ _)))));show _/\_;rw[i,k,m]at g;rw[j,i]at q;rw[k]at r;rw[j]at p;rw[m];exact⟨⟨_,g,rfl⟩,h _ g q r (.new t) (.new p) λc o x=>
  aky _ (aky _ (aky _ (aky _ (aky _ x))))⟩
end
def DH(K:aM)(f:fQ):TI:=λU H R=>f U H λvs a=>∃d e b c,vs=[.ref b,.ref c]/\(∃xs,hO d K a b xs)/\(∃ys,hO e K a c ys)/\R (Gz K d e b c) a
def adD{X:aV}{g:List Expr}{T:Nat}{Q:Pos}{p pos:Pos}(F:d6 X "zip")(S:X.mg "zip"=none)(I:gV X [a,b] o)(ay:akx [a,b] X.env=[(false,eval a X.env),(false,eval b X.env)]:=by rfl)(x:akx [b] X.env=[(false,eval b X.env)]:=by rfl) :
  j1 X (.Tuple g T Q) (.Call (.Name "zip" p) [a,b] [] pos) (DH X.K o):=by
 intro zn s U H R J h;refine PyProof.Rows.Call_ (ny J F S PyProof.Rows.boot_zip (alR (bX (I pos zn s U H _ J h) λus d ⟨vs,B,f,M,br⟩=>?_) (by rw[ay,x]) (by rw[x];rfl)));obtain⟨O,P,m,u,e,⟨xs,G⟩,⟨ys,E⟩,q⟩:=br;subst e
 cases M with
 |cons r t=>
  cases t with
  |cons N t=>
   cases t;cases r;cases N;obtain⟨its,W,p1⟩:=Inv.cR f G;obtain⟨V,jk,cD⟩:=Inv.cR f E;have z:m<d.heap.objs.size:=by obtain⟨_,_,e,_⟩:=p1.obj;exact akM e
   have A:u<d.heap.objs.size:=by obtain⟨_,_,e,_⟩:=cD.obj;exact akM e
   refine S' p1 cD λh' a1 a2 fE iJ jy L=>?_
   refine wpAny_pyIter_zip (s:={ d with heap:=h' }) a1 ?_;have D:ZipApart (d.heap.objs.size+4) (d.heap.objs.size+2) (d.heap.objs.size+3) d.heap.objs.size (d.heap.objs.size+1) m u:=by
    have up:∀{l:Addr}(k:Nat),l<d.heap.objs.size->l≠d.heap.objs.size+k:=λk h=>alc (ala h (amT _ _))
    have md:m≠d.heap.objs.size:=alc z;have w:u≠d.heap.objs.size:=alc A;have j:=λk=>up k z
    have i:=λk=>up k A
    generalize d.heap.objs.size=n at md w j i ⊢;constructor<;>first|exact j 4|exact j 3|exact md|exact j 1|exact i 4|exact i 3|exact w|exact i 1|(show(_:Nat)≠_;omega)
   refine⟨d.heap.objs.size+4,[d.heap.objs.size+4,d.heap.objs.size+2,d.heap.objs.size+3,d.heap.objs.size,d.heap.objs.size+1],_,_,B,rfl,f.kept (t':=d.toks) L,af1 O P D,⟨a1,a2,⟨_,_,fE⟩,iJ,jy⟩,λc y=>?_,q⟩;have le:d.heap.objs.size<=c:=by
    simp at y;rcases y with rfl|rfl|rfl|rfl|rfl
    .exact amT _ _
    .exact amT _ _
    .exact amT _ _
    .exact akE _
    .exact amT _ _
   exact f.q_ le (f.cb.fresh le)
end aE
namespace aE
open PySem PySem.Spec aC
variable[aC.a4]
def R.walk:R->Option (List D)
 |.v (.t xs)=>some xs|.v (.l xs)=>some xs|.fr xs=>some xs|.bU xs=>some xs|_=>none
def Bi(b:Bool)(K:aM)(O:a7)(H:aw)(a:Addr)(ys:List V):Prop:=match b with
 |true=>dB K H a ys|false=>hL K O H a ys
def Bi.cR{O:a7}(h:Bi b K O H a ys):hO b K H a ys:=by
 cases b with
 |true=>exact h|false=>exact hL.cR h
def PY{O:a7}{r:R}{v:V}(h:et K mg O H r v)(n:ju H₀ r v)(e:r.walk=some xs):∃b a ys,v=.ref a/\Bi b K (cM H₀ O) H a ys/\bj K mg (cM H₀ O) H xs ys:=by
 unfold R.walk at e;split at e
 .cases e;obtain⟨a,ys,q,l,r⟩:=h;exact⟨true,a,ys,q,l,r.da (i9 _ _)⟩
 .cases e
  obtain⟨a,ys,q,l,r⟩:=h;exact⟨false,a,ys,q,.inl ⟨.inl l.1,.inl ((i9 H₀ O).fr a l.2)⟩,r.da (i9 _ _)⟩
 .cases e
  obtain⟨a,ys,rfl,l,t,r⟩:=h;exact⟨false,a,ys,rfl,.inl ⟨.inl l,.inl (CR (n a rfl) t)⟩,r.da (i9 _ _)⟩
 .cases e
  obtain⟨a,ys,q,l,r⟩:=h;refine⟨false,a,ys,q,?_,r.da (i9 _ _)⟩;rcases l with⟨l,f⟩|l
  .refine .inl ⟨l,?_⟩
   rcases f with f|f
   .exact .inl ((i9 H₀ O).fr a f)
   .exact .inr (by rw[ra (by rw[f];intro z;cases z)];exact f)
  .exact .inr l
 .cases e
end aE
namespace aE
open PySem PySem.Spec aC PyProof.Rows
variable[aC.a4]
def pY(t:aJ->M Bool)(el:bw)(U:aJ):List (D×D)->M (List D)
 |[]=>pure []|d::ds=>do
  let b <-t ((U.set 0 (.v d.1)).set 1 (.v d.2))
  if b=true then do
   let r <-el ((U.set 0 (.v d.1)).set 1 (.v d.2))
   let x <-r.dat
   let xs <-pY t el U ds
   pure (x::xs)
  else pY t el U ds
def xw:List R->Option (List (D×D))
 |[x,y]=>match x.walk,y.walk with
  |some xs,some ys=>some (xs.zip ys)|_,_=>none
 |_=>none
@[simp] def u2(cap:List Nat)(ms:c6)(t:aJ->M Bool)(el:bw)(U:aJ):M R:=do
 let rs <-ms U
 match xw rs with
 |some ds=>do
  hx (ds.length<akA)
  let xs <-pY t el (hP 2 cap U) ds
  pure (.fr xs)
 |none=>bad
def ahK(h:xw rs=some ds):∃x y xs ys,rs=[x,y]/\x.walk=some xs/\y.walk=some ys/\ds=xs.zip ys:=by
 unfold xw at h;split at h
 .rename_i x y
  split at h
  .rename_i xs ys au aF
   cases h;exact⟨x,y,xs,ys,rfl,au,aF,rfl⟩
  .cases h
 .cases h
def hO.same{b:Bool}{K:aM}{H H':aw}(s:eC H H'){a:Addr}{ys:List V}(h:hO b K H a ys):hO b K H' a ys:=by
 cases b with
 |true=>exact s.w4 h|false=>exact s.seq h
omit [aC.a4]in
theorem MU(U:aJ):∀ds,pY t el U ds=nu (λd=>some ((U.set 0 (.v d.1)).set 1 (.v d.2))) t el ds
 |[]=>rfl| d::ds=>by unfold pY nu;rw[MU U ds]
def Tp{K:aM}{mg:bl}{cap:List Nat}{ms:c6}{t:aJ->M Bool}{el:bw}:∀e H Q,fK K mg (u2 cap ms t el) e H Q->uh 2 cap (DH K (oU K mg ms)) (CX K 2 (sP [0,1])) (lA K mg t) (fK K mg el) e H Q:=by
 rintro e H Q ⟨O,U,S,r,ao,st,h,q⟩;obtain⟨rs,S1,F,h⟩:=M.inv h
 cases o:xw rs with
 |none=>rw[o]at h;cases h
 |some ds=>
  rw[o]at h;obtain⟨_,a5,G,h⟩:=M.inv h;obtain⟨a,rfl⟩:=qT G;obtain⟨xs,hM,p,h⟩:=M.inv h;cases h;obtain⟨x,y,I,AY,rfl,ex,C,rfl⟩:=ahK o;rw[MU]at p;refine⟨O,U,S,_,S1,st,F,λaG vs H1 z E f nn=>?_⟩;obtain⟨v1,bA,rfl,D,v2,b1,rfl,L,re⟩:=f;cases re;obtain⟨W,N,us,rfl,l,a1⟩:=PY (H₀:=H) D nn.1 ex;obtain⟨X,V,c,rfl,s2,a2⟩:=PY (H₀:=H) L nn.2.1 C;refine⟨W,X,N,V,rfl,⟨us,l.cR⟩,⟨c,s2.cR⟩,Jf (E.cM H) a (λH' s=>⟨us,c,hO.same s l.cR,hO.same s s2.cR,?_⟩) (λk d pe b H' Y cp g' i=>?_) p λb v H' g i f nn=>q b v H' (z.cM.trans g) i f (nn.back z.same)⟩
  .rw[List.length_zip,a1.len,a2.len];omega
  .cases cp
   obtain⟨au,aF⟩:=List.getElem?_zip_eq_some.mp Y;obtain⟨u,B,Z⟩:=(bj.go g' (a1.da (j5 _))).get au;obtain⟨v,w,P⟩:=(bj.go g' (a2.da (j5 _))).get aF;have br:=hO.same g'.same l.cR;have bS:=hO.same g'.same s2.cR;refine⟨⟨⟨us,u,br,B⟩,⟨c,v,bS,w⟩⟩,λx aK R kY J=>?_⟩;obtain⟨u',fL,T,rfl,A,rfl,y6,sY⟩:=kY;have m:=y6 us br;rw[B]at m;cases m;have n:=sY c bS;rw[w]at n;cases n;have j:Go b b H' (upd H' T (.t [u,v])):=Go.hh A;exact⟨T,[u,v],rfl,dB.of dZ,rfl,u,[v],rfl,v,[],rfl,rfl,J _ _ j (((i.hh A).val (Z.go j)).val (P.go j)) (((mO.refl _).set rfl).set rfl)⟩
section
variable{X:aV}{scope esc:Scope}{EN N:List Str}{cap:List Nat}{elt a fi:Expr}{ifs:List Expr}{pos fu p dJ p1 cD:Pos}{x y:Str}{t:aJ->M Bool}{el:bw}{ms:c6}{k:Nat}
def Tb(S:k1 esc scope EN N 2 cap)(h:d6 X "zip")(r:X.mg "zip"=none)(l:Gl X [a,fi] ms)(j:N[0]? = some x)(i:N[1]? = some y)
  (e:∀C b s H,Loc (cL X scope N C b s H).env.scope x/\(cL X scope N C b s H).env.scope.names.lookup x=some .local) (f:∀C b s H,Loc (cL X scope N C b s H).env.scope y/\(cL X scope N C b s H).env.scope.names.lookup y=some .local)
  (m:∀C b s H,A7 (cL X scope N C b s H) ifs t) (n:∀C b s H,hp (cL X scope N C b s H) elt el)
  (he:X.env.scope=esc:=by rfl) (hN:X.N=EN:=by rfl) (d:X.calm=true:=by rfl) (ay:∀x,alz (.Call (.Name "zip" p) [a,fi] [] dJ) X.env x=pure x:=by intro _;rfl)
  (u:akx [a,fi] X.env=[(false,eval a X.env),(false,eval fi X.env)]:=by rfl) (q:akx [fi] X.env=[(false,eval fi X.env)]:=by rfl)
  (c:∀C b s H,(alw [.Name x p1,.Name y cD] (cL X scope N C b s H).env).length=2/\(alw [.Name x p1,.Name y cD] (cL X scope N C b s H).env).findIdx? (·.1)=none/\
   (alw [.Name x p1,.Name y cD] (cL X scope N C b s H).env).map (·.2)=amY (.Name x p1) (cL X scope N C b s H).env::(alw [.Name y cD] (cL X scope N C b s H).env).map (·.2)/\
   (alw [.Name y cD] (cL X scope N C b s H).env).map (·.2)=amY (.Name y cD) (cL X scope N C b s H).env::(alw [] (cL X scope N C b s H).env).map (·.2):=by intros;exact⟨rfl,rfl,rfl,rfl⟩) :
  hp X (.ListComp elt [⟨.Tuple [.Name x p1,.Name y cD] k fu,.Call (.Name "zip" p) [a,fi] [] dJ,ifs,0⟩] scope pos) (u2 cap ms t el):=
 ee (E0 (wi:=DH X.K (oU X.K X.mg ms)) (g:=CX X.K 2 (sP [0,1])) (tt:=lA X.K X.mg t) (te:=fK X.K X.mg el) S (adD h r l u q)
  (λC b s H=>adx d (OA S.fB j (e C b s H).1 (OA S.fB i (f C b s H).1 adz (c C b s H).2.2.2 (.inr (f C b s H).2)) (c C b s H).2.2.1 (.inr (e C b s H).2)) (c C b s H).1 (c C b s H).2.1) m n he hN d ay) Tp
end
end aE
namespace aE
open PySem PySem.Spec aC PyProof.Rows
def SR:alm "max"=some (.builtin "max"):=by decide +kernel
def kmk_max_key(a v:Value):argsOk "max" ⟨[a],[(akT "key",v)]⟩:=by unfold argsOk;kernel_rfl
def ma(mf:bp)(d:D):Option (List Int):=match(mf [d]).run []with
 |.ok (.v (.t o)) []=>nums o|_=>none
def kg(mf:bp)(b:D)(a:List Int):List D->Option D
 |[]=>some b|d::ds=>match ma mf d with
  |some eL=>if p4 eL a=true then kg mf d eL ds else kg mf b a ds|none=>none
def wq(mf:bp):List D->Option D
 |d::ds=>match ma mf d with
  |some k=>kg mf d k ds|none=>none
 |[]=>none
def yx(mf:bp)(x:R):M R:=match x.ft with
 |some ds=>match wq mf ds with
  |some r=>if ds.length<64 then pure (.v r)else bad|none=>bad
 |none=>bad
@[simp] def yf(mf:bp)(a:bw)(U:aJ):M R:=do
 let x <-a U
 yx mf x
def M5{mf:bp}{k:List Int}(h:ma mf d=some k):∃a,(mf [d]).run []=.ok (.v (.t a)) []/\nums a=some k:=by
 unfold ma at h;split at h
 .rename_i a e;exact⟨a,e,h⟩
 .cases h
variable[aC.a4]
section
variable{X:aV}{zn:c3}{U:aC.St}{H:aw}{s:akC}{G:aw->Prop}{mf:bp}{f S it l:Addr}{k:Nat}{O:a7}
def next_item{xs:List V}{v:V}{E:dk}{A:ak4}(J:Inv X zn U H1 s)(L:dt X.K H1 l xs)(t:xs[j]? = some v)(n:gU X zn H1 it)(a:s.heap.IsListIter it l j)(cX:A.handled=none) :
  wpAny (model X.prog X.w) A (anr (.ref it)) (λr h=>∃u,r=some u/\RelV v u/\Inv X zn U H1 h/\h.heap.IsListIter it l (j+1)) E s:=by
 obtain⟨us,q,pl,_⟩:=J.list L;have hl:s.heap.IsList l us.toArray:=pl.isList;have P:l≠it:=by
  rintro rfl;obtain⟨o,e,c,_⟩:=a;obtain⟨Q,d,c',_⟩:=hl;rw[e]at d;cases d;rw[c]at c';injection c' with z;exact absurd z (by decide)
 obtain⟨u,g,y⟩:=q.get t;have W:=ape (prog:=X.prog) (w:=X.w) (A:=A) cX it l P us.toArray;refine W.item j s _ _ (by have:=(akw.mp g).1;simpa using this) ⟨a,hl⟩ λu' h' i x m N=>?_
 have e:some u'=some u:=by rw[<-g];simpa using x.symm
 cases e;obtain⟨B,D,R,I,F,M⟩:=n;exact⟨u,rfl,y,J.turned (t':=i) (λb o p e=>N b o (by simpa using p) e) B D I F M,m.1⟩
def abL{xs:List V}{E:dk}{A:ak4}(J:Inv X zn U H1 s)(x:dt X.K H1 l xs)(n:j=xs.length)(h:gU X zn H1 it)(a:s.heap.IsListIter it l j)(cX:A.handled=none) :
  wpAny (model X.prog X.w) A (anr (.ref it)) (λr I=>r=none/\Inv X zn U H1 I) E s:=by
 obtain⟨us,m,pl,_⟩:=J.list x;have hl:s.heap.IsList l us.toArray:=pl.isList;have F:l≠it:=by
  rintro rfl;obtain⟨o,e,c,_⟩:=a;obtain⟨L,d,c',_⟩:=hl;rw[e]at d;cases d;rw[c]at c';injection c' with z;exact absurd z (by decide)
 have W:=ape (prog:=X.prog) (w:=X.w) (A:=A) cX it l F us.toArray;have B:j=us.toArray.size:=by rw[akH,n,m.length]
 rw[B]at a;refine W.done s _ _ ⟨a,hl⟩ λh' g D=>?_
 obtain⟨p,q,M,u,t,y⟩:=h;exact⟨rfl,J.turned (t':=g) (λb o i e=>D b o (by simpa using i) e) p q u t y⟩
def M8{i:a7}{v:V}{A:ak4}(F:nQ X k f G mf)(aD:cE k A.in1)(C:k2 X.prog X.w X.K X.mg X.base A.in1 X.stack s H1)(J:Inv X zn U H1 s)(eE:di i H1)(I:G H1)(dh:Rep X.K X.mg i H1 d v)(ef:RelV v u)(hd:(mf [d]).run []=.ok (.v o) [])(B:gU X zn H1 it)(t:s.heap.IsListIter it l j) :
  wpAny (model X.prog X.w) A.in1 (call (.ref f) [u]) (λu' s2=>∃(n:a7)(a:aw)(c:V),Inv X zn U a s2/\Go i n H1 a/\di n a/\G a/\Rep X.K X.mg n a o c/\RelV c u'/\gU X zn a it/\s2.heap.IsListIter it l j) (λ_ _=>False) s:=by
 obtain⟨y,L,Z,M⟩:=t;have N:Inv X (zn++rT [it] s.heap) U H1 s:=J.pinned (λb p=>by rw[akY.mp p];exact B) λb p=>by
  rw[akY.mp p];exact⟨y,L,λv z=>by rw[M]at z;cases z⟩
 refine wpAny_call (anb (F.2.2 A.in1 s H1 u v (λc H'=>∃m,Go i m H1 H'/\di m H'/\Rep X.K X.mg m H' o c) aD C I ef ?_) λr s2 h=>?_)
 .refine⟨i,[d],.v o,[],eE,f3.nil,⟨v,[],rfl,?_,rfl⟩,hd,λm c H' g Y T _=>⟨m,g,Y,T⟩⟩
  cases d<;>first|exact dh|exact alf dh|skip
  obtain⟨x,zs,q,l,r⟩:=dh;exact⟨x,zs,q,l.cR,r⟩
 .cases r with
  |error e=>exact alf h|ok P=>
   cases P with
   |ret u'=>
    obtain⟨c,a,D,R,n,E,W,Q⟩:=N.after h;have pin:=D.pin (it,y) (alq _ (alq _ (by unfold rT;simp[L])));exact⟨n,a,c,D.xg,E,W,F.1 _ _ E.same I,Q,R,⟨pin.2.1,B.2⟩,⟨y,pin.1,Z,M⟩⟩
   |next=>exact alf h
   |brk=>exact alf h|cont=>exact alf h
structure Qt(X:aV)(zn:c3)(U:aC.St)(G:aw->Prop)(O:a7)(H:aw)(S it l:Addr)(j:Nat)(d:D)(fz:List Int)(aZ:akC):Prop where
 ex:∃ak H' v kv,Inv X zn U H' aZ/\Go O ak H H'/\di ak H'/\G H'/\H' S=some (.l [v,kv])/\Rep X.K X.mg ak H' d v/\Rep X.K X.mg ak H' (.t (fz.map D.int)) kv/\ak S=.dn/\gU X zn H' it/\aZ.heap.IsListIter it l j
def GA(X:aV)(zn:c3)(U:aC.St)(O:a7)(H:aw)(res:D)(u:Value)(b:akC):Prop:=
 ∃a H' v,Inv X zn U H' b/\Go O a H H'/\di a H'/\Rep X.K X.mg a H' res v/\RelV v u
def O9{K:aM}{mg:bl}{O:a7}{H:aw}{c:List D}{b:List Int}{v:V}(r:Rep K mg O H (.t c) v)(e:nums c=some b):Rep K mg O H (.t (b.map D.int)) v:=by
 obtain⟨a,ys,rfl,cR,d⟩:=r;have:=z4 d e;subst this;exact⟨a,_,rfl,cR,O7 b⟩
def O_{K:aM}{mg:bl}{O:a7}{H:aw}{b:List Int}{v:V}(r:Rep K mg O H (.t (b.map D.int)) v):∃a,v=.ref a/\dB K H a (b.map V.int):=by
 obtain⟨a,ys,rfl,cR,g⟩:=r;have:∀(b:List Int)(ys:List V),bj K mg O H (b.map D.int) ys->ys=b.map V.int:=by
  intro b
  induction b with
  |nil=>intro ys h;exact h|cons a t c=>
   intro ys h;obtain⟨y,r,rfl,d,e⟩:=h;rw[show y=V.int a from d,c _ e];rfl
 rw[this b ys g]at cR;exact⟨a,rfl,cR⟩
def vals2{v kv:V}(h:Vals [v,kv] its):∃u a,its=[u,a]/\RelV v u/\RelV kv a:=by
 cases h with
 |cons c b=>cases b with
  |cons d e=>cases e;exact⟨_,_,rfl,c,d⟩
def IL{a:aw}{its:List Value}{v kv:V}(J:Inv X zn U a s)(h:a S=some (.l zs))(i:s.heap.get? S=some (alB "list" its.toArray su))(g:RelV v u)(m:RelV kv C) :
  Inv X zn U (upd a S (.l [v,kv])) { s with heap:=s.heap.update S (ak6 λ_=>#[u,C]) }:=by
 have j:=alM s.heap S (ak6 λ_=>#[u,C]);obtain⟨ae,c⟩:∃ae,(s.heap.update S (ak6 λ_=>#[u,C])).get? S=some (alB "list" #[u,C] ae):=⟨_,am1 i λ_=>#[u,C]⟩;refine J.write (x:=S) (e:=S) (t':=s.toks) (by rw[h];trivial) (.inl rfl) (λb o d e=>(j.2 b d).trans e) ⟨_,c⟩ ⟨by rw[ak2];simp,[u,C],ae,.cons g (.cons m .nil),c⟩
def Sq{a:aw}{its:List Value}(J:Inv X zn U a s)(g:a S=some (.l zs))(h:s.heap.get? S=some (alB "list" its.toArray C)) :
  Inv X zn U (upd a S (.l [])) { s with heap:=s.heap.update S (ak6 λ_=>#[]) }:=by
 have i:=alM s.heap S (ak6 λ_=>(#[]:Array Value));obtain⟨ae,c⟩:∃ae,(s.heap.update S (ak6 λ_=>(#[]:Array Value))).get? S=some (alB "list" #[] ae):=⟨_,am1 h λ_=>#[]⟩;refine J.write (x:=S) (e:=S) (t':=s.toks) (by rw[g];trivial) (.inl rfl) (λb o d e=>(i.2 b d).trans e) ⟨_,c⟩ ⟨alh _,[],ae,.nil,c⟩
def MN{h:Heap}(c:S≠it)(a:h.IsListIter it l j):(h.update S g).IsListIter it l j:=by
 obtain⟨e,d,b,i⟩:=a;exact⟨e,((alM h S g).2 it c.symm).trans d,b,i⟩
def LB(b:S≠it)(a:gU X zn H1 it):gU X zn (upd H1 S o) it:=⟨by rw[c5 b.symm];exact a.1,a.2⟩
def Z8{res:D}(gk:nQ X k f G mf)(aD:cE (k+1) X.A)(Mp:H S=none)(rh:S≠it)(bB:bj X.K X.mg O H ds xs)(hl:dt X.K H l xs) :
  ∀(r:List D)(j:Nat)(d:D)(h:List Int)(q:akC),ds.drop j=r->Qt X zn U G O H S it l j d h q->j<=ds.length->kg mf d h r=some res->
   ani (model X.prog X.w) X.A (.builtin "max.loop" ⟨[.ref it,.ref f,.ref S],[]⟩) (λr q=>∃u,r=.ok (.ret u)/\GA X zn U O H res u q) q:=by
 have vC:(toString "max"++toString ".loop":String)="max.loop":=by decide
 have cX:X.A.in1.handled=none:=aD.in1.hd;have ZQ:=bB.len;intro r
 induction r with
 |nil=>
  intro j d h q R B a_ a;cases a;obtain⟨aG,H1,v,kv,y,b,C,pn,e,dh,wY,Z,M,m⟩:=B.ex;obtain⟨gO,its,n,c,J⟩:=y.cb S _ e;obtain⟨u,mc,rfl,ef,Pb⟩:=vals2 c;have T:j=xs.length:=by
   have:=congrArg amn R;rw[alE,alQ]at this;omega
  refine ao3 anH ?_;rw[an5 alX _];show wpAny _ X.A.in1 (anV (.ref S) >>= _) _ _ _;refine akv (alW J rfl ?_);show wpAny _ X.A.in1 (tryCatch (anr (.ref it)) _ >>= _) _ _ _;refine akv (ane (alu (abL (E:=λ_ _=>False) y (b.same.seq hl) T M m cX) (λr s1 t=>?_) λ_ _ L=>L.elim));obtain⟨rfl,x⟩:=t;obtain⟨_,kI,fI,Y,Mh⟩:=x.cb S _ e;show wpAny _ X.A.in1 (updateSeq S (λ_=>#[]) >>= _) _ _ _;refine akv ?_;refine an6 Mh rfl (hz:=by rw[akH,<-Y.length,ak2];simp) (akv (am6 (akG ?_)));exact⟨u,rfl,aG,_,v,Sq x e Mh,⟨uu Mp b.same e _,b.own,b.bG⟩,C.eg e,dh.eg (by rw[Z];intro z;cases z) e,ef⟩
 |cons P r aO=>
  intro j d h q R B a_ a;unfold kg at a
  cases ip:ma mf P with
  |none=>rw[ip]at a;cases a
  |some eL=>
   rw[ip]at a
   replace a:(if p4 eL h=true then kg mf P eL r else kg mf d h r)=some res:=a
   obtain⟨b4,hm,aA⟩:=M5 ip;obtain⟨aG,H1,v,kv,y,b,C,pn,e,dh,wY,Z,M,m⟩:=B.ex;obtain⟨gO,its,n,c,J⟩:=y.cb S _ e;obtain⟨u,mc,rfl,ef,Pb⟩:=vals2 c;have I:ds[j]? = some P:=by
    have:=congrArg (·[0]?) R;simpa using this
   have Mc:ds.drop (j+1)=r:=by
    have:=congrArg (List.drop 1) R;simpa[aoe]using this
   have T:j+1<=ds.length:=(akw.mp I).1;obtain⟨v2,X',wX⟩:=bB.get I;refine ao3 anH ?_;rw[an5 alX _];show wpAny _ X.A.in1 (anV (.ref S) >>= _) _ _ _;refine akv (alW J rfl ?_);show wpAny _ X.A.in1 (tryCatch (anr (.ref it)) _ >>= _) _ _ _;refine akv (ane (alu (next_item (E:=λ_ _=>False) y (b.same.seq hl) X' M m cX) (λr s1 t=>?_) λ_ _ L=>L.elim));obtain⟨lB,rfl,wZ,x,Dl⟩:=t;show wpAny _ X.A.in1 (tryCatch (alU [lB] (call (.ref f) [lB])) _ >>= _) _ _ _;refine akv (ane (al5 (alu (M8 gk aD.in1 x.vd.in1 x C pn (wX.go b) wZ hm M Dl) (λPQ s3 t=>?_) λ_ _ L=>L.elim)));obtain⟨o,c_,Nf,F,g,pH,xF,Fj,Fl,yC,yW⟩:=t;have i:=g.same.at' _ _ e;have Q:o S=.dn:=(g.own S (by rw[e];intro z;cases z)).trans Z;obtain⟨_,YH,kL,p,vy⟩:=F.cb S _ i;have Ai:=O9 Fj aA;obtain⟨fE,rfl,W⟩:=O_ Ai;obtain⟨a1,rfl,V⟩:=O_ (wY.go g);cases Fl;cases Pb;obtain⟨t3,DE,wO,_⟩:=F.tuple W;obtain⟨t1,eX,p1,_⟩:=F.tuple V;show wpAny _ X.A.in1 (tryCatch (alU [lB,.ref fE] (richCompare .Gt (.ref fE) (.ref a1) >>= _)) _ >>= _) _ _ _;refine akv (ane (al5 (akv ((U_ wO p1 (intsAre_of DE) (intsAre_of eX) aD.in1.af7 ?_)))));refine akv (al5 (alG ?_));refine akv (am6 (akG ?_))
   by_cases N:p4 eL h=true
   .rw[if_pos N]at a
    simp only[N,if_true];refine akv ?_;refine an6 vy rfl (hz:=by rw[akH,<-p.length,ak2];simp) (akv (am6 ?_));rw[vC];refine akG ⟨aoB alX _,aO (j+1) P eL _ Mc ?_ T a⟩;exact⟨o,_,v2,.ref fE,IL (v:=v2) (kv:=.ref fE) F i vy wZ (show RelV (.ref fE) (.ref fE)from rfl),⟨uu Mp (b.trans g).same i _,(b.trans g).own,(b.trans g).bG⟩,pH.eg i,gk.2.1 _ _ _ _ i xF,dZ,(wX.go (b.trans g)).eg (by rw[Q];intro z;cases z) i,Ai.eg (by rw[Q];intro z;cases z) i,Q,LB rh yC,MN rh yW⟩
   .rw[if_neg N]at a
    simp only[N,if_false];refine akv (am6 ?_);rw[vC];refine akG ⟨aoB alX _,aO (j+1) d h _ Mc ?_ T a⟩;exact⟨o,c_,v,.ref a1,F,b.trans g,pH,xF,i,dh.go g,wY.go g,Q,yC,yW⟩
theorem Z7{E:dk}(J:Inv X zn U H s)(cV:di O H)(L:bj X.K X.mg O H ds xs)(hl:dt X.K H l xs)(n:nQ X k f G mf)(yG:G H)(aD:cE (k+1) X.A)(g:wq mf ds=some res) :
  wpAny (model X.prog X.w) X.A (call (.builtin "max") [.ref l] [(akT "key",.ref f)]) (GA X zn U O H res) E s:=by
 have R:(toString "max"++toString ".loop":String)="max.loop":=by decide
 have cX:X.A.in1.handled=none:=aD.in1.hd
 cases ds with
 |nil=>cases g
 |cons d ds=>
  replace g:(match ma mf d with|some k=>kg mf d k ds|none=>none)=some res:=g
  cases ip:ma mf d with
  |none=>rw[ip]at g;cases g
  |some eL=>
   rw[ip]at g;obtain⟨b4,av,aA⟩:=M5 ip;obtain⟨us,bT,pl,_⟩:=J.list hl;have XM:s.heap.IsList l us.toArray:=pl.isList;refine kmk_tree PySem.F.kind_max PySem.F.plain_max PySem.F.entry_max (kmk_max_key _ _) ?_;show wpAny _ X.A.in1 (aos "max" ["key","default"] 0 ⟨[],[(akT "key",.ref f)]⟩ >>= _) _ _ s;refine akv (wpAny_of_eq (show aos "max" ["key","default"] 0 ⟨[],[(akT "key",.ref f)]⟩=pure [some (.ref f),none]from rfl) ?_);refine akv (akG ?_);refine akv (amG XM ?_);refine akv (wpAny_newList ?_ (alh _));rw[R];have M:Inv X zn U H { s with heap:=s.heap.push { cls:=.type "list_iterator",data:=.fields #[.ref l,.int 0 0] } }:=J.kept (t':=s.toks) λb o e=>aky _ e
   have jF:(s.heap.push { cls:=.type "list_iterator",data:=.fields #[.ref l,.int 0 0] }).get? s.heap.objs.size=some { cls:=.type "list_iterator",data:=.fields #[.ref l,.int 0 0] }:=akK _ rfl;have gO:(s.heap.push { cls:=.type "list_iterator",data:=.fields #[.ref l,.int 0 0] }).objs.size=s.heap.objs.size+1:=size_push' ..;generalize ajH:s.heap.push { cls:=.type "list_iterator",data:=.fields #[.ref l,.int 0 0] }=C at *;have q:H C.objs.size=none:=M.cb.fresh (akE _);have p:C.objs.size≠s.heap.objs.size:=by rw[gO];omega
   have b7:Inv X zn U (upd H C.objs.size (.l [])) { s with heap:=C.push (alB "list" #[] 0) }:=
    M.laid (t':=s.toks) (λb o e=>aky _ e) (akE _) ⟨alh _,[],0,.nil,akK _ rfl⟩
   have I:gU X zn (upd H C.objs.size (.l [])) s.heap.objs.size:=J.q_ (akE _) (by rw[c5 p.symm];exact J.cb.fresh (akE _));have t:(C.push (alB "list" #[] 0)).IsListIter s.heap.objs.size l 0:=⟨_,aky _ jF,rfl,rfl⟩;have a:Go O (fV O C.objs.size .dn) H (upd H C.objs.size (.l [])):=Go.new q;have TJ:di (fV O C.objs.size .dn) (upd H C.objs.size (.l [])):=cV.new q;have tW:fV O C.objs.size .dn C.objs.size=.dn:=lC;have D:upd H C.objs.size (.l []) C.objs.size=some (.l []):=dZ;have iR:(C.push (alB "list" #[] 0)).get? C.objs.size=some (alB "list" #[] 0):=akK _ rfl;refine akG ⟨aoB alX _,?_⟩;generalize C.push (alB "list" #[] 0)=ah at *;generalize C.objs.size=S at *;generalize s.heap.objs.size=it at *;generalize fV O S .dn=bq at *;generalize upd H S (.l [])=aK at *;obtain⟨v,bV,dh⟩:=L.get (i:=0) (d:=d) rfl;refine ao3 anH ?_;rw[an5 alX _];show wpAny _ X.A.in1 (anV (.ref S) >>= _) _ _ _;refine akv (alW iR rfl ?_);show wpAny _ X.A.in1 (tryCatch (anr (.ref it)) _ >>= _) _ _ _;refine akv (ane (alu (next_item (E:=λ_ _=>False) b7 (a.same.seq hl) bV I t cX) (λr s1 c=>?_) λ_ _ x=>x.elim));obtain⟨y,rfl,V,N,Y⟩:=c;show wpAny _ X.A.in1 (tryCatch (alU [y] (call (.ref f) [y])) _ >>= _) _ _ _;refine akv (ane (al5 (alu (M8 n aD.in1 N.vd.in1 N TJ (n.1 _ _ a.same yG) (dh.go a) V av I Y) (λPQ s3 c=>?_) λ_ _ x=>x.elim)));obtain⟨P,c_,Nf,Q,m,pH,xF,Z,Fl,yC,yW⟩:=c;have h:=m.same.at' _ _ D;have B:P S=.dn:=(m.own S (by rw[D];intro z;cases z)).trans tW;obtain⟨_,YH,kL,j,T⟩:=Q.cb S _ h;have W:=O9 Z aA;show wpAny _ X.A.in1 (updateSeq S (λ_=>#[y,PQ]) >>= _) _ _ _;refine akv ?_;refine an6 T rfl (hz:=by rw[akH,<-j.length,ak2];simp) ?_;rw[R];refine akG ⟨aoB alX _,anb (Z8 (zn:=zn) (U:=U) n aD q p L hl ds 1 d eL _ rfl ?_ (by simp) g) λr aZ c=>?_⟩
   .exact⟨P,_,v,Nf,IL Q h T V Fl,⟨uu q (a.trans m).same h _,(a.trans m).own,(a.trans m).bG⟩,pH.eg h,n.2.1 _ _ _ _ h xF,dZ,(dh.go (a.trans m)).eg (by rw[B];intro z;cases z) h,W.eg (by rw[B];intro z;cases z) h,B,LB p yC,MN p yW⟩
   .obtain⟨u,rfl,c⟩:=c
    exact c
end
section
variable{X:aV}{k:Nat}{e:Expr}{cQ:bw}{p pos kp:Pos}{jb:Expr}{mf:bp}{G:Addr->aw->Prop}
def Tc(F:d6 X "max")(hm:X.mg "max"=none)(aD:cE (k+1) X.A)(P:hp X e cQ)
  (eh:∀(zn:c3)(s:akC)(U:aC.St)(O:a7)(H:aw),Inv X zn U H s->di O H->
   wpAny (model X.prog X.w) X.A (eval jb X.env) (λu I=>∃(f:Addr)(H':aw)(G:aw->Prop),u=.ref f/\Inv X zn U H' I/\Go O O H H'/\di O H'/\G H'/\nQ X k f G mf) X.dN s)
  (he:ak3 pos (akx [e] X.env)=(false,eval e X.env)::ak3 pos (akx [] X.env):=by rfl)
  (ay:akx [e] X.env=(false,eval e X.env)::akx [] X.env:=by rfl)
  (hV:(ak3 pos (akx [e] X.env)).any (·.1)=false:=by rfl) :
  hp X (.Call (.Name "max" p) [e] [⟨some (akT "key"),jb,kp⟩] pos) (yf mf cQ):=by
 rintro zn s U H Q J ⟨O,B,S,r,N,st,h,q⟩;obtain⟨x,S1,L,h⟩:=M.inv h;obtain⟨ds,res,oc,E,la,rfl,rfl⟩:∃ds res,x.ft=some ds/\wq mf ds=some res/\ds.length<64/\r=.v res/\S1=N:=by
  unfold yx at h;split at h
  .rename_i ds au
   split at h
   .rename_i res aF
    by_cases c:ds.length<64
    .rw[if_pos c]at h
     cases h;exact⟨ds,res,au,aF,c,rfl,rfl⟩
    .rw[if_neg c]at h;cases h
   .cases h
  .cases h
 refine alS (ny J F hm SR ?_);refine callWith_kw ?_ he hV rfl rfl;refine bX ((wR P Ab ay) pos zn s U H (λvs b=>∃v a,vs=[v]/\Go O a H b/\cI X.K X.mg a B S1 U b/\et X.K X.mg a b x v) J ⟨O,B,S,x,S1,st,L,λa v b t d n nn=>⟨v,a,rfl,t,d,n⟩⟩) λus s1 i=>?_
 obtain⟨vs,b,Z,W,v,a,ev,t,d,n⟩:=i;subst ev;obtain⟨l,ys,rfl,hl,Y⟩:=R.ou n oc;obtain⟨u,rfl,ef⟩:=vals1 W;cases ef;refine wpAny_evalAll_cons (akv (bX (eh zn s1 U a b Z d.cu) λu s2 T=>akv (anI (akG ?_))));obtain⟨f,aK,G,rfl,V,g,o,D,gk⟩:=T;refine wpAny_evalAll_nil ?_;show wpAny _ _ (call (.builtin "max") [.ref l] [(akT "key",.ref f)]) _ _ _;refine bX (Z7 V o (Y.go g) (g.same.seq hl) gk D aD E) λu s3 i=>?_
 obtain⟨e5,y,v,C,z,pH,j,m⟩:=i;exact⟨v,y,C,m,q e5 _ y (t.trans (g.trans z)) (d.go (g.trans z) pH) j trivial⟩
def Td{c P:Addr}{q p1:Str}{params:ant}{body:Expr}{scope:Scope}{x:Pos}{N:List Str}{m:bw}(h:d6 X "max")(t:X.mg "max"=none)(aD:cE (k+3) X.A)(L:pv X.K c P q)(B:kq X.base X.mg)(F:X.env.code=.ref c)
  (g:X.env.qual++akT "<lambda>"=q) (d:gT N [p1] scope)
  (y:∀(c:Addr)(b a u:Value),amN (W.kla_fn (akT "<lambda>") q params body scope [] b (.ref c) a) ⟨[u],[]⟩=pure [(p1,u)])
  (i:∀(f c:Addr)(A:ak4)(s:akC)(H:aw),cE k (A.deeper (anc q scope s.heap.objs.size f (.ref c)))->hp (gX eA X.prog X.w X.K X.mg X.base N q scope f (.ref c) A X.stack s H i0).gB body m)
  (j:hp X e cQ) (I:aoK params X.env=([],[]):=by rfl) (E:am0 scope X.env=pure []:=by rfl)
  (he:ak3 pos (akx [e] X.env)=(false,eval e X.env)::ak3 pos (akx [] X.env):=by rfl)
  (ay:akx [e] X.env=(false,eval e X.env)::akx [] X.env:=by rfl)
  (r:(ak3 pos (akx [e] X.env)).any (·.1)=false:=by rfl) :
  hp X (.Call (.Name "max" p) [e] [⟨some (akT "key"),.Lambda params body scope x,kp⟩] pos) (yf (fnOf 1 N.length (aY m)) cQ):=
 Tc (k:=k+1) h t (aD.mono (by omega)) j (λzn s U O H J l=>bX (Nk J l L B F g I E) λu M ⟨f,c',b,a,H',D,n,g',d',z⟩=>
  ⟨f,H',_,D,n,g',d',z,Nl d (y c' b a) (i f c')⟩) he ay r
end
end aE
namespace aE
open PySem PySem.Spec aC PyProof.Rows
variable[aC.a4]
section
variable{X:aV}{scope esc:Scope}{EN N:List Str}{cap:List Nat}{elt a fi:Expr}{ifs:List Expr}{pos fu p dJ p1 cD:Pos}{x y:Str}{t:aJ->M Bool}{el:bw}{ms:c6}{k:Nat}
def ags(S:k1 esc scope EN N 2 cap)(c:d6 X "zip")(l:X.mg "zip"=none)(f:gx X [a,fi] ms)(e:N[0]? = some x)(d:N[1]? = some y)
  (m:∀C b s H,Loc (cL X scope N C b s H).env.scope x/\(cL X scope N C b s H).env.scope.names.lookup x=some .local) (r:∀C b s H,Loc (cL X scope N C b s H).env.scope y/\(cL X scope N C b s H).env.scope.names.lookup y=some .local)
  (g:∀C b s H,qN (cL X scope N C b s H) ifs t) (h:∀C b s H,bc (cL X scope N C b s H) elt el)
  (he:X.env.scope=esc:=by rfl) (hN:X.N=EN:=by rfl) (j:X.calm=true:=by rfl) (ay:∀x,alz (.Call (.Name "zip" p) [a,fi] [] dJ) X.env x=pure x:=by intro _;rfl)
  (q:akx [a,fi] X.env=[(false,eval a X.env),(false,eval fi X.env)]:=by rfl) (i:akx [fi] X.env=[(false,eval fi X.env)]:=by rfl)
  (n:∀C b s H,(alw [.Name x p1,.Name y cD] (cL X scope N C b s H).env).length=2/\(alw [.Name x p1,.Name y cD] (cL X scope N C b s H).env).findIdx? (·.1)=none/\
   (alw [.Name x p1,.Name y cD] (cL X scope N C b s H).env).map (·.2)=amY (.Name x p1) (cL X scope N C b s H).env::(alw [.Name y cD] (cL X scope N C b s H).env).map (·.2)/\
   (alw [.Name y cD] (cL X scope N C b s H).env).map (·.2)=amY (.Name y cD) (cL X scope N C b s H).env::(alw [] (cL X scope N C b s H).env).map (·.2):=by intros;exact⟨rfl,rfl,rfl,rfl⟩) :
  bc X (.ListComp elt [⟨.Tuple [.Name x p1,.Name y cD] k fu,.Call (.Name "zip" p) [a,fi] [] dJ,ifs,0⟩] scope pos) (u2 cap ms t el):=
 ⟨Tb S c l f.un e d m r (λC b s H=>(g C b s H).un) (λC b s H=>(h C b s H).un) he hN j ay q i n⟩
end
section
variable{X:aV}{k:Nat}{e:Expr}{cQ:bw}{p pos kp:Pos}
def agw{c P:Addr}{q p1:Str}{params:ant}{body:Expr}{scope:Scope}{n:Pos}{N:List Str}{m:bw}(d:d6 X "max")(l:X.mg "max"=none)(aD:cE (k+3) X.A)(L:pv X.K c P q)(B:kq X.base X.mg)(x:X.env.code=.ref c)
  (b:X.env.qual++akT "<lambda>"=q) (a:gT N [p1] scope)
  (r:∀(c:Addr)(z i u:Value),amN (W.kla_fn (akT "<lambda>") q params body scope [] z (.ref c) i) ⟨[u],[]⟩=pure [(p1,u)])
  (g:∀(f c:Addr)(A:ak4)(s:akC)(H:aw),cE k (A.deeper (anc q scope s.heap.objs.size f (.ref c)))->bc (gX eA X.prog X.w X.K X.mg X.base N q scope f (.ref c) A X.stack s H i0).gB body m)
  (h:bc X e cQ) (y:aoK params X.env=([],[]):=by rfl) (t:am0 scope X.env=pure []:=by rfl)
  (he:ak3 pos (akx [e] X.env)=(false,eval e X.env)::ak3 pos (akx [] X.env):=by rfl)
  (ay:akx [e] X.env=(false,eval e X.env)::akx [] X.env:=by rfl)
  (j:(ak3 pos (akx [e] X.env)).any (·.1)=false:=by rfl) :
  bc X (.Call (.Name "max" p) [e] [⟨some (akT "key"),.Lambda params body scope n,kp⟩] pos) (yf (fnOf 1 N.length (aY m)) cQ):=
 ⟨Td d l aD L B x b a r (λf c A s H aD=>(g f c A s H aD).un) h.un y t he ay j⟩
end
omit [aC.a4]in
section
open c1
variable{prog:akZ}{w:World}{A:ak4}{E:dk}{s:akC}
omit [aC.a4]in
theorem UQ{t ba:Addr}{a:Array Value}{c d:Value}{lo hi:Option Int}{Q:dk}(b:IsTup s.heap t a)(ay:s.heap.IsSliceOf ba c d .none)(pl:anB c lo)(f:anB d hi)
  (hw:cv a.size 0 lo=0/\cv a.size a.size hi=a.size)
  (h:Q (.ref t) s):wpAny (model prog w) A (anR (.ref t) (.ref ba)) Q E s:=by
 obtain⟨os,g,i,j⟩:=id ay;have e:s.TypeIs (.ref ba) "slice":=⟨os,g,i⟩;unfold anR
 try with_reducible refine al5 ?_
 first|refine akv (akG ?_)|skip
 refine akv (wpAny_sequenceKey b.typeIs (by decide) ?_);refine akv (al9 (name:=akT "__getitem__") b.typeIs alH
  (amO alH b.typeIs entry_tuple_getitem ?_ (args_tuple_getitem _ _)))
 show wpAny _ _ (aow (.ref t) >>= _) _ _ s;refine akv (tupleItemsOf_ b ?_);refine akv (wpAny_typeOf e ?_);rw[if_pos (by decide)];refine akv (Pn ay pl f ?_);rw[hw.1,hw.2];show wpAny _ _ (if((((0:Nat):Int))==0&&(1:Int)==1&&(a.size-0)==a.size)=true then _ else _) _ _ s;rw[if_pos (by simp)];refine akv (m:=Builtin.Tuple.tupleIsExact _) (akv (wpAny_typeOf b.typeIs (akG ?_)));rw[if_pos (by decide)];refine akv (aoJ ?_)
 first
  |exact akv (akG (akG ⟨_,rfl,akG h⟩))
  |exact akv (akG ⟨_,rfl,akG h⟩)
  |exact akG ⟨_,rfl,akG h⟩
omit [aC.a4]in
omit [aC.a4]in
omit [aC.a4]in
end
def aef(K:aM):V->Option Int->Option Int->aw->cU->Prop:=λx lo hi H Q=>∃a xs,x=.ref a/\dB K H a xs/\(c1.cv xs.length 0 lo=0/\c1.cv xs.length xs.length hi=xs.length)/\Q (.ref a) H
omit [aC.a4]in
theorem aeO:nU X (aef X.K):=by
 intro zn s U H x v g i lo hi ba Q J d ay pl f h;obtain⟨a,xs,rfl,e,hw,q⟩:=h;cases d;obtain⟨its,r,c,hz⟩:=J.tuple e;have b:its.toArray.size=xs.length:=by rw[akH];exact r.length.symm
 refine⟨"tuple",_,alH.lookup,c.typeIs,?_⟩;exact UQ c ay pl f (by rw[b];exact hw) ⟨.ref a,H,J,rfl,q⟩
def EL(x:R)(lo hi:Option Int):M R:=
 match x with
 |.v (.t xs)=>pure (.v (.t (cutD xs lo hi)))|_=>bad
@[simp] def B7(a:bw)(lo hi:lK)(U:aJ):M R:=do
 let x <-a U
 let l <-lo U
 let h <-hi U
 EL x l h
def Tt{α:Type}{xs:List α}{lo hi:Option Int}(h:c1.cv xs.length 0 lo=0/\c1.cv xs.length xs.length hi=xs.length):cutD xs lo hi=xs:=by
 unfold cutD;rw[h.1,h.2,aoh,Nat.sub_zero,alV (akE _)]
section
variable{X:aV}{e st:Expr}{m:bw}{lo hi:Option Expr}{lq qb:lK}{pos cD p:Pos}
theorem agE(he:bc X e m)(hl:pB X lo lq)(K:pB X hi qb):bc X (.Subscript e (.Slice lo hi none cD) pos) (B7 m lq qb):=⟨ee (E1 (aeO.or Pm) he.un hl.un K.un) λV H Q D=>by
 obtain⟨O,U,S,r,T,st,h,q⟩:=D;obtain⟨x,S1,E,k⟩:=M.inv h;clear h;obtain⟨l,i,F,j⟩:=M.inv k;clear k;obtain⟨u,N,G,h⟩:=M.inv j;clear j;refine⟨O,U,S,x,S1,st,E,λA Y P L B z bu=>?_⟩;refine⟨A,U,S1,l,i,B,F,λI R s bK=>?_⟩;refine⟨I,U,i,u,N,bK,G,λn W t w=>?_⟩;have g:=(L.trans s).trans t;have y:=z.go (s.trans t);unfold EL at h;split at h
 .rename_i xs
  cases h;obtain⟨a,ys,rfl,f,b⟩:=y
  by_cases c:c1.cv xs.length 0 l=0/\c1.cv xs.length xs.length u=xs.length
  .refine .inl ⟨a,ys,rfl,f,by rw[b.len];exact c,?_⟩
   rw[Tt c]at q;exact q n _ _ g w ⟨a,ys,rfl,f,b⟩ trivial
  .exact .inr ⟨a,ys,rfl,f,by rw[b.len];exact c,λp d=>q n _ _ (g.trans (Go.hh d)) (w.hh d) ⟨p,_,rfl,dB.of dZ,(b.cut l u).go (Go.hh d)⟩ trivial⟩
 .cases h⟩
end
omit [aC.a4]in
@[simp] theorem ajj{l h:Option Int}:EL (.v (.t xs)) l h=pure (.v (.t (cutD xs l h))):=rfl
end aE
namespace aE
open PySem PySem.Spec aC
def uB(m:d1):aJ->N Bool:=λU=>do
 let r <-m U
 r.oX.up
def uA(a:aJ->N Bool):aJ->N Bool:=λU=>do
 let t <-a U
 pure (!t)
variable[aC.a4]
section
variable{X:aV}{o e f value a b:Expr}{az:List Expr}{c:Str}{ns:List Str}{mo:bw}{ms:c6}{mv qz:d1}{bW:aJ->N Bool}{pos pos' apos dJ:Pos}{g:List D->List R->M (R×List D)}{r:V->List V->aw->cU->Prop}{name:Str}{id:String}
theorem Qk(T:mM X.K X.mg c ns){f:Str}(hf:f∈ns)(G:bc X o mo)(V:eH X value mv)(ay:amj value (some (.Attribute o f pos')) pos.line X.env=pure false:=by rfl):gh X (.Assign [.Attribute o f pos'] value pos) (dP c f mo mv):=⟨hk (adP G.un V.un ay) λD R H M=>by
 obtain⟨O,U,S,aQ,ao,st,h,q⟩:=M;obtain⟨r,S1,P,t⟩:=N.inv h;clear h;obtain⟨d,a5,Q,s⟩:=N.inv t;clear t;obtain⟨x,hM,u,B⟩:=N.inv s;clear s;obtain⟨bb,sj,w,h⟩:=N.inv B;clear B;refine⟨O,U,S,r,S1,st,P,λL v H1 Z p Y nn=>?_⟩;obtain⟨dh,rfl⟩:=qY (H₀:=H) Y nn Q;obtain rfl:=(mo U).fb _ _ _ u;refine⟨cM H L,U,_,x,_,(p.cM H).s3,u,λW fW aK j bK I bu=>?_⟩;have E:=(p.cM H).go j bK.cu;obtain⟨n,b,rfl,rfl,aA,sn,J⟩:=wJ bK I w;obtain rfl:=(hG (.v (.ref n))).fb _ _ _ w;split at h
 .rename_i c' aW
  split at h
  .rename_i yR
   obtain⟨rfl,F⟩:=yR;cases h;obtain⟨C,i,l,A,y,m⟩:=J;obtain⟨k0,au,aF,_,eJ⟩:=T.ex;cases au.symm.trans y.1;refine⟨b,C,i,l,rfl,A,aF,eJ f hf,by rw[m.len];exact F,?_⟩;obtain⟨o3,o4⟩:=E.write (u':=.ins C i (h6 f v l)) (o:=.bb c' (h5 f d aW)) aA A (by rintro(⟨_,z⟩|⟨_,_,z⟩)<;>cases z) (by intro _ z;cases z) (by intro _ z;cases z) λk=>
    ⟨C,i,_,dZ,y,(OL (f:=f) (v:=v) l).symm▸fx.h5 f (k _ _ (Rep.go j dh)) ⟨m.1,m.2.imp k⟩⟩
   exact q W R _ ((Z.cM.trans j.dK).trans o3).d8 o4
  .cases h
 .cases h⟩
theorem Ql(slot:PySem.Slot "list" name id)(oe:typeOf (.builtin id)=pure (.type "method_descriptor"))(Z:uL X id r)(Y:r9 X.K X.mg r g)(F:bc X o mo)(i:gx X (e::az) ms)
  (C:amg o name X.env (eval o X.env)=eval o X.env:=by rfl)
  (rn:((ak3 dJ (akx (e::az) X.env)).all (λx=>!x.1)&&(amh dJ (alK [] X.env)).all (λx=>x.1.isSome)
&&decide ((e::az).length+([]:List anz).length+(if([]:List anz).isEmpty then 0 else 1)<30))=true:=by rfl)
  (J:(apos.endLine==dJ.line)=true:=by rfl) (ay:akx (e::az) X.env=(false,eval e X.env)::akx az X.env:=by rfl) (W:(ak3 dJ (akx az X.env)).any (·.1)=false:=by rfl)
  (l8:amj (.Call (.Attribute o name apos) (e::az) [] dJ) none pos.line X.env=pure false:=by rfl):gh X (.Expr (.Call (.Attribute o name apos) (e::az) [] dJ) pos) (kX g mo ms):=
 ⟨hk (E3 (EZ aoY slot oe Z F.un i.un C rn J ay W) l8) λD P H M=>by
  obtain⟨O,U,S,aQ,ao,st,h,q⟩:=M;obtain⟨x,S1,t,i⟩:=N.inv h;clear h;obtain⟨rs,a5,u,s⟩:=N.inv i;clear i;obtain⟨bb,sj,y,h⟩:=N.inv s;clear s;obtain rfl:=(mo U).fb _ _ _ t;obtain rfl:=(ms U).fb _ _ _ u;refine⟨O,U,_,x,_,st.s3,t,λI fW j B p G bu=>?_⟩;obtain⟨n,b,rfl,rfl,aA,sn,V⟩:=wJ p G y;obtain rfl:=(hG (.v (.ref n))).fb _ _ _ y;split at h
  .rename_i xs
   obtain⟨⟨b1,ys⟩,uQ,T,h⟩:=N.inv h;cases h;obtain⟨zs,A,Q⟩:=V;refine⟨.inl ⟨rfl,_,dt.of A⟩,I,U,_,rs,_,p,u,λw vs L d bK R nn=>?_⟩;have y1:w.bG[n]? = some b:=by rw[d.bG];exact aA
   have m:=d.same.at' _ _ A;refine Y w L j b xs zs rs vs _ _ _ ys _ m (Q.go d) R nn T λv ws az rw _=>?_
   subst az;have E:=(st.go (B.trans d) bK.cu).cM j;obtain⟨o3,o4⟩:=E.write (u':=.l ws) (o:=.l ys) y1 m (by rintro(⟨_,z⟩|⟨_,_,z⟩)<;>cases z) (by intro _ z;cases z) (by intro _ z;cases z) λk=>⟨_,dZ,rw.imp k⟩
   exact q _ P _ ((B.trans d.cM).dK.trans o3).d8 o4
  .cases h⟩
theorem ahF(l:eH X a qz)(he:∀d,isTrue a X.env d=(do let v <-d;amB a.pos;alU [v] (truthy v)):=by intro _;rfl):mW X a (uB qz):=⟨rU (OK l.un he) λs H Q i=>by
 obtain⟨O,U,S,t,p,st,h,q⟩:=i;obtain⟨x,S1,j,h⟩:=N.inv h;obtain⟨rfl,rfl⟩:=uk h;exact⟨O,U,S,_,_,st,j,λk v H' g n m _=>⟨t,m,q k H' g n⟩⟩⟩
theorem ahD(m:mW X a bW):mW X (.UnaryOp .Not a pos) (uA bW):=⟨rU (OJ m.un) λs H Q k=>by
 obtain⟨O,U,S,r,p,st,h,q⟩:=k;obtain⟨t,S1,l,h⟩:=N.inv h;cases h;exact⟨O,U,S,t,_,st,l,λi d n j=>q i d n j⟩⟩
end
def Zp{P:akZ}{w:World}{K:aM}{mg:bl}{base:Heap}{f:Addr}{c:alI}{k:Nat}{mf:dX}(F:e3 P w K mg base eA k f c ["script"] (hJ K mg mf))
  (h:∀ns:List Int,ns.length<=63->∃b,(mf [.l (ns.map D.int)]).run []=.ok (.v (.ax true)) b):e3 P w K mg base eA k f c ["script"] (w9 K):=by
 refine F.imp λvs H Q E d=>?_
 obtain⟨a,ns,e,j,aA,cC,q⟩:=d;subst e;obtain⟨b,h'⟩:=h ns aA;refine⟨⟨λ_=>.free,[]⟩,[.l (ns.map D.int)],_,[],b,⟨λa g=>absurd rfl g,cC,aoj,λa m=>by cases m⟩,f3.nil,rfl,⟨_,_,rfl,⟨a,_,rfl,j.imp (λz=>⟨z,by simp⟩) id,O7 ns⟩,rfl⟩,h',λn v H' _ _ _ _ i _=>?_⟩;cases(show v=.ax true from i);exact q H'
end aE
namespace aE
open PySem PySem.Spec aC
variable[aC.a4]
section
variable{K:aM}{mg:bl}{O:a7}{H H':aw}{S:bH}{U:aJ}{ar:St}{p:Addr}{o:fZ}
def dA.adopt(st:dA K mg O U S ar H)(B:p∉O.bG)(nl:∀i,O p≠.loc i)(same:∀b,b≠p->H' b=H b)(F:H' p≠none)(kp:H' p=H p\/∀u,H p=some u->¬Fix u/\∀ys,u≠.l ys)(k:O p=.free\/O p=.out->∀u,H p=some u->(∀ys,u≠.l ys)/\¬Fix u)(b3:TabsOk H->TabsOk H')
  (bb:(∀d v,Rep K mg O H d v->Rep K mg (hj O p) H' d v)->nR K mg (hj O p) H' p o):dA K mg (hj O p) U (S++[o]) ar H'/\(hj O p).bG[S.length]? = some p:=by
 have j:=st.s3.cu;have aD:(hj O p).bG[S.length]? = some p:=by show(O.bG++[p])[S.length]? = _;rw[<-st.full,akX (akE _),amR];rfl
 have j9:fe O (hj O p) H H':=⟨λb u e h _=>by
  by_cases c:b=p
  .subst c
   rcases kp with kp|kp
   .rw[kp];exact e
   .obtain⟨ej,d2⟩:=kp u e
    exact h.elim (λz=>absurd z.2.2.choose_spec (d2 _)) λz=>absurd z ej
  .rw[same b c];exact e,λb ys e f=>by
   rw[oE (by rintro rfl;exact(k (.inl f) _ e).1 ys rfl)];exact f,anu _ _⟩
 have f:∀d v,Rep K mg O H d v->Rep K mg (hj O p) H' d v:=λ_ _ z=>Rep.j9 j9 j.cc z
 have dh:∀{b:Addr}{a:List V},hs H b (.l a)->(O b=.free\/O b=.out)->b≠p:=λ{b a} h A=>by
  rintro rfl;rcases h with h|⟨x,h⟩
  .exact(k A _ h).1 a rfl
  .exact(k A _ h).2 (.inr ⟨_,_,rfl⟩)
 have D:∀{b:Addr}{a:List V},b≠p->hs H b (.l a)->hs H' b (.l a):=λ{b a} nb h=>by unfold hs;rw[same b nb];exact h
 refine⟨⟨⟨⟨λb y=>?_,b3 j.tabs,NY j B⟩,st.s3.len,λi s e=>?_,λn G e=>?_⟩,?_,λi t e=>?_⟩,aD⟩
 .by_cases c:b=p
  .rw[c];exact F
  .rw[oE c]at y;rw[same b c];exact j.has b y
 .have lo:=st.s3.loc i s e
  cases s with
  |e=>exact trivial|v d=>obtain⟨v,q,r⟩:=lo;exact⟨v,q,f _ _ r⟩
  |d9 I t=>
         obtain⟨b,a,q,E,g,r⟩:=lo;have nb:b≠p:=by rintro rfl;exact nl i E
         exact⟨b,a,q,(oE nb).trans E,by rw[same b nb];exact g,r.imp f⟩
  |bU t=>obtain⟨b,a,q,g,r⟩:=lo;exact⟨b,a,q,g.imp (λz=>⟨D (dh z.1 z.2) z.1,by rw[oE (dh z.1 z.2)];exact z.2⟩) id,r.imp f⟩
 .by_cases aA:n<S.length
  .rw[akV aA]at e
   obtain⟨b,au,aF⟩:=st.s3.gD n G e;have nb:b≠p:=by rintro rfl;exact B (ak7 au)
   exact⟨b,by show(O.bG++[p])[n]? = _;rw[akV (by rw[st.full];exact aA)];exact au,aF.all f λ_ l _=>by rw[same b nb];exact l⟩
  .rw[akX (by omega)]at e
   obtain rfl:n=S.length:=by
    have:=(akw.mp e).1;simp at this;omega
   rw[amR]at e;cases e;exact⟨p,aD,bb f⟩
 .show(O.bG++[p]).length=_
  rw[akB,akB,st.full];rfl
 .obtain⟨b,a,q,g,r⟩:=st.qs i t e
  exact⟨b,a,q,g.imp (λz=>⟨D (dh z.1 z.2.1) z.1,by rw[oE (dh z.1 z.2.1)];exact z.2.1,λm=>(alp.mp m).elim z.2.2 λw=>dh z.1 z.2.1 (akY.mp w)⟩) id,r.imp f⟩
theorem dz.adopt{d:a7}{H₀:aw}(g:dz d O H₀ H)(c:H₀ p=none)(same:∀b,b≠p->H' b=H b)(b3:TabsOk H->TabsOk H'):dz d (hj O p) H₀ H':=by
 have nb:∀{b:Addr},H₀ b≠none->b≠p:=λh=>by rintro rfl;exact h c
 exact⟨λb o e h n=>by rw[same b (nb (h8 e))];exact g.cells b o e h n,λb a=>(oE (nb a)).trans (g.own b a),λb a=>by rw[same b (nb a)];exact g.has b a,
  λb ps e=>by rw[same b (nb (h8 e))];exact g.cC b ps e,λt=>b3 (g.b3 t),g.bG.trans (anu _ _),λb m=>(alp.mp m).elim (g.new b) λz=>.inr (by rw[akY.mp z];exact c)⟩
end
section
variable{X:aV}{e:Expr}{m:d1}
def ahn(he:eH X e m):eH X e (jU m):=⟨ee he.un λD H Q g=>by
 obtain⟨O,U,S,r,B,st,h,q⟩:=g;obtain⟨x,S1,j,b⟩:=N.inv h;clear h;refine⟨O,U,S,x,S1,st,j,λA v c u d s nn=>?_⟩;split at b
 .rename_i xs
  obtain⟨E,y,k,h⟩:=N.inv b;clear b;cases k;cases h;obtain⟨a,ys,rfl,l,t,n⟩:=s;obtain⟨w,aD⟩:=d.adopt (H':=c) (p:=a) (o:=.l xs) (d.s3.cu.cc.no t (by intro z;cases z)) (λi z=>by rw[t]at z;cases z) (λ_ _=>rfl) (h8 l) (.inl rfl) (λz=>by rw[t]at z;rcases z with z|z<;>cases z) id λf=>⟨ys,l,n.imp f⟩
  exact q _ _ c (u.adopt (nn a rfl) (λ_ _=>rfl) id) w ⟨a,rfl,aD⟩ trivial
 .cases b⟩
end
structure A9(K:aM)(x qual:Str)(st:Stmt)(f:Addr)(fd:alI):Prop where
 ex:∃(cw:Value)(dc:Option Addr)(qX du doc pm:Value)(an:Option Addr)(bN cy:Value)(f':Array (Option Value)),
  fd=amv x qual (iM st) (fF st) (dg st) qX du doc pm an bN cy/\K.lookup f=some ⟨cw,dc,.func fd,f'⟩/\aod K bN qual=true
 kp:amx K (.ref f)=true
def A9.ok{P:akZ}{w:World}{K:aM}{mg:bl}{base:Heap}{x qual:Str}{st:Stmt}{f:Addr}{b:alI}{N ps:List Str}{k:Nat}{sp:ei}(F:A9 K x qual st f b)(S:gT N ps (dg st))(len:∀vs H Q E,sp vs H Q E->vs.length=ps.length)
  (i:∀(a:Value)(A:ak4)(outer:List Env)(s:akC)(H:aw)(vs:List V)(Q:cU)(E:gy),cE k (A.deeper (alF qual (dg st) s.heap.objs.size f a))->sp vs H Q E->
   ∃t,ic (gX eA P w K mg base N qual (dg st) f a A outer s H E).gB (fF st) t/\t { bu:=λ_ H'=>Q .aI H',cx:=Q } (start N vs) H):e3 P w K mg base eA (k+1) f b ps sp:=by
 obtain⟨cw,l,p,du,c,n,j,a,cy,m,rfl,g,d⟩:=F.ex;refine CP g d S len λA outer s H vs Q E aD e=>?_
 obtain⟨t,h,q⟩:=i a A outer s H vs Q E aD e;exact⟨t,h.gB,q⟩
structure A8(K:aM)(mg:bl)(c m qual:Str)(st:Stmt)(ps:List Str):Prop where
 ex:∃C f fd,mg c=some (.ref C)/\iZ K C/\Meth K C m f/\A9 K m qual st f fd/\Binds K fd ps []/\Binds K fd ps [.none]
structure A_(P:akZ)(w:World)(K:aM)(mg:bl)(base:Heap)(c m:Str)(ps:List Str)(k:Nat)(sp:ei):Prop where
 all:kr P w K mg base c m ps k sp
 ex:∃C f fd,mg c=some (.ref C)/\iZ K C/\Meth K C m f/\e3 P w K mg base eA k f fd ps sp/\Binds K fd ps [.none]
def Vr{P:akZ}{w:World}{K:aM}{mg:bl}{base:Heap}{c m qual:Str}{st:Stmt}{ps N:List Str}{k:Nat}{d:b2}{n nl:Nat}(gR:A8 K mg c m qual st ps)(i:gT N ps (dg st))(aA:ps.length=n)(hl:N.length=nl)
  (j:∀(f:Addr)(a:Value)(A:ak4)(outer:List Env)(s:akC)(H:aw)(E:gy),cE k (A.deeper (alF qual (dg st) s.heap.objs.size f a))->
   ih (gX eA P w K mg base N qual (dg st) f a A outer s H E).gB (fF st) d):A_ P w K mg base c m ps (k+1) (hJ K mg (fnX n nl d)):=by
 obtain⟨C,f,g,e,cl,me,F,t,b⟩:=gR.ex;subst aA hl;have ok:=F.ok (P:=P) (w:=w) (mg:=mg) (base:=base) (sp:=hJ K mg (fnX ps.length N.length d)) i (λvs H Q E ⟨O,ds,r,S,x,y,dT,u,l,h,q⟩=>l.r.len.trans (CM h)) λa A outer s H vs Q E aD p=>⟨_,(j f a A outer s H E aD).un,IV p⟩
 exact⟨⟨C,f,g,e,cl,me,ok,t⟩,⟨C,f,g,e,cl,me,ok,b⟩⟩
omit [aC.a4]in
theorem Ja{K:aM}{h:Heap}{mg:bl}{c:Str}{C:Addr}{aW:List Str}(X:K.In h)(G:h.Ns ak9 mg)(a:anE K ak9 c=some (some (.ref C)))
  (kQ:aoH K C Str.empty=true) (hd:ao5 K C=true) (po:W.plainOver K C=true) (my:amD K (.ref C) "__setattr__"=some (some (.builtin "object.__setattr__"))) (mk:W.makesIn K C=true) (vP:amx K (.ref C)=true)
  (na:∀f∈aW,amD K (.ref C) f=some none):mM K mg c aW:=⟨C,aof X G a,⟨kQ,hd,po,my⟩,⟨mk,vP⟩,na⟩
omit [aC.a4]in
theorem K2{K:aM}{h:Heap}{mg:bl}{c m qual:Str}{C f:Addr}{aW ps:List Str}{st:Stmt}{t b:Option Addr}{ba:Array (Option Value)}{cw du u g cd cy:Value}(X:K.In h)(G:h.Ns ak9 mg)(T:mM K mg c aW)(a:anE K ak9 c=some (some (.ref C)))
  (e:amD K (.ref C) m=some (some (.ref f))) (i:W.isFn K (.ref f)=true) (l:K.lookup f=some ⟨cw,t,.func (amv m qual (iM st) (fF st) (dg st) .none du u g b cd cy),ba⟩) (p:aod K cd qual=true) (k:amx K (.ref f)=true)
  (q:∀(du d g:Value)(b:Option Addr)(s cy:Value)(us:List Value),us.length=ps.length->amN (amv m qual (iM st) (fF st) (dg st) .none du d g b s cy) ⟨us,[]⟩=pure (ps.zip us)):xD K mg c m qual st ps:=by
 obtain⟨w,j,r,_⟩:=T.ex;have n:=aof X G a;rw[j]at n;cases n;exact⟨_,f,_,j,r,⟨e,i,k⟩,yF (st:=st) l p k,(yF (st:=st) l p k).binds q⟩
omit [aC.a4]in
theorem K3{K:aM}{h:Heap}{mg:bl}{c m qual:Str}{C f T:Addr}{aW ps:List Str}{st:Stmt}{B b u:Option Addr}{ba w:Array (Option Value)}{cw du p d cd cy r:Value}{j ew:Nat}(X:K.In h)(G:h.Ns ak9 mg)(D:mM K mg c aW)(a:anE K ak9 c=some (some (.ref C)))
  (e:amD K (.ref C) m=some (some (.ref f))) (i:W.isFn K (.ref f)=true) (l:K.lookup f=some ⟨cw,B,.func (amv m qual (iM st) (fF st) (dg st) (.ref T) du p d b cd cy),ba⟩) (t:K.lookup T=some ⟨r,u,.seq #[.none] ew,w⟩) (I:aod K cd qual=true) (k:amx K (.ref f)=true) (y:ps.length=j+1)
  (E:∀(du g d:Value)(b:Option Addr)(x cy:Value)(us:List Value),us.length=j+1->∃n,amN (amv m qual (iM st) (fF st) (dg st) (.ref T) du g d b x cy) ⟨us,[]⟩=anV (.ref T) >>= n/\n (some #[.none])=pure (ps.zip us))
  (H:∀(du g d:Value)(b:Option Addr)(x cy:Value)(us:List Value),us.length=j->∃n,amN (amv m qual (iM st) (fF st) (dg st) (.ref T) du g d b x cy) ⟨us,[]⟩=anV (.ref T) >>= n/\n (some #[.none])=pure (ps.zip (us++[.none]))):A8 K mg c m qual st ps:=by
 obtain⟨L,z,F,_⟩:=D.ex;have A:=aof X G a;rw[z]at A;cases A;refine⟨_,f,_,z,F,⟨e,i,k⟩,⟨⟨cw,B,_,du,p,d,b,cd,cy,ba,rfl,l,I⟩,k⟩,λs us q hl=>?_,λs us q hl=>?_⟩
 .rw[alO]at hl ⊢
  obtain⟨n,au,aF⟩:=E du p d b cd cy us (hl.trans y);exact apj rfl (q _ _ t) rfl au aF
 .rw[akB,y]at hl
  obtain⟨n,au,aF⟩:=H du p d b cd cy us (by simpa using hl);exact apj rfl (q _ _ t) rfl au aF
section
variable{X:aV}{a:Expr}{pos:Pos}{qz:d1}
def ahp{op}(h:eH X a qz):eH X (.BoolOp op [a] pos) qz:=⟨Oy h.un⟩
end
end aE
namespace aE
open PySem PySem.Spec aC
def uC(c:aJ->N Bool)(b:b2):Nat->b2
 |0=>λ_=>h3
 |n+1=>λU=>do
  let t <-c U
  if t=true then do
   let a <-b U
   match a with
   |.bu U'=>uC c b n U'|.cy U'=>uC c b n U'|.bk U'=>pure (.bu U')|.cx r=>pure (.cx r)
  else pure (.bu U)
def AW(c:aJ->N Bool)(b:b2):b2:=uC c b o5
def uy(mo mk:bw)(mv:d1):b2:=λU=>do
 let r <-mv U
 let d <-r.dat.up
 let x <-(mo U).up
 let k <-(mk U).up
 let o <-(hG x).up
 match o,k with
 |.l xs,.v (.int i)=>(if 0<=i/\i<xs.length then(do
  Fx x (.l (xs.set i.toNat d))
  pure (.bu U))else h3)
 |_,_=>h3
def AX(el:d1)(U:aJ):List D->N (List D)
 |[]=>pure []|d::ds=>do
  let r <-el (U.set 0 (.v d))
  match r with
  |.v x=>do
   let xs <-AX el U ds
   pure (x::xs)
  |_=>h3
def xm(n:Nat)(cap:List Nat)(it:fN)(el:d1):d1:=λU=>do
 let ds <-(it U).up
 if ds.length<akA then(do
  let xs <-AX el (hP n cap U) ds
  pure (.fr xs))else h3
variable[aC.a4]
section
variable{K:aM}{mg:bl}{O ak aG:a7}{H H' H1:aw}{S ao:bH}{U:aJ}{ar:St}{t:aJ->N Bool}{b:b2}{l:Addr}{zs ws:List V}
theorem agL:∀D ar H,pa K mg (AW t b) D ar H->FP (Qh K mg t) (pa K mg b) D ar H:=by
 rintro D ar H ⟨O,U,S,s,ao,st,h,q⟩;refine⟨λm p H'=>∃ak U' k,dA K mg ak U' k p H'/\gu O ak H H'/\(uC t b m U').run k=.ok s ao,⟨o5,O,U,S,st,(ea.refl _ _).d8,h⟩,?_⟩;rintro m p H' ⟨ak,U',k,B,g',h⟩
 cases m with
 |zero=>cases h
 |succ n=>
  obtain⟨tt,S1,x,h⟩:=N.inv h;refine⟨ak,U',k,tt,S1,B,x,λaG H1 g u=>?_⟩;have g:=g'.trans g.d8
  cases tt with
  |false=>
   rw[if_neg akD]at h;cases h;exact nr (q aG p H1 g u)
  |true=>
   rw[if_pos rfl]at h;obtain⟨w,f,y,h⟩:=N.inv h;refine nt ⟨λj d=>∃c e f,dA K mg c e f j d/\gu O c H d/\(uC t b n e).run f=.ok s ao,?_,aG,U',S1,w,f,u,y,?_⟩
   .rintro j d ⟨c,e,f,a⟩
    exact⟨n,anL _,c,e,f,a⟩
   .cases w with
    |bu e=>exact λc j d i bK=>⟨c,e,f,bK,g.trans i,h⟩
    |cy e=>exact λc j d i bK=>⟨c,e,f,bK,g.trans i,h⟩
    |bk e=>cases h;exact λc j d i bK=>q c j d (g.trans i) bK
    |cx r=>cases h;exact λc v d i A aF E z=>q c v d (g.trans i) A aF E z
def dA.ur(st:dA K mg O U S ar H)(c:O l=.dn)(hl:H l=some (.l zs)):dA K mg O U S ar (upd H l (.l ws)):=
 ⟨st.s3.ur c hl,st.full,λi xs e=>by
  obtain⟨a,ys,au,w,r⟩:=st.qs i xs e;refine⟨a,ys,au,w.imp (λz=>⟨?_,z.2⟩) id,r.eg (by rw[c];intro z;cases z) hl⟩;have ne:a≠l:=by
   rintro rfl;rcases z.2.1 with f|f<;>rw[f]at c<;>cases c
  rcases z.1 with h|⟨o,h⟩
  .exact .inl (by rw[c5 ne];exact h)
  .exact .inr ⟨o,by rw[c5 ne];exact h⟩⟩
theorem dA.d0(st:dA K mg O U S ar H)(n:Nat)(cap:List Nat):dA K mg (d0 O) (hP n cap U) S (f5 n cap ar) H:=⟨st.s3.d0 n cap,st.full,λi xs e=>by
 unfold hP at e;unfold f5
 by_cases hi:i<n
 .rw[akV (by simpa using hi),al8,if_pos hi]at e
  cases e
 .rw[akX (by simpa using hi),alr,akN]at e
  rw[akX (by simpa using hi),alr,akN]
  cases J:cap[i-n]? with
  |none=>rw[J]at e;cases e
  |some k=>
   rw[J]at e;have c:qW U[k]?=.bU xs:=ak1 e;show ∃a ys,(some (ar[k]?.join)).join=_/\_
   cases C:U[k]? with
   |none=>rw[C]at c;cases c
   |some f=>
    rw[C]at c
    cases f with
    |e=>cases c
    |v d=>cases c
    |bU zs=>
     cases c;obtain⟨a,ys,q,w,r⟩:=st.qs k _ C;exact⟨a,ys,q,w.imp (λz=>⟨z.1,k8 O a,z.2.2⟩) id,r.da (j5 O)⟩
    |d9 p zs=>
     cases c;obtain⟨a,ys,q,o,l,r⟩:=st.s3.loc k _ C;exact⟨a,ys,q,.inl ⟨.inl l,k8 O a,st.s3.cu.cc.no o (by intro z;cases z)⟩,r.da (j5 O)⟩⟩
def uo(H1:aw)(aG ak:a7):a7:=⟨λb=>match H1 b with|none=>ak b|some _=>aG b,ak.bG⟩
omit [aC.a4]in
theorem FX{b:Addr}(a:H1 b≠none):uo H1 aG ak b=aG b:=by
 show(match H1 b with|none=>ak b|some _=>aG b)=aG b
 cases e:H1 b with
 |none=>exact absurd e a|some _=>rfl
omit [aC.a4]in
theorem AL{b:Addr}(a:H1 b=none):uo H1 aG ak b=ak b:=by
 show(match H1 b with|none=>ak b|some _=>aG b)=ak b;rw[a]
theorem AK(g:dz (d0 aG) ak H1 H'):dz aG (uo H1 aG ak) H1 H':=⟨λb o e h n=>g.cells b o e h n,λ_ a=>FX a,g.has,g.cC,g.b3,g.bG,g.new⟩
theorem PS(g:dz (d0 aG) ak H1 H'):lI ak (uo H1 aG ak):=⟨λb c=>by
 by_cases a:H1 b=none
 .rw[AL a];exact c
 .rw[FX a];exact nW.mp ((g.own b a).symm.trans c),rfl⟩
theorem af6(c:dA K mg aG U S ar H1)(g:dz (d0 aG) ak H1 H')(d:di ak H')(dT:f3 K mg ak H' ao)(f:ak.bG.length=ao.length):dA K mg (uo H1 aG ak) U ao ar H':=
 c.dK (AK g) ⟨λb e=>by
  by_cases a:H1 b=none
  .rw[AL a]at e;exact d.has b e
  .exact g.has b a,d.tabs,d.cc.1,λb m=>by
  by_cases a:H1 b=none
  .rw[AL a];exact d.cc.2 b m
  .rw[FX a]
   rcases g.new b m with z|z
   .exact c.s3.cu.cc.2 b z
   .exact absurd z a⟩ (dT.all (λ_ _ z=>Rep.da (PS g) z) rfl λ_ _ _ l _=>l) f
theorem dz.ur(g:dz aG ak H1 H')(aA:H1 l=none)(hl:H' l=some (.l zs)):dz aG ak H1 (upd H' l (.l ws)):=by
 have ne:∀b,H1 b≠none->b≠l:=λb a z=>a (z▸aA)
 refine⟨λb o e h n=>?_,g.own,λb a=>?_,λb ps e=>?_,λt=>(g.b3 t).put _ (λps z=>by rw[hl]at z;cases z) (λq z=>by rw[hl]at z;cases z),g.bG,g.new⟩
 .rw[c5 (ne b (h8 e))];exact g.cells b o e h n
 .rw[c5 (ne b a)];exact g.has b a
 .rw[c5 (ne b (h8 e))];exact g.cC b ps e
variable{n:Nat}{cap:List Nat}{it:fN}{el:d1}
inductive Qz(K:aM)(mg:bl)(n:Nat)(cap:List Nat)(el:d1)(aG:a7)(U:aJ)(ao:bH)(ar:St)(H1:aw)(A:Addr)(ds xs:List aE.D)(k:Nat)(zs:List V)(H':aw):Prop
 |mk (ak:a7) (e8:bH) (acc o':List aE.D) (cf:dA K mg ak (hP n cap U) e8 (f5 n cap ar) H') (g':dz (d0 aG) ak H1 H') (oT:ak A=.dn) (dx:H' A=some (.l zs)) (hz:zs.length<=k)
   (kl:bj K mg ak H' acc zs) (h:(AX el (hP n cap U) (ds.drop k)).run e8=.ok o' ao) (ex:acc++o'=xs)
theorem To(aA:0<n):∀ar H Q,xv K mg (xm n cap it el) ar H Q->uh n cap (FW K mg it) (kC 0) FO (xv K mg el) ar H Q:=by
 rintro ar H Q ⟨O,U,S,r,ao,st,h,q⟩;obtain⟨ds,S1,C,h⟩:=N.inv h
 by_cases c:ds.length<akA
 case neg=>rw[if_neg c]at h;cases h
 rw[if_pos c]at h;obtain⟨xs,hM,bI,h⟩:=N.inv h;cases h;refine⟨O,U,S,ds,S1,st,C,λaG H1 cq ys V i its E D g=>?_⟩;have ajO:=E.len;have iW:dA K mg (fV (aE.d0 aG) D .dn) (hP n cap U) S1 (f5 n cap ar) (upd H1 D (.l [])):=(i.d0 n cap).go (Go.new g) ((i.s3.d0 n cap).new g).cu;refine⟨λk m zs H'=>m=ys.length-k/\k<=ys.length/\Qz K mg n cap el aG U ao ar H1 D ds xs k zs H',
  ⟨_,rfl,alh _,_,S1,[],xs,iW,(Go.new g).dK,lC,dZ,akE _,rfl,bI,rfl⟩,?_⟩
 rintro k m zs H' ⟨rfl,av,ak,e8,acc,o',f,g',M,F,hz,Y,h,ex⟩;have d8:=(AK g').d8
 cases e:ds.drop k with
 |nil=>
  have hl:ys.length<=k:=by
   have:=congrArg amn e;rw[alE,alQ]at this;omega
  rw[e]at h;cases h;rw[alO]at ex;subst ex;refine .inl ⟨(its _ H' d8 k).2 hl,?_⟩;refine q (uo H1 aG ak) (.ref D) H' (V.dK.trans (AK g')) (af6 i g' f.s3.cu f.s3.gD f.full) ⟨D,zs,rfl,F,(AL g).trans M,Y.da (PS g')⟩ λa cS=>?_
  cases cS;exact V.same.free g
 |cons d il=>
  obtain⟨y,I,b5,bL⟩:=(E.dK (AK g') i.s3.cu.cc).get' e;have T:k<ys.length:=(akw.mp I).1;obtain⟨go,mF⟩:=(its _ H' d8 k).1 T;have B:Rep K mg ak H' d y:=(((E.da (j5 aG)).dK g' (i.s3.d0 n cap).cu.cc).get' e).elim λahb z=>by
   obtain⟨W,er,_⟩:=z;rw[I]at W;cases W;exact er
  rw[e]at h;obtain⟨r,w,J,h⟩:=N.inv h;refine .inr ⟨go,λx o kY=>?_⟩;obtain⟨aF,R⟩:=mF x o kY;subst aF;rw[I]at R;cases R;refine⟨(mO.refl _).set (by cases n with|zero=>exact absurd aA (als _)|succ j=>rfl),?_⟩;dsimp only[FO];rw[if_pos rfl];refine⟨ak,_,e8,r,w,f.set (s:=.v d) (λxs z=>by cases z) ⟨y,rfl,B⟩,J,λG v X p L bt nn=>?_⟩
  cases r with
  |v x=>
   obtain⟨Z,QT,gM,h⟩:=N.inv h;cases h;have A:D∉ak.bG:=f.s3.cu.cc.no M (by intro z;cases z);have u:X D=some (.l zs):=p.cells _ _ F (.inl A);have P:G D=.dn:=(p.own D (h8 F)).trans M;have i_:=g'.trans p;have ud:dA K mg G (hP n cap U) w (f5 n cap ar) X:=f.dK p L.s3.cu L.s3.gD L.full;have cc:=f.s3.cu.cc;exact⟨u,by omega,ys.length-(k+1),by omega,rfl,T,G,w,acc++[x],Z,ud.ur P u,i_.ur g u,P,dZ,
    by rw[akB,aly];omega,((Y.dK p cc).append (.one bt)).eg (by rw[P];intro z;cases z) u,by rw[bL];exact gM,by rw[amI];exact ex⟩
  |_=>cases h
end
section
variable{X:aV}{o i value c:Expr}{body:List Stmt}{mo mk:bw}{mv:d1}{t:aJ->N Bool}{b:b2}{pos pos' apos:Pos}
def ahA(a:aon (model X.prog X.w) X.A X.env X.dN)(e:mW X c t)(d:ih X body b):gh X (.While c body [] pos) (AW t b):=⟨hk (OG a e.un d.un) agL⟩
theorem ahw(K:bc X o mo)(T:bc X i mk)(W:eH X value mv)(ay:swapsWithSole [.Subscript o i pos'] value pos.line X.env=pure false:=by rfl)(hw:swappedStores [.Subscript o i pos'] value X.env=pure none:=by rfl)
  (g:(alw [.Subscript o i pos'] X.env).map (·.2)=[amY (.Subscript o i pos') X.env]:=by rfl)
  (a:∀v,amY (.Subscript o i pos') X.env v=(do
   let bR <-alU [v] (eval o X.env)
   let j <-alU [v,bR] (eval i X.env)
   amB pos'
   alU [v,bR,j] (setItem bR j v)
   release [v,bR,j] []):=by intro _;rfl):gh X (.Assign [.Subscript o i pos'] value pos) (uy mo mk mv):=⟨hk (adN W.un (adw K.un T.un set_list a) ay hw g) λD R H P=>by
 obtain⟨O,U,S,aQ,ao,st,h,q⟩:=P;obtain⟨r,S1,g,a⟩:=N.inv h;clear h;obtain⟨d,a5,Q,p⟩:=N.inv a;clear a;obtain⟨x,hM,u,G⟩:=N.inv p;clear p;obtain⟨y,uQ,B,hd⟩:=N.inv G;clear G;obtain⟨bb,sj,w,h⟩:=N.inv hd;clear hd;refine⟨O,U,S,r,S1,st,g,λM v H1 J m Z nn=>?_⟩;obtain⟨dh,rfl⟩:=qY (H₀:=H) Z nn Q;obtain rfl:=(mo U).fb _ _ _ u;obtain rfl:=(mk U).fb _ _ _ B;refine⟨cM H M,U,_,x,_,(m.cM H).s3,u,λY fW aK g2 bK L bu=>?_⟩;refine⟨Y,U,_,y,_,bK,B,λC uv c_ E F V oF=>?_⟩;have e:=g2.trans E;have f:=(m.cM H).go e F.cu;obtain⟨n,b,rfl,rfl,aA,sn,h7⟩:=wJ F (L.go E) w;obtain rfl:=(hG (.v (.ref n))).fb _ _ _ w;split at h
 .rename_i xs eZ
  by_cases c:0<=eZ/\eZ<xs.length
  .rw[if_pos c]at h
   cases h;obtain⟨I,A,s⟩:=h7;cases(show uv=.int eZ from V);refine⟨b,I,eZ,eZ.toNat,rfl,rfl,A,?_,?_⟩
   .unfold oj
    rw[if_pos c.1,if_pos (by rw[s.len];exact c.2)]
   obtain⟨o3,o4⟩:=f.write (u':=.l (I.set eZ.toNat v)) (o:=.l (xs.set eZ.toNat d)) aA A (by rintro(⟨_,z⟩|⟨_,_,z⟩)<;>cases z) (by intro _ z;cases z) (by intro _ z;cases z) λk=>
    ⟨_,dZ,bj.set (k _ _ (Rep.go e dh)) eZ.toNat (s.imp k)⟩
   exact q C R _ ((J.cM.trans e.dK).trans o3).d8 o4
  .rw[if_neg c]at h;cases h
 .cases h⟩
theorem ahm{c m:Str}{ps:List Str}{k:Nat}{e:Expr}{mf:dX}{me:bw}{pl:Sem Bool}(h:A_ X.prog X.w X.K X.mg X.base c m ps k (hJ X.K X.mg mf))(aD:cE k X.A)(he:bc X o mo)(r:bc X e me)
  (l:akx [e] X.env=(false,eval e X.env)::akx [] X.env:=by rfl) (G:(ak3 pos (akx [] X.env)).any (·.1)=false:=by rfl)
  (y:eval (.Call (.Attribute o m apos) [e] [] pos) X.env=(do
   let bR <-eval o X.env
   amB apos.atName
   let(f,first) <-alU [bR] (amy bR m pl)
   am2 pos f first (ak3 pos (akx [e] X.env)) (amh pos (alK [] X.env))):=by rfl):eH X (.Call (.Attribute o m apos) [e] [] pos) (d5 c m mf mo (ez (aa me (aa (af .aI) ai)))):=by
 obtain⟨C,f,T,L,cl,oC,F,b⟩:=h.ex;refine⟨ee (Ov (dvs:=[.aI]) (ds:=[.none]) he.un cl oC F aD b (.cons rfl .nil) rQ (wR r.un Ab l) l G y) λR H Q p=>r1 _ _ _ _ (λv N z=>?_) (Ez _ _ _ p)⟩;obtain⟨a,V,u,aW,I,n,E,hl,O,U,S,rs,P,st,h,q⟩:=z;rw[L]at n;cases n;obtain⟨x,S1,d,h⟩:=M.inv h;cases h;refine⟨a,u,aW,I,E,hl,O,U,S,x,_,st.s3,d,λs j H' g D B nn=>?_⟩;obtain rfl:=(me U).fb _ _ _ d;exact q s [j,.aI] H' g.dK (st.go g D.cu) ⟨j,_,rfl,B,.aI,[],rfl,rfl,rfl⟩ ⟨nn,trivial,trivial⟩
end
section
variable{X:aV}{scope esc:Scope}{EN N:List Str}{n:Nat}{cap:List Nat}{elt iter:Expr}{pos fu:Pos}{x:Str}{it:fN}{el:d1}
def ahj(S:k1 esc scope EN N n cap)(aA:0<n)(hi:xX X (.Name x fu) iter it)(c:N[0]? = some x)(b:∀C a s H,Loc (cL X scope N C a s H).env.scope x/\(cL X scope N C a s H).env.scope.names.lookup x=some .local)
  (d:∀C a s H,eH (cL X scope N C a s H) elt el)
  (he:X.env.scope=esc:=by rfl) (hN:X.N=EN:=by rfl) (e:X.calm=true:=by rfl) (ay:∀x,alz iter X.env x=pure x:=by intro _;rfl):eH X (.ListComp elt [⟨.Name x fu,iter,[],0⟩] scope pos) (xm n cap it el):=
 ⟨ee (E0 S hi.un (λC a s H=>tY S.fB c (b C a s H).1 (.inr (b C a s H).2)) (λ_ _ _ _=>Oz) (λC a s H=>(d C a s H).un) he hN e ay) (To aA)⟩
end
end aE
namespace aE
open PySem PySem.Spec aC PyProof.Rows
variable[aC.a4]
def qk(a:Int)(n:Nat):List V:=(akR n).map λ(i:Nat)=>V.int (a+(i:Int))
def Aj(a:Int)(n:Nat):List D:=(akR n).map λ(i:Nat)=>D.int (a+(i:Int))
omit [aC.a4]in
theorem aga{xs:List V}{us:List Value}(hl:xs.length=us.length)(h:∀(i:Nat)(x:V)(u:Value),xs[i]? = some x->us[i]? = some u->RelV x u):Vals xs us:=by
 induction xs generalizing us with
 |nil=>
  cases us with
  |nil=>exact .nil|cons u us=>cases hl
 |cons x xs a=>
  cases us with
  |nil=>cases hl
  |cons u us=>exact .cons (h 0 x u rfl rfl) (a (Nat.succ.inj hl) λi y w b c=>h (i+1) y w (by simpa using b) (by simpa using c))
omit [aC.a4]in
theorem aeq{a:Int}:∀{n:Nat}{vs:List Value},vs.length=n->(∀(j:Nat)(v:Value),vs[j]? = some v->∃t,v=.int (a+j*1) t)->Vals (qk a n) vs:=by
 intro n vs hl h;refine aga (by unfold qk;rw[akz,alZ,hl]) λi x u au aF=>?_
 unfold qk at au;rw[akN]at au;have hi:i<n:=by rw[<-hl];exact(akw.mp aF).1
 rw[amc hi]at au;cases au;obtain⟨t,rfl⟩:=h i u aF;exact⟨t,by rw[Int.mul_one]⟩
omit [aC.a4]in
theorem aep{K:aM}{mg:bl}{O:a7}{H:aw}{a:Int}(n:Nat):bj K mg O H (Aj a n) (qk a n):=by
 unfold Aj qk
 induction(akR n)with
 |nil=>rfl|cons i r b=>exact⟨_,_,rfl,rfl,b⟩
section
variable{X:aV}{a b:Expr}{p d3 pos pos':Pos}
omit [aC.a4]in
theorem adi{u:fQ}(O:X.calm=true)(D:d6 X "list")(P:X.mg "list"=none)(A:d6 X "range")(T:X.mg "range"=none)(E:gV X [a,b] u)
  (ay:akx [a,b] X.env=[(false,eval a X.env),(false,eval b X.env)]:=by rfl) (x:akx [b] X.env=[(false,eval b X.env)]:=by rfl)
  (z:akx [.Call (.Name "range" d3) [a,b] [] pos'] X.env=(false,eval (.Call (.Name "range" d3) [a,b] [] pos') X.env)::akx [] X.env:=by rfl) :
  bZ X (.Call (.Name "list" p) [.Call (.Name "range" d3) [a,b] [] pos'] [] pos) (λU H Q=>u U H λvs d=>∃i j:Int,vs=[.int i,.int j]/\(-(2 ^ 62)<=i/\i<2 ^ 62/\-(2 ^ 62)<=j/\j<2 ^ 62)/\(j-i).toNat<=2 ^ 24/\(j-i).toNat<=akA/\∀l,d l=none->Q (.ref l) (upd d l (.l (qk i (j-i).toNat)))):=by
 intro zn s U H Q J h;refine alS (ny J D P B3 ?_ (by decide) (by decide));refine alR ?_ z rfl;rw[z];show wpAny _ _ (spliced ((false,eval (.Call (.Name "range" d3) [a,b] [] pos') X.env)::ak3 pos (akx [] X.env))) _ _ s;refine aop (Call_ (ny J A T boot_range (alR (bX (E pos' zn s U H _ J h) λus f ⟨vs,d,K,G,br⟩=>?_) (by rw[ay,x]) (by rw[x];rfl))));obtain⟨i,j,e,⟨br,bS,M,R⟩,B,S,q⟩:=br;subst e
 cases G with
 |cons r m=>
  cases m with
  |cons L m=>
   cases m;obtain⟨t,rfl⟩:=r;obtain⟨t',rfl⟩:=L;refine call_range_2 ?_;refine aoC ?_;have g:Inv X zn U d { f with heap:=f.heap.push { cls:=.type "range",data:=.fields #[.int i t,.int j t',.int 1 f.toks] },toks:=f.toks+1 }:=K.kept λb o e=>aky _ e
   refine PySem.call_list_range (n:=(j-i).toNat) (g.ok.hd O) (IsRange.new ..) (small_one br bS M R) (by rw[rangeSize_one];split<;>omega) B λh' tk acc c F N y=>?_
   refine⟨.ref _,_,g.laid (t':=tk) F (akE _) (show iG X.prog X.w _ h' _ (.l (qk i (j-i).toNat))from⟨by unfold qk;rw[akz,alZ];exact S,acc.toList,c,aeq (by rw[alk];exact y.1) (λk v I=>y.2 k v (by rw[<-I,anT])),?_⟩),rfl,q _ (g.cb.fresh (akE _))⟩;rw[an2];exact N
end
def vT:List R->M R
 |[.v (.int i),.v (.int j)]=>if(-(2 ^ 62)<=i/\i<2 ^ 62/\-(2 ^ 62)<=j/\j<2 ^ 62)/\(j-i).toNat<=2 ^ 24/\(j-i).toNat<=akA then pure (.fr (Aj i (j-i).toNat))else bad|_=>bad
@[simp] def ye(ms:c6)(U:aJ):M R:=do
 let rs <-ms U
 vT rs
section
variable{X:aV}{a b:Expr}{p d3 pos pos':Pos}{ms:c6}
def agt(z:X.calm=true)(k:d6 X "list")(A:X.mg "list"=none)(f:d6 X "range")(F:X.mg "range"=none)(t:gx X [a,b] ms)
  (ay:akx [a,b] X.env=[(false,eval a X.env),(false,eval b X.env)]:=by rfl) (y:akx [b] X.env=[(false,eval b X.env)]:=by rfl)
  (B:akx [.Call (.Name "range" d3) [a,b] [] pos'] X.env=(false,eval (.Call (.Name "range" d3) [a,b] [] pos') X.env)::akx [] X.env:=by rfl) :
  bc X (.Call (.Name "list" p) [.Call (.Name "range" d3) [a,b] [] pos'] [] pos) (ye ms):=
 ⟨ee (adi z k A f F t.un ay y B) λK H Q n=>by
  obtain⟨O,U,S,r,I,st,h,q⟩:=n;obtain⟨rs,S1,s,d⟩:=M.inv h;clear h;unfold vT at d;split at d
  .rename_i i j
   by_cases c:(-(2 ^ 62)<=i/\i<2 ^ 62/\-(2 ^ 62)<=j/\j<2 ^ 62)/\(j-i).toNat<=2 ^ 24/\(j-i).toNat<=akA
   .rw[if_pos c]at d
    cases d;refine⟨O,U,S,_,_,st,s,λg vs G e m w nn=>?_⟩;obtain⟨D,L,rfl,au,E,u,rfl,aF,cO⟩:=w;cases(show u=[]from cO);cases(show D=.int i from au);cases(show E=.int j from aF);refine⟨i,j,rfl,c.1,c.2.1,c.2.2,λl hl=>q (fV g l .dn) _ _ (e.trans (Go.new hl)) (m.new hl) ⟨l,_,rfl,dZ,lC,aep _⟩ λb x=>?_⟩;cases x;exact e.same.free hl
   .rw[if_neg c]at d;cases d
  .cases d⟩
end
omit [aC.a4]in
@[simp] theorem TS{i j:Int}:vT [.v (.int i),.v (.int j)]=if(-(2 ^ 62)<=i/\i<2 ^ 62/\-(2 ^ 62)<=j/\j<2 ^ 62)/\(j-i).toNat<=2 ^ 24/\(j-i).toNat<=akA then pure (.fr (Aj i (j-i).toNat))else bad:=rfl
end aE
namespace aE
open PySem PySem.Spec aC PyProof.Rows
def Ua{l b:Addr}{xs ys:Array Value}{n m:Nat}{ba:Array (Option Value)}(t:¬(!xs.isEmpty&&al4 (xs.size+ys.size))=true)(e:xs.size<=akA)(f:xs.size+ys.size<=akA+1) :
  Meets (aog.«list.extend» ⟨[.ref l,.ref b],[]⟩) λ_ R s=>s.heap.get? l=some ⟨.type "list",none,.seq xs n,#[]⟩/\s.heap.get? b=some ⟨.type "list",none,.seq ys m,ba⟩/\
   R (.ok (.ret .none)) { s with heap:=s.heap.update l (ak6 λx=>x++ys),toks:=s.toks }:=
 .of_wp λprog w A R s h=>by
  obtain⟨i,g,d,tk,os⟩:=s;obtain⟨hl,c,h⟩:=h;have j:=AutoSeq1.idx_int;have k:=aoS;have q:=AutoSeq1.sub_list_list;have p:=AutoSeq1.sub_tuple_list;have r:=AutoSeq1.sub_list_tuple;have a:(xs++ys).size<=akA+1:=by rw[Array.size_append];exact f
  wp_walk using(an6 hl rfl (hz:=e) (_hz':=a)),aoU hl,aoU c
  exact⟨_,rfl,h⟩
def OX(K:aM):V->List V->aw->cU->Prop:=λx vs H Q=>∃l b xs a,x=.ref l/\vs=[.ref b]/\H l=some (.l xs)/\dt K H b a/\xs.length+a.length<=akA/\Q .aI (upd H l (.l (xs++a)))
def aac:uL X "list.extend" (OX X.K):=by
 intro zn s U H x vs v us Q J f i h;obtain⟨l,b,xs,B,rfl,rfl,d,m,hz,q⟩:=h;cases f;obtain⟨u,rfl,j⟩:=i.one;cases j;obtain⟨z,its,n,r,hl,e⟩:=J.rx d;obtain⟨a,c,⟨⟨cw,w,g,y⟩,A,aF,bf,ae,eI⟩,_⟩:=J.list m;cases bf;cases ae;cases eI;have t:=c.length;have k:its.toArray.size+a.toArray.size<=akA:=by rw[akH,akH];omega
 have p:¬(!its.toArray.isEmpty&&al4 (its.toArray.size+a.toArray.size))=true:=by
  rw[EH k,Bool.and_false];exact akD
 refine aoI F.slot_list_extend ⟨_,e,rfl⟩ F.entry_list_extend (F.args_list_extend_2 _ _) (Ua p (by rw[akH];omega) (by omega)) ⟨e,aF,?_⟩;refine⟨.aI,_,J.Ec (its':=its++a) d e (by simp) (r.append c) ?_,rfl,q⟩;rw[akB];omega
variable[aC.a4]
def xe(xs:List D):List R->M (R×List D)
 |[r]=>match r.ft with
  |some ys=>do
   hx (xs.length+ys.length<=akA)
   pure (.v .aI,xs++ys)
  |none=>bad
 |_=>bad
def ZX{K:aM}{mg:bl}:r9 K mg (OX K) xe:=λO H H₀ l xs k rs vs S n p ys Q hl a aD aA h q=>by
 unfold xe at h;split at h
 .rename_i r
  obtain⟨v,rfl,g⟩:=kR aD;split at h
  .rename_i us e
   obtain⟨_,m,f,h⟩:=M.inv h;obtain⟨c,rfl⟩:=qT f;cases h;obtain⟨b,j,rfl,i,d⟩:=R.ou g e;exact⟨l,b,k,j,rfl,rfl,hl,i,by rw[a.len,d.len];exact c,q .aI _ rfl ((a.append d).da (i9 _ _)) ⟨.aI,rfl,rfl⟩⟩
  .cases h
 .cases h
end aE
namespace aE
open PySem PySem.Spec aC PyProof.Rows
section
variable{X:aV}
def ch(c:Nat):Str:=⟨#[c]⟩
def r'(z:Str):ib:=⟨λi _=>i<z.cps.size,λi H x H'=>H'=H/\∃c,z.cps[i]? = some c/\x=.str (ch c),λi _=>z.cps.size<=i⟩
theorem PL{P:akZ}{w:World}{K:aM}{cg:Expr}(z:Str)(t:Tok)(it:Addr):Turn P w K cg (r' z) [it] it (λi h=>(h.IsStrIter it "str_ascii_iterator" z t i)\/h.IsStrIter it "str_iterator" z t i) where
 mem:=by simp
 obj:=λi h st b a=>by
  have e:b=it:=by simpa using a
  subst e;rcases st with⟨o,e,c,d⟩|⟨o,e,c,d⟩<;>exact⟨o,e,λv z=>by rw[d]at z;cases z⟩
 keep:=λi h h' st k=>by
  rcases st with⟨o,e,c,d⟩|⟨o,e,c,d⟩
  .exact .inl ⟨o,k it (by simp) o e,c,d⟩
  .exact .inr ⟨o,k it (by simp) o e,c,d⟩
 item:=by
  intro X y hw A B i zn s U H E J r st f;subst y hw A;have f:i<z.cps.size:=f;obtain⟨l,m,F,p,n,q⟩:=r it (by simp);have g:z.cps[i]? = some z.cps[i]:=by simp[f]
  rcases st with st|st
  .refine wpAny_pyNext_ascii_item st g λh' j D=>?_
   have u:Inv X zn U H { s with heap:=h',toks:=s.toks+1 }:=J.turned (t':=s.toks+1) (λb o a e=>(D.2 b a).trans e) l m p n q;obtain⟨o,e,c,d⟩:=id j;exact⟨_,rfl,vl (s:={ s with heap:=h',toks:=s.toks+1 }) e c d (by decide) ⟨.str (ch z.cps[i]),H,u,⟨_,rfl⟩,⟨rfl,_,g,rfl⟩,.inl j,λb a=>(r b a).1⟩⟩
  .refine wpAny_pyNext_wide_item st g λh' j D=>?_
   have u:Inv X zn U H { s with heap:=h',toks:=s.toks+1 }:=J.turned (t':=s.toks+1) (λb o a e=>(D.2 b a).trans e) l m p n q;obtain⟨o,e,c,d⟩:=id j;exact⟨_,rfl,vl (s:={ s with heap:=h',toks:=s.toks+1 }) e c d (by decide) ⟨.str (ch z.cps[i]),H,u,⟨_,rfl⟩,⟨rfl,_,g,rfl⟩,.inr j,λb a=>(r b a).1⟩⟩
 done:=by
  intro X y hw A B i zn s U H E J r st f;subst y hw A;have f:z.cps.size<=i:=f;obtain⟨l,m,F,p,n,q⟩:=r it (by simp);have g:z.cps[i]? = none:=by simp[f]
  rcases st with st|st
  .exact wpAny_pyNext_ascii_end (J.ok.hd B) st g λh' x=>⟨rfl,J.turned (t':=s.toks) (λb o a e=>x b o a e) l m p n q⟩
  .exact wpAny_pyNext_wide_end (J.ok.hd B) st g λh' x=>⟨rfl,J.turned (t':=s.toks) (λb o a e=>x b o a e) l m p n q⟩
 self:=λ_ _ _ _ _ st h=>by
  rcases st with st|st
  .exact wpAny_pyIter_striter_ascii st h
  .exact wpAny_pyIter_striter_wide st h
def adC{cg l:Expr}(hl:bZ X l jn):j1 X cg l (λU H R=>jn U H λx c=>∃z,x=.str z/\R (r' z) c):=by
 intro zn s U H R J h;refine bX (hl zn s U H _ J h) λv a f=>?_
 obtain⟨x,c,d,i,br⟩:=f;obtain⟨z,e,q⟩:=br;subst e;obtain⟨t,rfl⟩:=i;have fin:∀b∈[a.heap.objs.size],gU X zn c b:=λb g=>by
  have e:b=a.heap.objs.size:=by simpa using g
  subst e;exact d.q_ (akE _) (d.cb.fresh (akE _))
 cases C:z.cps.all (· < 128)with
 |true=>
  refine wpAny_pyIter_ascii C ?_;exact⟨a.heap.objs.size,[a.heap.objs.size],_,_,c,rfl,d.kept (t':=a.toks) λb o e=>aky _ e,PL z t _,.inl ⟨_,akK _ rfl,rfl,rfl⟩,fin,q⟩
 |false=>
  refine wpAny_pyIter_wide C ?_;exact⟨a.heap.objs.size,[a.heap.objs.size],_,_,c,rfl,d.kept (t':=a.toks) λb o e=>aky _ e,PL z t _,.inr ⟨_,akK _ rfl,rfl,rfl⟩,fin,q⟩
end
def yl(z:Str):List D:=z.cps.toList.map λc=>D.str (ch c)
def n0(z:Str):List V:=z.cps.toList.map λc=>V.str (ch c)
def YI(z:Str)(H:aw)(i:Nat):(i<(n0 z).length->(r' z).go i H/\∀x H',(r' z).pb i H x H'->H'=H/\(n0 z)[i]? = some x)/\((n0 z).length<=i->(r' z).stop i H):=by
 have hl:(n0 z).length=z.cps.size:=by unfold n0;rw[akz,alk]
 rw[hl];refine⟨λhi=>⟨hi,λx H' ⟨e,c,a,b⟩=>⟨e,?_⟩⟩,λhi=>hi⟩;subst b;unfold n0;rw[akN,anT,a];rfl
variable[aC.a4]
def Tg{K:aM}{mg:bl}{O:a7}{H:aw}(z:Str):bj K mg O H (yl z) (n0 z):=by
 unfold yl n0
 induction z.cps.toList with
 |nil=>rfl|cons c r a=>exact⟨_,_,rfl,rfl,a⟩
@[simp] def ME(m:bw)(U:aJ):M (List D):=do
 let r <-m U
 match r with
 |.v (.str z)=>pure (yl z)|_=>bad
section
variable{X:aV}{cg l:Expr}{m:bw}
def agh(hl:bc X l m):qO X cg l (ME m):=⟨oM (adC hl.un) λn H R e=>by
 obtain⟨O,U,S,xs,k,st,h,q⟩:=e;obtain⟨r,S1,f,h⟩:=M.inv h;split at h
 .rename_i z
  cases h;refine⟨O,U,S,_,_,st,f,λb v a j d g nn=>⟨z,g,?_⟩⟩;exact q b a (r' z) (n0 z) j d (λc _ i=>YI z c i) (Tg z)
 .cases h⟩
end
section
variable{K:aM}{mg:bl}
def um(i j:Str):Bool:=!(amV j i 0 j.length 1).isEmpty
def rK(neg:Bool):R->R->M R
 |.v (.str i),.v (.str j)=>pure (.v (.ax (neg ^^ um i j)))|_,_=>bad
def G2:d_ K mg (λx y H Q=>∃i j,x=.str i/\y=.str j/\Q (.ax (!(amV j i 0 j.length 1).isEmpty)) H) (rK false):=λO U S e H x y c f g d Q st b a h q=>by
 unfold rK at h;split at h
 .rename_i i j
  cases h;refine⟨i,j,b,a,?_⟩;have:(!(amV j i 0 j.length 1).isEmpty)=(false ^^ um i j):=by unfold um;simp
  rw[this];exact q O _ H (Go.refl _ _) st rfl trivial
 .cases h
end
end aE
namespace aE
open PySem PySem.Spec aC PyProof.Rows
def xM(K:aM)(mg:bl)[aC.a4](d:D)(u:Value):Prop:=∃v,RelV v u/\∀O H,Rep K mg O H d v
structure KTab(P:akZ)(w:World)(K:aM)(mg:bl)[aC.a4](x:Str)(ps:List (Str×D)):Prop where
 ex:∃(a:Addr)(az:Array anU)(n:Nat),(mg x=some (.ref a)/\(a==sysModules)=false)/\amf a K=some { cls:=.type "dict",data:=.dict az n }/\KeysOf (anK P w) az/\
  ∀k,match ps.lookup k with
   |some d=>∃u,aoo alD az k=some u/\xM K mg d u|none=>aoo alD az k=none
variable[aC.a4]
def Ba(K:aM)(mg:bl):List (Str×D)->List anU->Prop
 |[],o=>o=[]|p::ps,o=>∃e r,o=e::r/\(∃t,e.key=.str p.1 t)/\xM K mg p.2 e.val/\Ba K mg ps r
theorem M0{K:aM}{mg:bl}{k:Str}:∀{ps:List (Str×D)}{o:List anU},Ba K mg ps o->match ps.lookup k with
   |some d=>∃u,(o.find? λe=>alD k e.key).map (·.val)=some u/\xM K mg d u|none=>(o.find? λe=>alD k e.key).map (·.val)=none
 |[],o,h=>by cases h;rfl
 |p::ps,o,h=>by
  obtain⟨e,r,rfl,⟨t,g⟩,b,aD⟩:=h;have f:=M0 (k:=k) aD;obtain⟨a,i⟩:=p;rw[akQ,List.find?_cons,g]
  by_cases c:k=a
  .subst c
   have au:(k==k)=true:=by simp
   have aF:alD k (.str k t)=true:=by show(k==k)=true;simp
   rw[au,aF];exact⟨_,rfl,b⟩
  .have au:(k==a)=false:=by simpa using c
   have aF:alD k (.str a t)=false:=by
    show(a==k)=false;simp only[beq_eq_false_iff_ne,ne_eq];exact λz=>c z.symm
   rw[au,aF];exact f
def Zh{P:akZ}{w:World}{K:aM}{h:Heap}{mg:bl}{x:Str}{d:Addr}{b:Array anU}{n:Nat}{ps:List (Str×D)}(X:K.In h)(G:h.Ns ak9 mg)
  (a:anE K ak9 x=some (some (.ref d))) (ay:(d==sysModules)=false) (l:amf d K=some { cls:=.type "dict",data:=.dict b n }) (k:∀e∈b.toList,∃s,alD s e.key=true/\e.hash=hashStr w s)
  (f:Ba K mg ps b.toList):KTab P w K mg x ps:=by
 refine⟨d,b,n,⟨aof X G a,ay⟩,l,λe he=>?_,λk=>?_⟩
 .obtain⟨s,c,g⟩:=k e (by simpa using he)
  exact⟨s,c,g⟩
 .have z:=M0 (k:=k) f
  have:∀k:Str,aoo alD b k=(b.toList.find? λe=>alD k e.key).map (·.val):=λk=>by
   unfold aoo;obtain⟨l⟩:=b;rw[List.find?_toArray]
  rw[this];exact z
def Bc:List Str->List Value->Prop
 |[],us=>us=[]|x::xs,us=>∃t r,us=.str x t::r/\Bc xs r
theorem Nd:∀{xs:List Str}{us:List Value},Bc xs us->Vals (xs.map V.str) us
 |[],us,h=>by cases h;exact .nil
 |x::xs,us,h=>by obtain⟨t,r,rfl,q⟩:=h;exact .cons ⟨t,rfl⟩ (Nd q)
def oq{K:aM}{mg:bl}{xs:List Str}{a:Addr}{its:Array Value}{n:Nat}{c:Option Addr}{d:Array (Option Value)}(l:amf a K=some ⟨.type "tuple",c,.seq its n,d⟩)(hz:its.size<=akA)(h:Bc xs its.toList) :
  xM K mg (.t (xs.map D.str)) (.ref a):=by
 refine⟨.ref a,rfl,λO H=>⟨a,xs.map V.str,rfl,.inr ⟨_,its,n,l,rfl,rfl,hz,Nd h⟩,?_⟩⟩
 induction xs with
 |nil=>rfl| cons x r b=>exact⟨_,_,rfl,rfl,by
   clear b h
   induction r with
   |nil=>rfl| cons y q b=>exact⟨_,_,rfl,rfl,b⟩⟩
@[simp] def ahW(neg:Bool)(ps:List (Str×D))(mk:bw)(U:aJ):M R:=do
 let k <-mk U
 match k with
 |.v (.str z)=>pure (.v (.ax (neg ^^ (ps.lookup z).isSome)))|_=>bad
section
omit [aC.a4]
@[simp] theorem aja:rK b (.v (.str i)) (.v (.str j))=pure (.v (.ax (b ^^ um i j))):=rfl
end
end aE
namespace aE
open PySem PySem.Spec aC PyProof.Rows
section
variable{X:aV}
def aae:uM X "str.find" (λx xs H Q=>∃y z,x=.str y/\xs=[.str z]/\Q (.int (aok y z)) H):=by
 rintro zn s U H x xs v us Q J a rs ⟨y,z,ex,b,q⟩;subst ex b;obtain⟨t,rfl⟩:=a;obtain⟨u,rfl,t',rfl⟩:=vals1 rs;exact SC.find ⟨.int _,H,J.tok _,⟨_,rfl⟩,q⟩
end
variable[aC.a4]
@[simp] def B6(f:R->List R->M R)(a:bw)(ms:c6)(U:aJ):M R:=do
 let x <-a U
 let rs <-ms U
 f x rs
def Gj(K:aM)(mg:bl)(r:V->List V->aw->cU->Prop)(f:R->List R->M R):Prop:=
 ∀O U S J H x xs o rs bx C (Q:cU),cI K mg O U S J H->et K mg O H o x->i4 K mg O H rs xs->(f o rs).run S=.ok bx C->uO K mg O U C J H bx Q->r x xs H Q
def GD(f:R->List R->M R):Prop:=∀a rs S c b,(f a rs).run S=.ok c b->∃z,a=.v (.str z)
section
variable{X:aV}{o e:Expr}{az:List Expr}{a:bw}{ms:c6}{name:Str}{apos dJ:Pos}{id:String}{r:V->List V->aw->cU->Prop}{f:R->List R->M R}
def agF(slot:PySem.Slot "str" name id)(W:typeOf (.builtin id)=pure (.type "method_descriptor"))(R:uM X id r)(P:Gj X.K X.mg r f)(os:GD f)(m:bc X o a)(B:gx X (e::az) ms)
  (T:amg o name X.env (eval o X.env)=eval o X.env:=by rfl)
  (Y:((ak3 dJ (akx (e::az) X.env)).all (λx=>!x.1)&&(amh dJ (alK [] X.env)).all (λx=>x.1.isSome)
&&decide ((e::az).length+([]:List anz).length+(if([]:List anz).isEmpty then 0 else 1)<30))=true:=by rfl)
  (V:(apos.endLine==dJ.line)=true:=by rfl) (ay:akx (e::az) X.env=(false,eval e X.env)::akx az X.env:=by rfl) (N:(ak3 dJ (akx az X.env)).any (·.1)=false:=by rfl) :
  bc X (.Call (.Attribute o name apos) (e::az) [] dJ) (B6 f a ms):=⟨ee (EZ PySem.F.plainAttrs_str slot W R m.un B.un T Y V ay N) λD H Q t=>by
 obtain⟨O,U,S,G,A,st,h,q⟩:=t;obtain⟨x,S1,u,h⟩:=M.inv h;obtain⟨rs,b,w,h⟩:=M.inv h;refine⟨O,U,S,x,S1,st,u,λp L Z i s n bu=>?_⟩;obtain⟨z,rfl⟩:=os _ _ _ _ _ h;cases(show L=.str z from n);refine⟨rfl,p,U,S1,rs,b,s,w,λd vs c j bK E nn=>?_⟩;exact P d U b D c _ vs _ rs G A Q bK (show et X.K X.mg d c (.v (.str z)) (.str z)from rfl) E h λy v H' g I l k=>q y v H' ((i.trans j).trans g) I l (k.back (i.trans j).same)⟩
end
def q9(x:R)(rs:List R):M R:=match x,rs with
 |.v (.str y),[.v (.str z)]=>pure (.v (.int (aok y z)))|_,_=>bad
def acx:GD q9:=λa rs S c b h=>by
 unfold q9 at h;split at h
 .exact⟨_,rfl⟩
 .cases h
section
variable{K:aM}{mg:bl}
def Sz:Gj K mg (λx xs H Q=>∃y z,x=.str y/\xs=[.str z]/\Q (.int (aok y z)) H) q9:=λO U S e H x xs c rs f d Q st a aD h q=>by
 unfold q9 at h;split at h
 .rename_i y z
  cases h;obtain⟨v,rfl,b⟩:=kR aD;exact⟨y,z,a,by rw[show v=V.str z from b],q O _ H (Go.refl _ _) st rfl trivial⟩
 .cases h
end
omit [aC.a4]in
@[simp] theorem aiz{y z:Str}:q9 (.v (.str y)) [.v (.str z)]=pure (.v (.int (aok y z))):=rfl
section
variable{X:aV}{cg a b:Expr}{ms:c6}{p pos:Pos}
def ahs(k:d6 X "range")(x:X.mg "range"=none)(n:gx X [a,b] ms)(ay:akx [a,b] X.env=[(false,eval a X.env),(false,eval b X.env)]:=by rfl)(w:akx [b] X.env=[(false,eval b X.env)]:=by rfl):xX X cg (.Call (.Name "range" p) [a,b] [] pos) (DF ms):=⟨oM (adB k x n.un ay w) λz H R m=>by
 obtain⟨O,U,S,xs,y,st,h,q⟩:=m;obtain rfl:=(DF ms U).fb _ _ _ h;obtain⟨rs,S1,d,h⟩:=M.inv h;obtain rfl:=(ms U).fb _ _ _ d;split at h
 .rename_i i j
  by_cases c:-(2 ^ 62)<=i/\i<2 ^ 62/\-(2 ^ 62)<=j/\j<2 ^ 62
  .rw[if_pos c]at h
   cases h;refine⟨O,U,S1,_,S1,st.s3,d,λg vs f e l s nn=>?_⟩;obtain⟨v,u,rfl,r,t⟩:=Fi s;cases(show v=.int i from r);cases(show u=.int j from t);exact⟨i,j,rfl,c,q g f (mP i (j-i).toNat) (mx i (j-i).toNat) e (st.go e l.cu) (MP _ _) (Fo _ _)⟩
  .rw[if_neg c]at h;cases h
 .cases h⟩
end
end aE
namespace aE
open PySem PySem.Spec aC
def xo(a b:d1):d1:=λU=>do
 let x <-a U
 let t <-x.oX.up
 if t=true then pure (.v (.ax true))else b U
variable[aC.a4]
section
variable{X:aV}{a b:Expr}{rest:List Expr}{pos:Pos}{qz Qe:d1}
def ahq(s:eH X a qz)(k:eH X (.BoolOp .Or (b::rest) pos) Qe):eH X (.BoolOp .Or (a::b::rest) pos) (xo qz Qe):=⟨ee (adp s.un k.un) λz H Q j=>by
 obtain⟨O,U,S,r,p,st,h,q⟩:=j;obtain⟨x,S1,l,h⟩:=N.inv h;obtain⟨t,y,m,h⟩:=N.inv h;obtain⟨rfl,rfl⟩:=uk m;refine⟨O,U,S,_,_,st,l,λd A f c e i bu=>⟨t,i,?_⟩⟩
 cases t with
 |true=>
  rw[if_pos rfl]at h;cases h;exact nt (q d _ f c e rfl trivial)
 |false=>
  rw[if_neg akD]at h;exact nr ⟨d,U,_,r,p,e,h,λn v H' g w u nn=>q n v H' (c.trans g) w u (nn.dK c)⟩⟩
end
end aE
namespace aE
open PySem PySem.Spec aC PyProof.Rows
variable[aC.a4]
@[simp] def B9(ps:List (Str×D))(mk:bw)(U:aJ):M R:=do
 let k <-mk U
 match k with
 |.v (.str z)=>pure (.v ((ps.lookup z).getD .aI))|_=>bad
section
variable{X:aV}{x:Str}{ps:List (Str×D)}{e:Expr}{p apos dJ:Pos}{mk:bw}
def agG(T:KTab X.prog X.w X.K X.mg x ps)(G:d6 X x)(he:bc X e mk)(m:gf X (.Name x p) "get" apos e dJ:=by exact⟨rfl,rfl,rfl,rfl⟩)(W:(x==("__debug__":Str))=false:=by decide) :
  bc X (.Call (.Attribute (.Name x p) "get" apos) [e] [] dJ) (B9 ps mk):=⟨by
 rintro zn s U H Q J ⟨O,U',S,r,L,st,h,q⟩;obtain⟨y,S1,I,h⟩:=M.inv h;split at h
 .rename_i z
  cases h;obtain⟨a,D,n,⟨o,E⟩,hl,N,Z⟩:=T.ex;refine wpAny_Call_method m.base m.Ug m.line PySem.F.plainAttrs_dict apb PySem.F.type_dict_get (tf J G o ?_ W);have i:=J.f9 a _ hl;refine⟨⟨_,i,rfl⟩,λb e=>by cases e;exact⟨_,i,rfl⟩,?_⟩;rw[m.trees];refine anC rfl (Calls.evalArgs_plain (aop (bX (he.un zn s U H (λv l=>v=.str z/\∃c,Go O c H l/\cI X.K X.mg c U' L U l) J ⟨O,U',S,_,_,st,I,λc v l j g V nn=>⟨V,c,j,g⟩⟩) λC s2 ⟨y,f,B,P,Y,c,j,g⟩=>aoC ?_)));subst Y;obtain⟨t,rfl⟩:=P;have i:=B.f9 a _ hl;have mo:s2.heap.MapOf (anK X.prog X.w) a (aoo alD D):=⟨_,D,n,i,⟨rfl,rfl,rfl⟩,rfl,N,λ_=>rfl⟩;refine call_meetsIn apb mo.typeIs PySem.F.entry_dict_get (PySem.F.args_dict_get_2 _ _) (meets_dict_get (anK X.prog X.w) a (k:=z) ?_ E) ⟨_,mo,?_⟩
  .show(z==z)=true
   simp
  .have:=Z z
   cases au:ps.lookup z with
   |none=>
    rw[au]at this q;rw[this];exact⟨.aI,f,B.tok _,rfl,q c _ f j g rfl trivial⟩
   |some d=>
    rw[au]at this q;obtain⟨u,aF,v,R,A⟩:=this;rw[aF];exact⟨v,f,B.tok _,R,q c _ f j g (A c f) trivial⟩
 .cases h⟩
end
end aE
namespace aE
open PySem PySem.Spec aC
section
variable{P:List Value->Prop}
def PT(h:P []):∀us:List Value,us.length=0->P us:=λus e=>by rw[aoa e];exact h
def r2(h:∀a,∀us:List Value,us.length=n->P (a::us)):∀us:List Value,us.length=n+1->P us:=λus e=>by
 cases us with
 |nil=>cases e
 |cons a r=>exact h a r (Nat.succ.inj e)
def o2(h:∀a,P [a]):∀us:List Value,us.length=1->P us:=r2 λa=>PT (h a)
def qq(h:∀a b,P [a,b]):∀us:List Value,us.length=2->P us:=r2 λa=>o2 (h a)
def qr(h:∀a b c,P [a,b,c]):∀us:List Value,us.length=3->P us:=r2 λa=>qq (h a)
def AM(h:∀a b c d,P [a,b,c,d]):∀us:List Value,us.length=4->P us:=r2 λa=>qr (h a)
def AN(h:∀a b c d e,P [a,b,c,d,e]):∀us:List Value,us.length=5->P us:=r2 λa=>AM (h a)
def AO(h:∀a b c d e f,P [a,b,c,d,e,f]):∀us:List Value,us.length=6->P us:=r2 λa=>AN (h a)
def FY(h:∀a b c d e f g,P [a,b,c,d,e,f,g]):∀us:List Value,us.length=7->P us:=r2 λa=>AO (h a)
end
def Ly(N P:List Str)(a:Scope):Bool:=decide (a.kind=.function)&&!a.isCoroutine&&!a.isGenerator&&decide N.Nodup&&decide (N.take P.length=P)
&&P.all (λx=>decide (a.names.lookup x=some .local)||decide (a.names.lookup x=some .cell))&&a.names.all λy=>decide (y.2≠.free)
def sJ{N P:List Str}(h:Ly N P sc=true):gT N P sc:=by
 simp only[Ly,ak0,Bool.not_eq_true',decide_eq_true_eq,alg,ao4]at h;exact⟨h.1.1.1.1.1.1,h.1.1.1.1.1.2,h.1.1.1.1.2,h.1.1.1.2,h.1.1.2,h.1.2,h.2⟩
def Jh(EN xs:List Str)(cap:List Nat):List Str:=xs++cap.filterMap λk=>EN[k]?
def Ji(esc scope:Scope)(EN N:List Str)(n:Nat)(cap:List Nat):Bool:=decide (scope.kind=.function)&&scope.names.all (λy=>decide (y.2≠.cell))&&scope.names.all (λy=>decide (y.2=.local->scope.names.lookup y.1=some .local))
&&scope.names.all (λy=>decide (y.2=.free->esc.names.lookup y.1=some .cell\/esc.names.lookup y.1=some .free))&&decide N.Nodup&&decide (N.length=n+cap.length)
&&(akR cap.length).all λj=>decide (N[n+j]? = EN[cap.getD j 0]?)&&(match N[n+j]? with|some x=>decide (scope.names.lookup x=some .free)|none=>true)
def u7{EN xs:List Str}(h:Ji esc scope EN (Jh EN xs cap) xs.length cap=true):k1 esc scope EN (Jh EN xs cap) xs.length cap:=by
 simp only[Ji,ak0,decide_eq_true_eq,alg]at h;obtain⟨⟨⟨⟨⟨⟨e,f⟩,i⟩,k⟩,l⟩,m⟩,c⟩:=h;refine⟨e,f,i,k,l,m,λj d=>?_⟩;obtain⟨a,b⟩:=c j (ali.mpr d);refine⟨a,λx g=>?_⟩;rw[g]at b;exact of_decide_eq_true b
def qe{N:List Str}(h:decide N.Nodup=true):N.Nodup:=of_decide_eq_true h
def zV{p:Nat->Prop}(b:p 0)(a:∀n,p (n+1)):∀n,p n:=λn=>by cases n with|zero=>exact b|succ n=>exact a n
variable[aC.a4]
end aE
namespace aE
open PySem PySem.Spec aC
variable[aC.a4]
structure cA(K:aM)(mg:bl)(x:Str)(st:Stmt)(ps N:List Str):Prop where
 d:gR K mg x st ps
 s:gT N ps (dg st)
structure eB(K:aM)(mg:bl)(c m qual:Str)(st:Stmt)(ps N:List Str):Prop where
 d:xD K mg c m qual st ps
 s:gT N ps (dg st)
structure xE(K:aM)(mg:bl)(c m qual:Str)(st:Stmt)(ps N:List Str):Prop where
 d:A8 K mg c m qual st ps
 s:gT N ps (dg st)
section
variable(P:akZ)(w:World)(base:Heap){K:aM}{mg:bl}{x c m qual:Str}{st:Stmt}{ps N:List Str}
abbrev cZ(_:cA K mg x st ps N)(j k:Nat)(f:bp):Prop:=k<=j->eU P w K mg base x ps k (e1 K mg f)
abbrev xH(_:cA K mg x st ps N)(j k:Nat)(f:dX):Prop:=k<=j->eU P w K mg base x ps k (hJ K mg f)
abbrev i1(_:eB K mg c m qual st ps N)(j k:Nat)(f:bp):Prop:=k<=j->kr P w K mg base c m ps k (e1 K mg f)
abbrev ia(_:eB K mg c m qual st ps N)(j k:Nat)(f:dX):Prop:=k<=j->kr P w K mg base c m ps k (hJ K mg f)
abbrev A'(_:xE K mg c m qual st ps N)(j k:Nat)(f:dX):Prop:=k<=j->A_ P w K mg base c m ps k (hJ K mg f)
end
section
variable{P:akZ}{w:World}{base:Heap}{K:aM}{mg:bl}{x c m qual:Str}{st:Stmt}{ps N:List Str}{j k:Nat}{f:bp}{g:dX}{b:aP}{e:b2}
abbrev uG(P:akZ)(w:World)(K:aM)(mg:bl)(base:Heap)(N:List Str)(q:Str)(st:Stmt)(j k:Nat)(T:aV->List Stmt->Prop):Prop:=
 k+1<=j->∀(f:Addr)(a:Value)(A:ak4)(outer:List Env)(s:akC)(H:aw)(E:gy),cE k (A.deeper (alF q (dg st) s.heap.objs.size f a))->T (gX eA P w K mg base N q (dg st) f a A outer s H E).gB (fF st)
def c4(d:cA K mg x st ps N)(l:f=fnOf ps.length N.length b)(a:uG P w K mg base N x st j k (ht · · b)):cZ P w base d j (k+1) f:=λh=>by
 subst l;exact vt d.d d.s rfl rfl λf i A outer s H E aD=>(a h f i A outer s H E aD).un
def CY(d:cA K mg x st ps N)(i:g=fnX ps.length N.length e)(a:uG P w K mg base N x st j k (ih · · e)):xH P w base d j (k+1) g:=λh=>by
 subst i;exact Vu d.d d.s rfl rfl (a h)
def jD(d:eB K mg c m qual st ps N)(l:f=fnOf ps.length N.length b)(a:uG P w K mg base N qual st j k (ht · · b)):i1 P w base d j (k+1) f:=λh=>by
 subst l;exact Vt d.d d.s rfl rfl λf i A outer s H E aD=>(a h f i A outer s H E aD).un
def iP(d:eB K mg c m qual st ps N)(i:g=fnX ps.length N.length e)(a:uG P w K mg base N qual st j k (ih · · e)):ia P w base d j (k+1) g:=λh=>by
 subst i;exact Vs d.d d.s rfl rfl (a h)
def LH(d:xE K mg c m qual st ps N)(i:g=fnX ps.length N.length e)(a:uG P w K mg base N qual st j k (ih · · e)):A' P w base d j (k+1) g:=λh=>by
 subst i;exact Vr d.d d.s rfl rfl (a h)
end
end aE
set_option maxHeartbeats 0
namespace dR
open PySem PySem.Spec aC aE
def top(i:Nat):Stmt:=PySem.Challenge.pw_oneslate_k42_a_history.main.body.getD i (.Pass ⟨0,0,0,0⟩)
abbrev Pj:Stmt:=top 7
abbrev Ft:Stmt:=top 55
abbrev Fu:Stmt:=top 57
abbrev Fv:Stmt:=top 85
abbrev w3:Stmt:=top 105
def aeD:gT ["script","numbers","house","names","rows","k"] ["script"] (dg w3):=sJ (by kernel_rfl)
abbrev z1:List Str:=["me","epoch","hall","opening","over_known","greatest_round","last_stamp","wishes","deed","standing","last_outcome","grants","kept_mask","told_slate"]
abbrev z2:List Str:=["askers","books","letters","rows"]
abbrev zj:List (Str×D):=[("put",.t [(.str "name"),(.str "number")]),("add",.t [(.str "name"),(.str "number")]),("swap",.t [(.str "name"),(.str "number"),(.str "number")]),("take",.t [(.str "fence")]),("renew",.t [(.str "fence")]),("free",.t [(.str "fence")]),("sure",.t [(.str "fence"),(.str "name"),(.str "number")]),("move",.t [(.str "hall")]),("end",.t [])]
abbrev hn:List (Str×Str):=[("put","do_put"),("add","do_add"),("swap","do_swap"),("take","do_take"),("renew","do_renew"),("free","do_free"),("sure","do_sure"),("move","do_move"),("end","do_end")]
def xP[aC.a4](K:aM)(mg:bl)(x:Str)(st:Stmt):Prop:=∃c e6,pv K c e6 (tc x)/\∀(f:Addr)(cw:Value)(e:Option Addr)(du a g:Value)(d:Option Addr)(b cy:Value)(o:Array (Option Value)),mg x=some (.ref f)->K.lookup f=some ⟨cw,e,.func (amv x x (iM st) (fF st) (dg st) .none du a g d b cy),o⟩->b=.ref c
structure Txt[aC.a4](P:akZ)(w:World)(K:aM)(mg:bl)(base:Heap):Prop where
 Kq:cA K mg "is_whole" (top 1) o0 o0
 Ka:cA K mg "has_keeper" (top 2) ["mask","keeper"] ["mask","keeper"]
 KI:cA K mg "mask_of" (top 3) ["keepers"] ["keepers","mask","keeper"]
 Kr:cA K mg "keepers_of" (top 4) ["mask"] ["mask"]
 KJ:cA K mg "masks_within" (top 5) ["mask"] ["mask","masks","keeper"]
 Cj:cA K mg "highest" (top 7) ["grants","opening"] ["grants","opening","grant"]
 JS:cA K mg "all_alike" (top 8) ["grants"] ["grants"]
 J':cA K mg "granters" (top 9) ["grants"] ["grants"]
 Ki:cA K mg "is_keeper" (top 23) o0 o0
 Km:cA K mg "is_pair" (top 24) o0 o0
 Ke:cA K mg "is_choice" (top 25) o0 ["thing","many"]
 Ck:cA K mg "is_built" (top 26) ["thing","deep"] ["thing","deep"]
 Co:cA K mg "namings" (top 27) ["rule"] ["rule","keepers","part"]
 Ko:cA K mg "is_rule" (top 28) o0 o0
 KO:cA K mg "named" (top 29) ["rule"] ["rule"]
 Ci:cA K mg "fills" (top 30) ["rule","mask"] ["rule","mask"]
 Kj:cA K mg "is_least" (top 31) ["mask","filling"] ["mask","filling"]
 KG:cA K mg "least_masks" (top 32) ["rule"] ["rule","filling"]
 J8:cA K mg "first_apart" (top 34) ["mask","others"] ["mask","others","other"]
 KU:cA K mg "parting" (top 35) ["asking","keeping"] ["asking","keeping","others","mask","other"]
 Kh:cA K mg "is_hall" (top 36) o0 o0
 KL:cA K mg "members_mask" (top 37) ["hall"] ["hall"]
 KN:cA K mg "members_of" (top 38) ["hall"] ["hall"]
 Kk:cA K mg "is_name" (top 43) o0 o0
 Kl:cA K mg "is_number" (top 44) o0 o0
 Kg:cA K mg "is_fence" (top 45) o0 o0
 J9:cA K mg "form_of" (top 46) ["word"] ["word"]
 Kn:cA K mg "is_part" (top 47) ["kind","thing"] ["kind","thing"]
 Kf:cA K mg "is_deed" (top 48) o0 ["thing","form"]
 JV:cA K mg "blank" (top 50) [] []
 KD:cA K mg "lease_of" (top 51) P3 P3
 KV:cA K mg "shut_of" (top 52) P3 P3
 Kp:cA K mg "is_shut" (top 53) P3 P3
 JW:cA K mg "cell_of" (top 54) ["slate","name"] ["slate","name","cell"]
 Cp:cA K mg "with_cell" (top 55) ["slate","name","n"] ["slate","name","n","cells"]
 J6:cA K mg "doing_of" (top 56) ["slate","asker"] ["slate","asker","doing"]
 Cq:cA K mg "with_doing" (top 57) ["slate","asker","number","answer"] ["slate","asker","number","answer","doings"]
 KX:cA K mg "with_lease" (top 58) v6 v6
 KY:cA K mg "with_shut" (top 59) ["slate","shut"] ["slate","shut"]
 KQ:cA K mg "opened" (top 60) P3 P3
 J1:cA K mg "do_put" (top 62) T0 T0
 JX:cA K mg "do_add" (top 63) T0 ["slate","asker","deed","total"]
 J4:cA K mg "do_swap" (top 64) T0 T0
 KH:cA K mg "lent" (top 65) v6 v6
 KP:cA K mg "not_lent" (top 66) P3 ["slate","lease"]
 J5:cA K mg "do_take" (top 67) T0 T0
 J2:cA K mg "do_renew" (top 68) T0 T0
 JZ:cA K mg "do_free" (top 69) T0 T0
 J3:cA K mg "do_sure" (top 70) T0 T0
 J0:cA K mg "do_move" (top 71) T0 T0
 JY:cA K mg "do_end" (top 72) T0 T0
 KR:cA K mg "outcome_of" (top 74) T0 ["slate","asker","deed","doer"]
 J7:cA K mg "done_on" (top 75) ["slate","asker","number","deed"] ["slate","asker","number","deed","made"]
 JU:cA K mg "ask_letter" (top 77) ["asker","keeper","epoch","stamp"] ["asker","keeper","epoch","stamp"]
 KW:cA K mg "tell_letter" (top 78) f8 f8
 JT:cA K mg "answer_to" (top 79) ["letter","word","load"] ["letter","word","load"]
 J_:cA K mg "goes_to_keeper" (top 80) ["letter"] ["letter"]
 Jk:eB K mg "Asker" "__init__" "Asker.__init__" (inClass (top 82) 0) ["self","me","hall"] ["self","me","hall"]
 Jm:xE K mg "Asker" "begin" "Asker.begin" (inClass (top 82) 1) ["self","deed"] ["self","deed"]
 Jn:eB K mg "Asker" "bell" "Asker.bell" (inClass (top 82) 2) v0 v0
 Js:eB K mg "Asker" "hear" "Asker.hear" (inClass (top 82) 3) v4 v4
 Jz:eB K mg "Asker" "outcome" "Asker.outcome" (inClass (top 82) 4) v0 v0
 Jy:eB K mg "Asker" "number" "Asker.number" (inClass (top 82) 5) v0 v0
 JC:eB K mg "Asker" "stand" "Asker.stand" (inClass (top 82) 6) v0 v0
 JA:eB K mg "Asker" "place" "Asker.place" (inClass (top 82) 8) v0 v0
 Jw:eB K mg "Asker" "knows_over" "Asker.knows_over" (inClass (top 82) 9) v0 v0
 Jv:eB K mg "Asker" "is_for_now" "Asker.is_for_now" (inClass (top 82) 10) v4 v4
 Jl:eB K mg "Asker" "ask_members" "Asker.ask_members" (inClass (top 82) 11) v0 v0
 Jt:eB K mg "Asker" "hear_grant" "Asker.hear_grant" (inClass (top 82) 12) v4 v4
 Jq:eB K mg "Asker" "go_on" "Asker.go_on" (inClass (top 82) 13) ["self","pair"] ["self","pair","load"]
 JB:eB K mg "Asker" "sees_at_once" "Asker.sees_at_once" (inClass (top 82) 14) ["self","slate"] ["self","slate"]
 Ju:eB K mg "Asker" "hear_kept" "Asker.hear_kept" (inClass (top 82) 15) v4 ["self","letter","shut"]
 Jo:eB K mg "Asker" "end_where_told" "Asker.end_where_told" (inClass (top 82) 16) v0 ["self","slate","doing"]
 Jx:eB K mg "Asker" "learn_over" "Asker.learn_over" (inClass (top 82) 17) v0 v0
 Jr:eB K mg "Asker" "go_over" "Asker.go_over" (inClass (top 82) 18) ["self","hall"] ["self","hall"]
 Jp:eB K mg "Asker" "end_wish" "Asker.end_wish" (inClass (top 82) 19) ["self","outcome"] ["self","outcome"]
 KS:cA K mg "page_of" (top 84) ["book","epoch"] ["book","epoch","page"]
 Cr:cA K mg "with_page" (top 85) ["book","epoch","promised","kept","slate"] ["book","epoch","promised","kept","slate","pages"]
 Ks:cA K mg "late" (top 86) ["book","letter","promised"] ["book","letter","promised"]
 Kc:cA K mg "heard_ask" (top 87) u8 ["book","letter","stamp","page"]
 Kd:cA K mg "heard_tell" (top 88) u8 ["book","letter","stamp","promised"]
 Kb:cA K mg "heard" (top 89) u8 u8
 JD:eB K mg "House" "__init__" "House.__init__" (inClass (top 93) 0) ["self","hall","askers"] ["self","hall","askers"]
 JF:xE K mg "House" "begin" "House.begin" (inClass (top 93) 1) ["self","asker","deed"] ["self","asker","deed","one","letters"]
 JG:eB K mg "House" "bell" "House.bell" (inClass (top 93) 2) M2 M2
 JH:eB K mg "House" "bring" "House.bring" (inClass (top 93) 3) ["self","k"] ["self","k","letter"]
 JK:eB K mg "House" "history" "House.history" (inClass (top 93) 5) v0 v0
 JN:eB K mg "House" "many" "House.many" (inClass (top 93) 6) v0 v0
 JM:eB K mg "House" "letter" "House.letter" (inClass (top 93) 7) ["self","k"] ["self","k"]
 JO:eB K mg "House" "outcome" "House.outcome" (inClass (top 93) 9) M2 M2
 JQ:eB K mg "House" "stand" "House.stand" (inClass (top 93) 10) M2 M2
 JP:eB K mg "House" "place" "House.place" (inClass (top 93) 11) M2 M2
 JL:eB K mg "House" "knows_over" "House.knows_over" (inClass (top 93) 12) M2 M2
 JE:eB K mg "House" "asker_of" "House.asker_of" (inClass (top 93) 13) M2 M2
 JR:eB K mg "House" "write" "House.write" (inClass (top 93) 14) ["self","letters"] ["self","letters","first"]
 JJ:eB K mg "House" "bring_to_keeper" "House.bring_to_keeper" (inClass (top 93) 15) v4 ["self","letter","told"]
 JI:eB K mg "House" "bring_to_asker" "House.bring_to_asker" (inClass (top 93) 16) v4 ["self","letter","one","before","letters"]
 Kv:cA K mg "_law_cell_at" (top 95) ["script","k"] ["script","k"]
 Cn:cA K mg "_law_alike" (top 96) ["found","due"] ["found","due","k"]
 Ky:cA K mg "_law_flat" (top 97) ["cell"] ["cell","many","some","asks"]
 Kz:cA K mg "_law_hall" (top 98) ["cell"] ["cell","some","rule","rows","tops"]
 KA:cA K mg "_law_name" (top 99) ["cell"] ["cell","size","name"]
 KC:cA K mg "_law_names" (top 100) ["cell"] ["cell","letters","base","at","other","third"]
 Kw:cA K mg "_law_deed" (top 101) ["names","mixed","cell"] ["names","mixed","cell","name","n","fence","way"]
 Kt:cA K mg "_law_bring" (top 102) ["house","k","rows","numbers"] ["house","k","rows","numbers","letter","at","before","one"]
 Ku:cA K mg "_law_burst" (top 103) ["house","start","living","most","rows","numbers"] ["house","start","living","most","rows","numbers","k","letter","keeper"]
 Kx:cA K mg "_law_event" (top 104) ["house","names","rows","numbers","cell","k"] ["house","names","rows","numbers","cell","k","mixed","other","asker","start","deed","living"]
 Cm:gR K mg "law" w3 ["script"]
 nY:mM K mg "Asker" z1
 nZ:mM K mg "House" z2
 UH:∃u,mg "LAST_KEEPER"=some u/\RelV (.int 5) u
 UM:∃u,mg "MOST_PARTS"=some u/\RelV (.int 6) u
 UL:∃u,mg "MOST_NAMED"=some u/\RelV (.int 12) u
 UJ:∃u,mg "MOST_DEEP"=some u/\RelV (.int 4) u
 UN:∃u,mg "SMALL_LETTERS"=some u/\RelV (.str "abcdefghijklmnopqrstuvwxyz") u
 UK:∃u,mg "MOST_LETTERS"=some u/\RelV (.int 8) u
 UI:∃u,mg "MOST_ASKERS"=some u/\RelV (.int 6) u
 UG:∃u,mg "KEEPERS"=some u/\RelV (.int 6) u
 Az:uJ P w K mg "DOERS" hn
 DP:KTab P w K mg "FORMS" zj
 D0:xP K mg "highest" Pj
 D4:xP K mg "with_cell" Ft
 D5:xP K mg "with_doing" Fu
 D6:xP K mg "with_page" Fv
 bm:kq base mg
 B:Gk mg
 kt:xN K
section
variable[aC.a4]{P:akZ}{w:World}{K:aM}{mg:bl}{base:Heap}
def Sb:aP:=
  (aY (j6 (cJ gY (aa (I 0) (aa (af (.ty "int")) ai))) (u3 (cJ gY (aa (I 0) (aa (af (.ty "bool")) ai))))))
def ml:bp:=fnOf 1 1 Sb
def Hx:aP:=
  (aY (ae oEq (ae rI (ae tS (I 0) (I 1)) (af (.int 1))) (af (.int 1))))
def p':bp:=fnOf 2 2 Hx
def D2:aP:=
  (cn 1 (ae tP (I 1) (ae EJ (af (.int 1)) (I 2))))
def Ih:aP:=
  (aY (I 1))
def Ig:aP:=
  bM (ky 2 (vH (I 0)) D2) Ih
def Ie:aP:=
  bM (cn 1 (af (.int 0))) Ig
def lp:bp:=fnOf 1 3 Ie
def HS:aP:=
  (aY (fl 1 [0] (iu (aa (bf oBits (I 0)) ai)) (aL (bo p' (aa (I 1) (aa (I 0) ai)))) (I 0)))
def tw:bp:=fnOf 1 1 HS
def D3:aP:=
  (cn 1 (ae wH (I 1) (fl 1 [2] (nq (I 1)) fJ (ae eN (I 0) (bo lp (aa (eu (aa (I 1) ai)) ai))))))
def Ik:aP:=
  (aY (I 1))
def Ij:aP:=
  bM (ky 2 (vH (bo tw (aa (I 0) ai))) D3) Ik
def Ii:aP:=
  bM (cn 1 (eu (aa (af (.int 0)) ai))) Ij
def zJ:bp:=fnOf 1 3 Ii
def HB:aP:=
  (aY (bO (aa (ae aH (I 2) (af (.int 1))) (aa (ae aH (I 2) (af (.int 2))) ai))))
def HA:aP:=
  bM (b8 (aL (ae oEq (ae aH (I 2) (af (.int 1))) (bO (aa (af (.int 0)) (aa (af (.int 0)) ai))))) (aY (bO (aa (ae aH (I 2) (af (.int 1))) (aa (I 1) ai)))) bQ) HB
def BR:aP:=
  bM (cn 2 (yf (fnOf 1 1 (aY (ae aH (I 0) (af (.int 1))))) (I 0))) HA
def zE:bp:=fnOf 2 3 BR
def Wg(T:Txt P w K mg base):eU P w K mg base "highest" ["grants","opening"] 4 (e1 K mg zE):=by
 show eU P w K mg base _ _ _ (e1 K mg (fnOf 2 3 BR));obtain⟨c,e6,L,b⟩:=T.D0;refine yQ (k:=3) T.Cj.d b T.Cj.s rfl rfl λf A outer s H E aD=>?_
 have a:=aD.units;refine ht.un ?_;refine nN ?_ (nN ?_ (qw ?_))
 .exact(F5 (i:=2) T.Cj.s.fB rfl (.inl rfl) (agw (k:=0) (N:=["one"]) (p1:="one") rfl T.B.max (aD.mono (by omega)) L T.bm rfl rfl ⟨rfl,rfl,rfl,by decide +kernel,rfl,by decide +kernel,by decide +kernel⟩ (λ_ _ _ _=>rfl) (λ_ _ _ _ _ _=>(ho hg g7 (dM 0) gG)) (dM 0)))
 .exact(F4 (iY (EV a) BA (ho hg g7 (dM 2) gG) (o7 (eO gG (eO gG iX)))) (qw (r6 (o7 (eO (ho hg g7 (dM 2) gG) (eO (dM 1) iX))))) F6)
 .exact(r6 (o7 (eO (ho hg g7 (dM 2) gG) (eO (ho hg g7 (dM 2) gG) iX))))
def Hh:aP:=
  (aY (cJ n7 (aa (fl 1 [0] (nq (I 0)) fJ (ae oEq (ae aH (I 0) (af (.int 1))) (ae aH (ae aH (I 1) (af (.int 0))) (af (.int 1))))) ai)))
def v5:bp:=fnOf 1 1 Hh
def Hw:aP:=
  (aY (bo lp (aa (fl 1 [] (nq (I 0)) fJ (ae aH (I 0) (af (.int 0)))) ai)))
def oy:bp:=fnOf 1 1 Hw
def HL:aP:=
  (aY (j6 (bo ml (aa (I 0) ai)) (eI oLe oLe (af (.int 0)) (I 0) (af (.int 5)))))
def wb:bp:=fnOf 1 1 HL
def Sa:aP:=
  (aY (j6 (cJ gY (aa (I 0) (aa (af (.ty "tuple")) ai))) (ae oEq (cJ fS (aa (I 0) ai)) (af (.int 2)))))
def zG:bp:=fnOf 1 1 Sa
def HD:aP:=
  (aY (j6 (ae oLe (I 1) (af (.int 6))) (eI oLe oLe (af (.int 1)) (ae aH (I 0) (af (.int 0))) (I 1))))
def R':aP:=
  bM (b8 (gb (ep (aL (bo zG (aa (I 0) ai)))) (gb (ep (aL (bo ml (aa (ae aH (I 0) (af (.int 0))) ai)))) (ep (aL (cJ gY (aa (ae aH (I 0) (af (.int 1))) (aa (af (.ty "tuple")) ai))))))) (aY (af (.ax false))) bQ) (bM (cn 1 (cJ fS (aa (ae aH (I 0) (af (.int 1))) ai))) HD)
def Em:bp:=fnOf 1 2 R'
def R_(self:bp):aP:=
  (aY (cJ n7 (aa (fl 1 [1] (lj (ae aH (I 0) (af (.int 1)))) fJ (bo self (aa (I 0) (aa (ae nD (I 1) (af (.int 1))) ai)))) ai)))
def R9(self:bp):aP:=
  bM (b8 (gb (aL (ae oEq (I 1) (af (.int 0)))) (ep (aL (bo Em (aa (I 0) ai))))) (aY (af (.ax false))) bQ) (R_ self)
def HC(self:bp):aP:=
  bM (b8 (aL (bo wb (aa (I 0) ai))) (aY (af (.ax true))) bQ) (R9 self)
def rD:Nat->bp
 |0=>λ_=>bad
 |n+1=>fnOf 2 2 (HC (rD n))
def vR(self:bp):aP:=
  (qR 1 xf (aa (bo self (aa (I 2) ai)) ai))
def Ir(self:bp):aP:=
  (yg 1)
def Iq(self:bp):aP:=
  bM (ky 2 (lj (ae aH (I 0) (af (.int 1)))) (vR self)) (Ir self)
def Ip(self:bp):aP:=
  bM (m5 1 (eu ai)) (Iq self)
def x9(self:bp):aP:=
  bM (b8 (aL (bo ml (aa (I 0) ai))) (aY (eu (aa (I 0) ai))) bQ) (Ip self)
def mn:Nat->bp
 |0=>λ_=>bad
 |n+1=>fnOf 1 3 (x9 (mn n))
def HQ:aP:=
  (aY (j6 (bo (rD 12) (aa (I 0) (aa (af (.int 4)) ai))) (ae oLe (cJ fS (aa (bo (mn 12) (aa (I 0) ai)) ai)) (af (.int 12)))))
def wg:bp:=fnOf 1 1 HQ
def Io:aP:=
  (aY (bo lp (aa (bo (mn 12) (aa (I 0) ai)) ai)))
def tB:bp:=fnOf 1 1 Io
def Hr(self:bp):aP:=
  (aY (ae tR (cJ fS (aa (fl 1 [1] (lj (ae aH (I 0) (af (.int 1)))) (aL (bo self (aa (I 0) (aa (I 1) ai)))) (I 0)) ai)) (ae aH (I 0) (af (.int 0)))))
def x6(self:bp):aP:=
  bM (b8 (aL (bo ml (aa (I 0) ai))) (aY (bo p' (aa (I 1) (aa (I 0) ai)))) bQ) (Hr self)
def je:Nat->bp
 |0=>λ_=>bad
 |n+1=>fnOf 2 2 (x6 (je n))
def HM:aP:=
  (aY (u3 (cJ vh (aa (fl 1 [0,1] (nq (bo tw (aa (I 0) ai))) fJ (ae (kO false) (ae nD (I 1) (bo lp (aa (eu (aa (I 0) ai)) ai))) (I 2))) ai))))
def wc:bp:=fnOf 2 2 HM
def Ib:aP:=
  (aY (fl 1 [1] (nq (I 1)) (aL (bo wc (aa (I 0) (aa (I 1) ai)))) (I 0)))
def Ia:aP:=
  bM (cn 1 (fl 1 [0] (nq (bo zJ (aa (bo tB (aa (I 0) ai)) ai))) (aL (bo (je 12) (aa (I 1) (aa (I 0) ai)))) (I 0))) Ib
def wj:bp:=fnOf 1 2 Ia
def zm:aP:=
  (b8 (aL (ae oEq (ae rI (I 0) (I 2)) (af (.int 0)))) (aY (I 2)) bQ)
def Ht:aP:=
  (aY (af (.aI)))
def Hs:aP:=
  bM (ky 2 (vH (I 1)) zm) Ht
def wa:bp:=fnOf 2 3 Hs
def zq:aP:=
  (bM (cn 4 (bo wa (aa (I 3) (aa (I 2) ai))))
  (b8 (aL (ae hF (I 4) (af (.aI)))) (aY (bO (aa (I 3) (aa (I 4) ai)))) bQ))
def IB:aP:=
  (aY (af (.aI)))
def IA:aP:=
  bM (ky 3 (vH (bo wj (aa (I 0) ai))) zq) IB
def Iz:aP:=
  bM (cn 2 (bo wj (aa (I 1) ai))) IA
def zL:bp:=fnOf 2 5 Iz
def HK:aP:=
  (aY (ae h4 (bo zL (aa (ae aH (I 0) (af (.int 0))) (aa (ae aH (I 0) (af (.int 1))) ai))) (af (.aI))))
def HJ:aP:=
  bM (b8 (gb (ep (aL (bo zG (aa (I 0) ai)))) (gb (ep (aL (bo wg (aa (ae aH (I 0) (af (.int 0))) ai)))) (ep (aL (bo wg (aa (ae aH (I 0) (af (.int 1))) ai)))))) (aY (af (.ax false))) bQ) HK
def qa:bp:=fnOf 1 1 HJ
def Il:aP:=
  (aY (ae tP (bo tB (aa (ae aH (I 0) (af (.int 0))) ai)) (bo tB (aa (ae aH (I 0) (af (.int 1))) ai))))
def zK:bp:=fnOf 1 1 Il
def Im:aP:=
  (aY (bo tw (aa (bo zK (aa (I 0) ai)) ai)))
def mm:bp:=fnOf 1 1 Im
def HO:aP:=
  (aY (cJ n7 (aa (fl 1 [] (ME (I 0)) fJ (ae (rK false) (I 0) (af (.str "abcdefghijklmnopqrstuvwxyz")))) ai)))
def HN:aP:=
  bM (b8 (gb (ep (aL (cJ gY (aa (I 0) (aa (af (.ty "str")) ai))))) (ep (aL (eI oLe oLe (af (.int 1)) (cJ nc (aa (I 0) ai)) (af (.int 8)))))) (aY (af (.ax false))) bQ) HO
def wd:bp:=fnOf 1 1 HN
def HP:aP:=
  (aY (j6 (bo ml (aa (I 0) ai)) (ae oLt (cJ vg (aa (I 0) ai)) (ae oI (af (.int 10)) (af (.int 60))))))
def we:bp:=fnOf 1 1 HP
def HI:aP:=
  (aY (j6 (bo we (aa (I 0) ai)) (ae tR (I 0) (af (.int 0)))))
def zF:bp:=fnOf 1 1 HI
def Hu:aP:=
  (aY (B9 zj (I 0)))
def El:bp:=fnOf 1 1 Hu
def uY:aP:=
  (aY (bo qa (aa (I 1) ai)))
def uX:aP:=
  bM (b8 (aL (ae oEq (I 0) (af (.str "fence")))) (aY (bo zF (aa (I 1) ai))) bQ) uY
def uW:aP:=
  bM (b8 (aL (ae oEq (I 0) (af (.str "number")))) (aY (bo we (aa (I 1) ai))) bQ) uX
def uV:aP:=
  bM (b8 (aL (ae oEq (I 0) (af (.str "name")))) (aY (bo wd (aa (I 1) ai))) bQ) uW
def oz:bp:=fnOf 2 2 uV
def HH:aP:=
  (aY (cJ n7 (aa (u2 [] (aa (I 1) (aa (B7 (I 0) (m6 (af (.int 1))) lV) ai)) fJ (bo oz (aa (I 0) (aa (I 1) ai)))) ai)))
def HG:aP:=
  bM (b8 (gb (aL (ae h4 (I 1) (af (.aI)))) (aL (ae dI (cJ fS (aa (I 0) ai)) (ae eN (cJ fS (aa (I 1) ai)) (af (.int 1)))))) (aY (af (.ax false))) bQ) HH
def HF:aP:=
  bM (cn 1 (bo El (aa (ae aH (I 0) (af (.int 0))) ai))) HG
def HE:aP:=
  bM (b8 (gb (ep (aL (cJ gY (aa (I 0) (aa (af (.ty "tuple")) ai))))) (gb (aL (ae oEq (cJ fS (aa (I 0) ai)) (af (.int 0)))) (ep (aL (cJ gY (aa (ae aH (I 0) (af (.int 0))) (aa (af (.ty "str")) ai))))))) (aY (af (.ax false))) bQ) HF
def nA:bp:=fnOf 1 2 HE
def R5:aP:=
  (aY (bO (aa (bO ai) (aa (bO ai) (aa (bO (aa (af (.int 0)) (aa (af (.aI)) ai))) (aa (af (.aI)) ai))))))
def NB:bp:=fnOf 0 0 R5
def m1:aP:=
  (aY (ae aH (I 0) (af (.int 2))))
def jQ:bp:=fnOf 1 1 m1
def BW:aP:=
  (aY (ae aH (I 0) (af (.int 3))))
def oB:bp:=fnOf 1 1 BW
def HR:aP:=
  (aY (ae hF (bo oB (aa (I 0) ai)) (af (.aI))))
def mj:bp:=fnOf 1 1 HR
def zk:aP:=
  (b8 (aL (ae oEq (ae aH (I 2) (af (.int 0))) (I 1))) (aY (ae aH (I 2) (af (.int 1)))) bQ)
def Hj:aP:=
  (aY (af (.int 0)))
def Hi:aP:=
  bM (ky 2 (lj (ae aH (I 0) (af (.int 0)))) zk) Hj
def tp:bp:=fnOf 2 3 Hi
def ID:aP:=
  (aY (bO (aa (cJ pP (aa (pE mb (fnOf 1 1 (aY (ae aH (I 0) (af (.int 0))))) (I 3)) ai)) (aa (ae aH (I 0) (af (.int 1))) (aa (ae aH (I 0) (af (.int 2))) (aa (ae aH (I 0) (af (.int 3))) ai))))))
def IC:aP:=
  bM (b8 (aL (ae dI (I 2) (af (.int 0)))) (qR 3 jo (aa (bO (aa (I 1) (aa (I 2) ai))) ai)) bQ) ID
def BX:aP:=
  bM (m5 3 (fl 1 [1] (lj (ae aH (I 0) (af (.int 0)))) (aL (ae dI (ae aH (I 0) (af (.int 0))) (I 1))) (I 0))) IC
def rE:bp:=fnOf 3 4 BX
def W0(T:Txt P w K mg base):eU P w K mg base "with_cell" ["slate","name","n"] 4 (e1 K mg rE):=by
 show eU P w K mg base _ _ _ (e1 K mg (fnOf 3 4 BX));obtain⟨c,e6,L,b⟩:=T.D4;refine yQ (k:=3) T.Cp.d b T.Cp.s rfl rfl λf A outer s H E aD=>?_
 have a:=aD.units;refine ht.un ?_;refine nN ?_ (nN ?_ (qw ?_))
 .exact(AV (i:=3) (esc:=(dg Ft)) (EN:=["slate","name","n","cells"]) (N:=["cell","name"]) (n:=1) (cap:=[1]) ⟨rfl,by decide +kernel,by decide +kernel,by decide +kernel,by decide +kernel,rfl,by decide +kernel⟩ T.Cp.s.fB rfl rfl (by decide) (AP (ho hg g7 (dM 0) gG)) rfl (λ_ _ _ _=>⟨amw rfl,rfl⟩) (λ_ _ _ _=>(AQ (iY (tV a) sq (ho hg g7 (dM 0) gG) (dM 1)))) (λ_ _ _ _=>(dM 0)))
 .exact(F4 (iY (tV a) sq (dM 2) gG) (qw (xl (i:=3) amr ams tI vV (eO (o7 (eO (dM 1) (eO (dM 2) iX))) iX) rfl (.inl rfl))) F6)
 .exact(r6 (o7 (eO (xj yi zd rfl T.B.tuple' u0 (eO (F0 (k:=0) (N:=["cell"]) (p1:="cell") Zd rfl T.B.sorted (aD.mono (by omega)) L T.bm rfl rfl ⟨rfl,rfl,rfl,by decide +kernel,rfl,by decide +kernel,by decide +kernel⟩ (λ_ _ _ _=>rfl) (λ_ _ _ _ _ _=>(ho hg g7 (dM 0) gG)) (dM 3)) iX)) (eO (ho hg g7 (dM 0) gG) (eO (ho hg g7 (dM 0) gG) (eO (ho hg g7 (dM 0) gG) iX))))))
def zl:aP:=
  (b8 (aL (ae oEq (ae aH (I 2) (af (.int 0))) (I 1))) (aY (I 2)) bQ)
def Hq:aP:=
  (aY (bO (aa (I 1) (aa (af (.int 0)) (aa (af (.aI)) ai)))))
def Hp:aP:=
  bM (ky 2 (lj (ae aH (I 0) (af (.int 1)))) zl) Hq
def p_:bp:=fnOf 2 3 Hp
def IF:aP:=
  (aY (bO (aa (ae aH (I 0) (af (.int 0))) (aa (cJ pP (aa (pE fs (fnOf 1 1 (aY (ae aH (I 0) (af (.int 0))))) (I 4)) ai)) (aa (ae aH (I 0) (af (.int 2))) (aa (ae aH (I 0) (af (.int 3))) ai))))))
def IE:aP:=
  bM (qR 4 jo (aa (bO (aa (I 1) (aa (I 2) (aa (I 3) ai)))) ai)) IF
def BY:aP:=
  bM (m5 4 (fl 1 [1] (lj (ae aH (I 0) (af (.int 1)))) (aL (ae dI (ae aH (I 0) (af (.int 0))) (I 1))) (I 0))) IE
def zM:bp:=fnOf 4 5 BY
def W2(T:Txt P w K mg base):eU P w K mg base "with_doing" ["slate","asker","number","answer"] 4 (e1 K mg zM):=by
 show eU P w K mg base _ _ _ (e1 K mg (fnOf 4 5 BY));obtain⟨c,e6,L,b⟩:=T.D5;refine yQ (k:=3) T.Cq.d b T.Cq.s rfl rfl λf A outer s H E aD=>?_
 have a:=aD.units;refine ht.un ?_;refine nN ?_ (nN ?_ (qw ?_))
 .exact(AV (i:=4) (esc:=(dg Fu)) (EN:=["slate","asker","number","answer","doings"]) (N:=["doing","asker"]) (n:=1) (cap:=[1]) ⟨rfl,by decide +kernel,by decide +kernel,by decide +kernel,by decide +kernel,rfl,by decide +kernel⟩ T.Cq.s.fB rfl rfl (by decide) (AP (ho hg g7 (dM 0) gG)) rfl (λ_ _ _ _=>⟨amw rfl,rfl⟩) (λ_ _ _ _=>(AQ (iY (tV a) sq (ho hg g7 (dM 0) gG) (dM 1)))) (λ_ _ _ _=>(dM 0)))
 .exact(xl (i:=4) amr ams tI vV (eO (o7 (eO (dM 1) (eO (dM 2) (eO (dM 3) iX)))) iX) rfl (.inl rfl))
 .exact(r6 (o7 (eO (ho hg g7 (dM 0) gG) (eO (xj yi zd rfl T.B.tuple' u0 (eO (F0 (k:=0) (N:=["doing"]) (p1:="doing") Nc rfl T.B.sorted (aD.mono (by omega)) L T.bm rfl rfl ⟨rfl,rfl,rfl,by decide +kernel,rfl,by decide +kernel,by decide +kernel⟩ (λ_ _ _ _=>rfl) (λ_ _ _ _ _ _=>(ho hg g7 (dM 0) gG)) (dM 4)) iX)) (eO (ho hg g7 (dM 0) gG) (eO (ho hg g7 (dM 0) gG) iX))))))
def IG:aP:=
  (aY (bO (aa (ae aH (I 0) (af (.int 0))) (aa (ae aH (I 0) (af (.int 1))) (aa (bO (aa (I 1) (aa (I 2) ai))) (aa (ae aH (I 0) (af (.int 3))) ai))))))
def zN:bp:=fnOf 3 3 IG
def IJ:aP:=
  (aY (bO (aa (ae aH (I 0) (af (.int 0))) (aa (ae aH (I 0) (af (.int 1))) (aa (ae aH (I 0) (af (.int 2))) (aa (I 1) ai))))))
def tE:bp:=fnOf 2 2 IJ
def Iv:aP:=
  (aY (bo tE (aa (I 0) (aa (af (.aI)) ai))))
def tD:bp:=fnOf 1 1 Iv
def Ho:aP:=
  (aY (bO (aa (bo rE (aa (I 0) (aa (ae aH (I 2) (af (.int 1))) (aa (ae aH (I 2) (af (.int 2))) ai)))) (aa (bo tp (aa (I 0) (aa (ae aH (I 2) (af (.int 1))) ai))) ai))))
def v':bp:=fnOf 3 3 Ho
def Hl:aP:=
  (aY (bO (aa (bo rE (aa (I 0) (aa (ae aH (I 2) (af (.int 1))) (aa (I 3) ai)))) (aa (I 3) ai))))
def Hk:aP:=
  bM (cn 3 (ae eN (bo tp (aa (I 0) (aa (ae aH (I 2) (af (.int 1))) ai))) (ae aH (I 2) (af (.int 2))))) Hl
def v8:bp:=fnOf 3 4 Hk
def BL:aP:=
  (aY (bO (aa (bo rE (aa (I 0) (aa (ae aH (I 2) (af (.int 1))) (aa (ae aH (I 2) (af (.int 3))) ai)))) (aa (af (.int 1)) ai))))
def BK:aP:=
  bM (b8 (aL (ae dI (bo tp (aa (I 0) (aa (ae aH (I 2) (af (.int 1))) ai))) (ae aH (I 2) (af (.int 2))))) (aY (bO (aa (I 0) (aa (af (.int 0)) ai)))) bQ) BL
def tu:bp:=fnOf 3 3 BK
def Ic:aP:=
  (aY (bO (aa (bo zN (aa (I 0) (aa (ae eN (I 1) (af (.int 1))) (aa (I 2) ai)))) (aa (bO (aa (af (.int 1)) (aa (ae eN (I 1) (af (.int 1))) (aa (I 2) ai)))) ai))))
def tA:bp:=fnOf 3 3 Ic
def Iu:aP:=
  (aY (bO (aa (I 0) (aa (bO (aa (af (.int 0)) (aa (ae aH (I 1) (af (.int 0))) (aa (ae aH (I 1) (af (.int 1))) ai)))) ai))))
def It:aP:=
  bM (cn 1 (bo jQ (aa (I 0) ai))) Iu
def tC:bp:=fnOf 1 2 It
def BN:aP:=
  (aY (bo tA (aa (I 0) (aa (ae aH (I 2) (af (.int 1))) (aa (I 1) ai)))))
def BM:aP:=
  bM (b8 (aL (ae dI (ae aH (bo jQ (aa (I 0) ai)) (af (.int 0))) (ae aH (I 2) (af (.int 1))))) (aY (bo tC (aa (I 0) ai))) bQ) BN
def tv:bp:=fnOf 3 3 BM
def BH:aP:=
  (aY (bo tA (aa (I 0) (aa (ae aH (I 2) (af (.int 1))) (aa (I 1) ai)))))
def BG:aP:=
  bM (b8 (aL (ae dI (bo jQ (aa (I 0) ai)) (bO (aa (ae aH (I 2) (af (.int 1))) (aa (I 1) ai))))) (aY (bo tC (aa (I 0) ai))) bQ) BH
def tr:bp:=fnOf 3 3 BG
def BF:aP:=
  (aY (bo tA (aa (I 0) (aa (ae aH (I 2) (af (.int 1))) (aa (af (.aI)) ai)))))
def BE:aP:=
  bM (b8 (aL (ae dI (bo jQ (aa (I 0) ai)) (bO (aa (ae aH (I 2) (af (.int 1))) (aa (I 1) ai))))) (aY (bo tC (aa (I 0) ai))) bQ) BF
def tq:bp:=fnOf 3 3 BE
def BJ:aP:=
  (aY (bO (aa (bo rE (aa (I 0) (aa (ae aH (I 2) (af (.int 2))) (aa (ae aH (I 2) (af (.int 3))) ai)))) (aa (af (.int 1)) ai))))
def BI:aP:=
  bM (b8 (aL (ae dI (bo jQ (aa (I 0) ai)) (bO (aa (ae aH (I 2) (af (.int 1))) (aa (I 1) ai))))) (aY (bO (aa (I 0) (aa (af (.int 0)) ai)))) bQ) BJ
def ts:bp:=fnOf 3 3 BI
def Hn:aP:=
  (aY (bO (aa (bo tE (aa (I 0) (aa (ae aH (I 2) (af (.int 1))) ai))) (aa (af (.int 1)) ai))))
def v_:bp:=fnOf 3 3 Hn
def Hm:aP:=
  (aY (bO (aa (bo tE (aa (I 0) (aa (af (.str "over")) ai))) (aa (af (.int 1)) ai))))
def v9:bp:=fnOf 3 3 Hm
abbrev hS:List (Str×bp):=[("do_put",v'),("do_add",v8),("do_swap",tu),("do_take",tv),("do_renew",tr),("do_free",tq),("do_sure",ts),("do_move",v_),("do_end",v9)]
def m3:aP:=
  (aY (B5 3 hS (aa (I 0) (aa (I 1) (aa (I 2) ai)))))
def m2:aP:=
  bM (cn 3 (B8 hn (ae aH (I 2) (af (.int 0))))) m3
def e_:bp:=fnOf 3 4 m2
def BQ:aP:=
  (aY (bo zM (aa (ae aH (I 4) (af (.int 0))) (aa (I 1) (aa (I 2) (aa (ae aH (I 4) (af (.int 1))) ai))))))
def BP:aP:=
  bM (cn 4 (bo e_ (aa (I 0) (aa (I 1) (aa (I 3) ai))))) BQ
def BO:aP:=
  bM (b8 (gb (aL (ae h4 (I 3) (af (.aI)))) (gb (aL (bo mj (aa (I 0) ai))) (aL (ae tR (ae aH (bo p_ (aa (I 0) (aa (I 1) ai))) (af (.int 1))) (I 2))))) (aY (I 0)) bQ) BP
def nz:bp:=fnOf 4 5 BO
def R4:aP:=
  (aY (bO (aa (af (.str "ask")) (aa (I 0) (aa (I 1) (aa (I 2) (aa (I 3) (aa (bO ai) ai))))))))
def NA:bp:=fnOf 4 4 R4
def Sk:aP:=
  (aY (bO (aa (af (.str "tell")) (aa (I 0) (aa (I 1) (aa (I 2) (aa (I 3) (aa (I 4) ai))))))))
def NF:bp:=fnOf 5 5 Sk
def R3:aP:=
  (aY (bO (aa (I 1) (aa (ae aH (I 0) (af (.int 2))) (aa (ae aH (I 0) (af (.int 1))) (aa (ae aH (I 0) (af (.int 3))) (aa (ae aH (I 0) (af (.int 4))) (aa (I 2) ai))))))))
def v7:bp:=fnOf 3 3 R3
def Hv:aP:=
  (aY (ae (kO false) (ae aH (I 0) (af (.int 0))) (bO (aa (af (.str "ask")) (aa (af (.str "tell")) ai)))))
def ox:bp:=fnOf 1 1 Hv
def G5:b2:=
  bE (dP "Asker" "me" (I 0) (dr (I 1))) (bE (dP "Asker" "epoch" (I 0) (dr (af (.int 0)))) (bE (dP "Asker" "hall" (I 0) (dr (I 2))) (bE (dP "Asker" "opening" (I 0) (dr (bo NB ai))) (bE (dP "Asker" "over_known" (I 0) (dr (af (.ax false)))) (bE (dP "Asker" "greatest_round" (I 0) (dr (af (.int 0)))) (bE (dP "Asker" "last_stamp" (I 0) (dr (bO (aa (af (.int 0)) (aa (af (.int 0)) ai))))) (bE (dP "Asker" "wishes" (I 0) (dr (af (.int 0)))) (bE (dP "Asker" "deed" (I 0) (dr (af (.aI)))) (bE (dP "Asker" "standing" (I 0) (dr (af (.str "calm")))) (bE (dP "Asker" "last_outcome" (I 0) (dr (af (.aI)))) (bE (dP "Asker" "grants" (I 0) (jU (dr (eu ai)))) (bE (dP "Asker" "kept_mask" (I 0) (dr (af (.int 0)))) (dP "Asker" "told_slate" (I 0) (dr (af (.aI))))))))))))))))
def th:dX:=fnX 3 3 G5
def RE:b2:=
  bE (dP "Asker" "greatest_round" (I 0) (dr (ae eN (bf (bY "Asker" "greatest_round") (I 0)) (af (.int 1))))) (bE (dP "Asker" "last_stamp" (I 0) (dr (bO (aa (bf (bY "Asker" "greatest_round") (I 0)) (aa (bf (bY "Asker" "me") (I 0)) ai))))) (bE (dP "Asker" "standing" (I 0) (dr (af (.str "asking")))) (bE (dP "Asker" "grants" (I 0) (jU (dr (eu ai)))) (b9 (aY (fl 1 [0] (nq (bo mm (aa (bf (bY "Asker" "hall") (I 0)) ai))) fJ (bo NA (aa (bf (bY "Asker" "me") (I 1)) (aa (I 0) (aa (bf (bY "Asker" "epoch") (I 1)) (aa (bf (bY "Asker" "last_stamp") (I 1)) ai)))))))))))
def vW:dX:=fnX 1 1 RE
def G6:b2:=
  bE (b9 (b8 (gr (aL (ae hF (I 1) (af (.aI)))) (ep (aL (bo nA (aa (I 1) ai))))) nX bQ)) (bE (b9 (b8 (aL (bf (bY "Asker" "over_known") (I 0))) nX bQ)) (bE (b9 (b8 (aL (ae dI (bf (bY "Asker" "standing") (I 0)) (af (.str "calm")))) nX bQ)) (bE (dP "Asker" "wishes" (I 0) (dr (ae eN (bf (bY "Asker" "wishes") (I 0)) (af (.int 1))))) (bE (dP "Asker" "deed" (I 0) (dr (I 1))) (bE (dP "Asker" "last_outcome" (I 0) (dr (af (.aI)))) (iA (d5 "Asker" "ask_members" vW (I 0) qx)))))))
def zy:dX:=fnX 2 2 G6
def RF:b2:=
  bE (b9 (b8 (aL (ae oEq (bf (bY "Asker" "standing") (I 0)) (af (.str "calm")))) (aY (eu ai)) bQ)) (iA (d5 "Asker" "ask_members" vW (I 0) qx))
def ti:dX:=fnX 1 1 RF
def RJ:aP:=
  bM (b8 (gb (aL (ae dI (ae aH (I 1) (af (.int 3))) (bf (bY "Asker" "epoch") (I 0)))) (aL (ae dI (ae aH (I 1) (af (.int 4))) (bf (bY "Asker" "last_stamp") (I 0))))) (aY (af (.ax false))) bQ) (aY (ae (kO false) (ae aH (I 1) (af (.int 1))) (bo mm (aa (bf (bY "Asker" "hall") (I 0)) ai))))
def zz:bp:=fnOf 2 2 RJ
def Hc:aP:=
  bM (b8 (gb (aL (bo mj (aa (I 1) ai))) (ep (aL (bo v5 (aa (e9 (bf (bY "Asker" "grants") (I 0))) ai))))) (aY (af (.ax false))) bQ) (aY (bo (je 12) (aa (ae aH (bf (bY "Asker" "hall") (I 0)) (af (.int 1))) (aa (bo oy (aa (e9 (bf (bY "Asker" "grants") (I 0))) ai)) ai))))
def vX:bp:=fnOf 2 2 Hc
def G9:b2:=
  bE (dP "Asker" "standing" (I 0) (dr (af (.str "calm")))) (dP "Asker" "last_outcome" (I 0) (dr (I 1)))
def p6:dX:=fnX 2 2 G9
def RG:b2:=
  bE (e2 (fM (gr (aL (ae h4 (bf (bY "Asker" "deed") (I 0)) (af (.aI)))) (aL (c0 "Asker" "sees_at_once" vX (I 0) (aa (ae aH (I 1) (af (.int 1))) ai))))) (bE (iz (d5 "Asker" "end_wish" p6 (I 0) (ez (aa (bO (aa (af (.str "saw")) (aa (bO (aa (bf (bY "Asker" "epoch") (I 0)) (aa (ae aH (I 1) (af (.int 0))) (aa (ae aH (I 1) (af (.int 1))) ai)))) ai))) ai))))
  (b9 (aY (eu ai)))) (b9 bQ)) (bE (dP "Asker" "standing" (I 0) (dr (af (.str "telling")))) (bE (dP "Asker" "kept_mask" (I 0) (dr (af (.int 0)))) (bE (dP "Asker" "told_slate" (I 0) (dr (bo nz (aa (ae aH (I 1) (af (.int 1))) (aa (bf (bY "Asker" "me") (I 0)) (aa (bf (bY "Asker" "wishes") (I 0)) (aa (bf (bY "Asker" "deed") (I 0)) ai))))))) (bE (b9 (cn 2 (bO (aa (ae aH (I 1) (af (.int 0))) (aa (bf (bY "Asker" "wishes") (I 0)) (aa (bf (bY "Asker" "deed") (I 0)) (aa (bf (bY "Asker" "told_slate") (I 0)) ai))))))) (b9 (aY (fl 1 [0,2] (nq (bo mm (aa (bf (bY "Asker" "hall") (I 0)) ai))) fJ (bo NF (aa (bf (bY "Asker" "me") (I 1)) (aa (I 0) (aa (bf (bY "Asker" "epoch") (I 1)) (aa (bf (bY "Asker" "last_stamp") (I 1)) (aa (I 2) ai)))))))))))))
def tj:dX:=fnX 2 3 RG
def RI:b2:=
  bE (b9 (b8 (aL (bo p' (aa (bo oy (aa (e9 (bf (bY "Asker" "grants") (I 0))) ai)) (aa (ae aH (I 1) (af (.int 1))) ai)))) (aY (eu ai)) bQ)) (bE (kX jo (bf (bY "Asker" "grants") (I 0)) (aa (bO (aa (ae aH (I 1) (af (.int 1))) (aa (ae aH (ae aH (I 1) (af (.int 5))) (af (.int 0))) (aa (ae aH (ae aH (I 1) (af (.int 5))) (af (.int 1))) ai)))) ai)) (bE (b9 (b8 (ep (aL (bo (je 12) (aa (ae aH (bf (bY "Asker" "hall") (I 0)) (af (.int 0))) (aa (bo oy (aa (e9 (bf (bY "Asker" "grants") (I 0))) ai)) ai))))) (aY (eu ai)) bQ)) (iA (d5 "Asker" "go_on" tj (I 0) (ez (aa (bo zE (aa (e9 (bf (bY "Asker" "grants") (I 0))) (aa (bf (bY "Asker" "opening") (I 0)) ai))) ai))))))
def tl:dX:=fnX 2 2 RI
def G8:b2:=
  (e2 (fM (aL (ae hF (bf (bY "Asker" "deed") (I 0)) (af (.aI))))) (bE (b9 (cn 2 (bo p_ (aa (I 1) (aa (bf (bY "Asker" "me") (I 0)) ai)))))
  (e2 (fM (aL (ae oEq (ae aH (I 2) (af (.int 1))) (bf (bY "Asker" "wishes") (I 0))))) (iz (d5 "Asker" "end_wish" p6 (I 0) (ez (aa (bO (aa (af (.str "did")) (aa (ae aH (I 2) (af (.int 2))) ai))) ai)))) (b9 bQ))) (e2 (fM (ep (aL (bo mj (aa (I 1) ai))))) (iz (d5 "Asker" "end_wish" p6 (I 0) (ez (aa (bO (aa (af (.str "saw")) (aa (bO (aa (bf (bY "Asker" "epoch") (I 0)) (aa (bf (bY "Asker" "last_stamp") (I 0)) (aa (I 1) ai)))) ai))) ai)))) (e2 (fM (aL (ae oEq (bo oB (aa (I 1) ai)) (af (.str "over"))))) (iz (d5 "Asker" "end_wish" p6 (I 0) (ez (aa (bO (aa (af (.str "saw")) (aa (bO (aa (bf (bY "Asker" "epoch") (I 0)) (aa (af (.aI)) (aa (I 1) ai)))) ai))) ai)))) (b9 bQ))))
def G7:b2:=
  bE (b9 (cn 1 (bf (bY "Asker" "told_slate") (I 0)))) G8
def Ef:dX:=fnX 1 3 G7
def RL:b2:=
  bE (dP "Asker" "over_known" (I 0) (dr (af (.ax true)))) (e2 (fM (aL (ae dI (bf (bY "Asker" "standing") (I 0)) (af (.str "calm"))))) (iz (d5 "Asker" "end_wish" p6 (I 0) (ez (aa (bO (aa (af (.str "over")) (aa (af (.aI)) ai))) ai)))) (b9 bQ))
def Eh:dX:=fnX 1 1 RL
def G':b2:=
  bE (b9 (b8 (aL (ae oEq (bf (bY "Asker" "standing") (I 0)) (af (.str "calm")))) (aY (eu ai)) bQ)) (iA (d5 "Asker" "ask_members" vW (I 0) qx))
def G_:b2:=
  bE (dP "Asker" "epoch" (I 0) (dr (ae eN (bf (bY "Asker" "epoch") (I 0)) (af (.int 1))))) (bE (dP "Asker" "hall" (I 0) (dr (I 1))) (bE (dP "Asker" "opening" (I 0) (dr (bo tD (aa (bf (bY "Asker" "told_slate") (I 0)) ai)))) G'))
def rA:dX:=fnX 2 2 G_
def Hb:b2:=
  bE (e2 (fM (aL (ae oEq (I 2) (af (.str "over"))))) (bE (iz (d5 "Asker" "learn_over" Eh (I 0) qx))
  (b9 (aY (eu ai)))) (b9 bQ)) (iA (d5 "Asker" "go_over" rA (I 0) (ez (aa (I 2) ai))))
def BD:b2:=
  bE (b9 (b8 (aL (ae h4 (I 2) (af (.aI)))) (aY (eu ai)) bQ)) Hb
def Ha:b2:=
  bE (b9 (b8 (ep (aL (bo (je 12) (aa (ae aH (bf (bY "Asker" "hall") (I 0)) (af (.int 1))) (aa (bf (bY "Asker" "kept_mask") (I 0)) ai))))) (aY (eu ai)) bQ)) (bE (iz (d5 "Asker" "end_where_told" Ef (I 0) qx)) (bE (b9 (cn 2 (bo oB (aa (bf (bY "Asker" "told_slate") (I 0)) ai)))) BD))
def BC:b2:=
  bE (dP "Asker" "kept_mask" (I 0) (dr (ae tP (bf (bY "Asker" "kept_mask") (I 0)) (bo lp (aa (eu (aa (ae aH (I 1) (af (.int 1))) ai)) ai))))) Ha
def rB:dX:=fnX 2 3 BC
def RH:b2:=
  bE (b9 (b8 (aL (ae dI (ae aH (I 1) (af (.int 2))) (bf (bY "Asker" "me") (I 0)))) (aY (eu ai)) bQ)) (bE (e2 (fM (aL (ae oEq (ae aH (I 1) (af (.int 0))) (af (.str "late"))))) (bE (dP "Asker" "greatest_round" (I 0) (dr (cJ Uc (aa (bf (bY "Asker" "greatest_round") (I 0)) (aa (ae aH (ae aH (ae aH (I 1) (af (.int 5))) (af (.int 0))) (af (.int 0))) ai)))))
  (b9 (aY (eu ai)))) (b9 bQ)) (bE (b9 (b8 (ep (aL (c0 "Asker" "is_for_now" zz (I 0) (aa (I 1) ai)))) (aY (eu ai)) bQ)) (bE (e2 (fM (gr (aL (ae oEq (ae aH (I 1) (af (.int 0))) (af (.str "grant")))) (aL (ae oEq (bf (bY "Asker" "standing") (I 0)) (af (.str "asking")))))) (iA (d5 "Asker" "hear_grant" tl (I 0) (ez (aa (I 1) ai)))) (b9 bQ)) (bE (e2 (fM (gr (aL (ae oEq (ae aH (I 1) (af (.int 0))) (af (.str "kept")))) (aL (ae oEq (bf (bY "Asker" "standing") (I 0)) (af (.str "telling")))))) (iA (d5 "Asker" "hear_kept" rB (I 0) (ez (aa (I 1) ai)))) (b9 bQ)) (b9 (aY (eu ai)))))))
def kf:dX:=fnX 2 2 RH
def RN:aP:=
  (aY (bf (bY "Asker" "last_outcome") (I 0)))
def zB:bp:=fnOf 1 1 RN
def RM:aP:=
  (aY (bf (bY "Asker" "wishes") (I 0)))
def zA:bp:=fnOf 1 1 RM
def RP:aP:=
  (aY (bf (bY "Asker" "standing") (I 0)))
def tm:bp:=fnOf 1 1 RP
def RO:aP:=
  (aY (bO (aa (bf (bY "Asker" "epoch") (I 0)) (aa (bf (bY "Asker" "hall") (I 0)) (aa (bf (bY "Asker" "opening") (I 0)) ai)))))
def Ei:bp:=fnOf 1 1 RO
def RK:aP:=
  (aY (bf (bY "Asker" "over_known") (I 0)))
def Eg:bp:=fnOf 1 1 RK
def zp:aP:=
  (b8 (aL (ae oEq (ae aH (I 2) (af (.int 0))) (I 1))) (aY (yh (I 2) (m6 (af (.int 1))) lV)) bQ)
def Iy:aP:=
  (aY (bO (aa (bO (aa (af (.int 0)) (aa (af (.int 0)) ai))) (aa (bO (aa (af (.int 0)) (aa (af (.int 0)) ai))) (aa (af (.aI)) ai)))))
def Iw:aP:=
  bM (ky 2 (lj (I 0)) zp) Iy
def wk:bp:=fnOf 2 3 Iw
def II:aP:=
  (aY (cJ pP (aa (pE fs (fnOf 1 1 (aY (ae aH (I 0) (af (.int 0))))) (I 5)) ai)))
def IH:aP:=
  bM (qR 5 jo (aa (bO (aa (I 1) (aa (I 2) (aa (I 3) (aa (I 4) ai))))) ai)) II
def BZ:aP:=
  bM (m5 5 (fl 1 [1] (lj (I 0)) (aL (ae dI (ae aH (I 0) (af (.int 0))) (I 1))) (I 0))) IH
def wm:bp:=fnOf 5 6 BZ
def W4(T:Txt P w K mg base):eU P w K mg base "with_page" ["book","epoch","promised","kept","slate"] 4 (e1 K mg wm):=by
 show eU P w K mg base _ _ _ (e1 K mg (fnOf 5 6 BZ));obtain⟨c,e6,L,b⟩:=T.D6;refine yQ (k:=3) T.Cr.d b T.Cr.s rfl rfl λf A outer s H E aD=>?_
 have a:=aD.units;refine ht.un ?_;refine nN ?_ (nN ?_ (qw ?_))
 .exact(AV (i:=5) (esc:=(dg Fv)) (EN:=["book","epoch","promised","kept","slate","pages"]) (N:=["page","epoch"]) (n:=1) (cap:=[1]) ⟨rfl,by decide +kernel,by decide +kernel,by decide +kernel,by decide +kernel,rfl,by decide +kernel⟩ T.Cr.s.fB rfl rfl (by decide) (AP (dM 0)) rfl (λ_ _ _ _=>⟨amw rfl,rfl⟩) (λ_ _ _ _=>(AQ (iY (tV a) sq (ho hg g7 (dM 0) gG) (dM 1)))) (λ_ _ _ _=>(dM 0)))
 .exact(xl (i:=5) amr ams tI vV (eO (o7 (eO (dM 1) (eO (dM 2) (eO (dM 3) (eO (dM 4) iX))))) iX) rfl (.inl rfl))
 .exact(r6 (xj yi zd rfl T.B.tuple' u0 (eO (F0 (k:=0) (N:=["page"]) (p1:="page") Nc rfl T.B.sorted (aD.mono (by omega)) L T.bm rfl rfl ⟨rfl,rfl,rfl,by decide +kernel,rfl,by decide +kernel,by decide +kernel⟩ (λ_ _ _ _=>rfl) (λ_ _ _ _ _ _=>(ho hg g7 (dM 0) gG)) (dM 5)) iX)))
def Sd:aP:=
  (aY (bO (aa (I 0) (aa (bo v7 (aa (I 1) (aa (af (.str "late")) (aa (bO (aa (I 2) ai)) ai)))) ai))))
def En:bp:=fnOf 3 3 Sd
def Hy:aP:=
  bM (b8 (aL (ae (tQ lexLe) (I 2) (ae aH (I 3) (af (.int 0))))) (aY (bo En (aa (I 0) (aa (I 1) (aa (ae aH (I 3) (af (.int 0))) ai))))) bQ) (aY (bO (aa (bo wm (aa (I 0) (aa (ae aH (I 1) (af (.int 3))) (aa (I 2) (aa (ae aH (I 3) (af (.int 1))) (aa (ae aH (I 3) (af (.int 2))) ai)))))) (aa (bo v7 (aa (I 1) (aa (af (.str "grant")) (aa (yh (I 3) (m6 (af (.int 1))) lV) ai)))) ai))))
def R7:aP:=
  bM (cn 2 (ae aH (I 1) (af (.int 4)))) (bM (cn 3 (bo wk (aa (I 0) (aa (ae aH (I 1) (af (.int 3))) ai)))) Hy)
def NC:bp:=fnOf 2 4 R7
def Hz:aP:=
  bM (b8 (aL (ae (tQ lexLt) (I 2) (I 3))) (aY (bo En (aa (I 0) (aa (I 1) (aa (I 3) ai))))) bQ) (aY (bO (aa (bo wm (aa (I 0) (aa (ae aH (I 1) (af (.int 3))) (aa (I 2) (aa (I 2) (aa (ae aH (ae aH (I 1) (af (.int 5))) (af (.int 3))) ai)))))) (aa (bo v7 (aa (I 1) (aa (af (.str "kept")) (aa (bO ai) ai)))) ai))))
def R8:aP:=
  bM (cn 2 (ae aH (I 1) (af (.int 4)))) (bM (cn 3 (ae aH (bo wk (aa (I 0) (aa (ae aH (I 1) (af (.int 3))) ai))) (af (.int 0)))) Hz)
def ND:bp:=fnOf 2 4 R8
def R6:aP:=
  bM (b8 (aL (ae oEq (ae aH (I 1) (af (.int 0))) (af (.str "ask")))) (aY (bo NC (aa (I 0) (aa (I 1) ai)))) bQ) (aY (bo ND (aa (I 0) (aa (I 1) ai))))
def mi:bp:=fnOf 2 2 R6
def Hd:b2:=
  bE (b9 (b8 (ep (aL (bo qa (aa (I 1) ai)))) nX bQ)) (bE (b9 (b8 (gb (ep (aL (bo ml (aa (I 2) ai)))) (ep (aL (eI oLe oLe (af (.int 1)) (I 2) (af (.int 6)))))) nX bQ)) (bE (dP "House" "askers" (I 0) (jU (xm 1 [1] (iu (aa (I 2) ai)) (o_ "Asker" th (ez (aa (I 0) (aa (I 1) ai))))))) (bE (dP "House" "books" (I 0) (jU (dr (fl 1 [] (iu (aa (af (.int 6)) ai)) fJ (bO ai))))) (bE (dP "House" "letters" (I 0) (jU (dr (eu ai)))) (dP "House" "rows" (I 0) (jU (dr (eu ai))))))))
def Ej:dX:=fnX 3 3 Hd
def RQ:aP:=
  bM (b8 (gb (ep (aL (bo ml (aa (I 1) ai)))) (ep (aL (eI oLe oLt (af (.int 0)) (I 1) (cJ fS (aa (e9 (bf (bY "House" "askers") (I 0))) ai)))))) nX bQ) (aY (ae aH (e9 (bf (bY "House" "askers") (I 0))) (I 1)))
def ow:bp:=fnOf 2 2 RQ
def RY:aP:=
  (aY (cJ fS (aa (e9 (bf (bY "House" "letters") (I 0))) ai)))
def kJ:bp:=fnOf 1 1 RY
def R2:b2:=
  bE (b9 (cn 2 (c0 "House" "many" kJ (I 0) ai))) (bE (kX xe (bf (bY "House" "letters") (I 0)) (aa (I 1) ai)) (b9 (aY (ye (aa (I 2) (aa (c0 "House" "many" kJ (I 0) ai) ai))))))
def tn:dX:=fnX 2 3 R2
def He:b2:=
  bE (b9 (cn 3 (c0 "House" "asker_of" ow (I 0) (aa (I 1) ai)))) (bE (qy 4 (d5 "Asker" "begin" zy (I 3) (ez (aa (I 2) ai)))) (bE (kX jo (bf (bY "House" "rows") (I 0)) (aa (bO (aa (af (.str "begin")) (aa (I 1) (aa (c0 "Asker" "number" zA (I 3) ai) (aa (I 2) (aa (c0 "House" "many" kJ (I 0) ai) ai)))))) ai)) (iA (d5 "House" "write" tn (I 0) (ez (aa (I 4) ai))))))
def p7:dX:=fnX 3 5 He
def RR:b2:=
  (iA (d5 "House" "write" tn (I 0) (ux (d5 "Asker" "bell" ti (c0 "House" "asker_of" ow (I 0) (aa (I 1) ai)) qx) ai)))
def zC:dX:=fnX 2 2 RR
def RX:aP:=
  bM (b8 (gb (ep (aL (bo ml (aa (I 1) ai)))) (ep (aL (eI oLe oLt (af (.int 0)) (I 1) (c0 "House" "many" kJ (I 0) ai))))) nX bQ) (aY (ae aH (e9 (bf (bY "House" "letters") (I 0))) (I 1)))
def vZ:bp:=fnOf 2 2 RX
def RU:b2:=
  bE (b9 (cn 2 (bo mi (aa (ae aH (e9 (bf (bY "House" "books") (I 0))) (ae aH (I 1) (af (.int 2)))) (aa (I 1) ai))))) (bE (uy (bf (bY "House" "books") (I 0)) (ae aH (I 1) (af (.int 2))) (dr (ae aH (I 2) (af (.int 0))))) (b9 (aY (eu (aa (ae aH (I 2) (af (.int 1))) ai)))))
def vY:dX:=fnX 2 3 RU
def Hg:b2:=
  bE (e2 (fM (gr (aL (ae dI (I 3) (af (.str "calm")))) (aL (ae oEq (c0 "Asker" "stand" tm (I 2) ai) (af (.str "calm")))))) (kX jo (bf (bY "House" "rows") (I 0)) (aa (bO (aa (af (.str "end")) (aa (ae aH (I 1) (af (.int 2))) (aa (c0 "Asker" "number" zA (I 2) ai) (aa (c0 "Asker" "outcome" zB (I 2) ai) (aa (c0 "House" "many" kJ (I 0) ai) ai)))))) ai)) (b9 bQ)) (b9 (aY (I 4)))
def RT:b2:=
  bE (b9 (cn 2 (ae aH (e9 (bf (bY "House" "askers") (I 0))) (ae aH (I 1) (af (.int 2)))))) (bE (b9 (cn 3 (c0 "Asker" "stand" tm (I 2) ai))) (bE (qy 4 (d5 "Asker" "hear" kf (I 2) (ez (aa (I 1) ai)))) Hg))
def rC:dX:=fnX 2 5 RT
def Hf:b2:=
  bE (e2 (fM (aL (bo ox (aa (I 2) ai)))) (iA (d5 "House" "write" tn (I 0) (ux (d5 "House" "bring_to_keeper" vY (I 0) (ez (aa (I 2) ai))) ai))) (b9 bQ)) (iA (d5 "House" "write" tn (I 0) (ux (d5 "House" "bring_to_asker" rC (I 0) (ez (aa (I 2) ai))) ai)))
def RS:b2:=
  bE (b9 (cn 2 (c0 "House" "letter" vZ (I 0) (aa (I 1) ai)))) Hf
def p8:dX:=fnX 2 3 RS
def RV:aP:=
  (aY (cJ vi (aa (e9 (bf (bY "House" "rows") (I 0))) ai)))
def Ek:bp:=fnOf 1 1 RV
def RZ:aP:=
  (aY (c0 "Asker" "outcome" zB (c0 "House" "asker_of" ow (I 0) (aa (I 1) ai)) ai))
def p9:bp:=fnOf 2 2 RZ
def R1:aP:=
  (aY (c0 "Asker" "stand" tm (c0 "House" "asker_of" ow (I 0) (aa (I 1) ai)) ai))
def mh:bp:=fnOf 2 2 R1
def R0:aP:=
  (aY (c0 "Asker" "place" Ei (c0 "House" "asker_of" ow (I 0) (aa (I 1) ai)) ai))
def v3:bp:=fnOf 2 2 R0
def RW:aP:=
  (aY (c0 "Asker" "knows_over" Eg (c0 "House" "asker_of" ow (I 0) (aa (I 1) ai)) ai))
def zD:bp:=fnOf 2 2 RW
def H4:aP:=
  (aY (af (.int 0)))
def H3:aP:=
  bM (b8 (aL (ae oLt (I 1) (cJ fS (aa (I 0) ai)))) (aY (ae aH (I 0) (I 1))) bQ) H4
def oA:bp:=fnOf 2 2 H3
def vQ(self:bp):aP:=
  (b8 (ep (aL (bo self (aa (ae aH (I 0) (I 2)) (aa (ae aH (I 1) (I 2)) ai))))) (aY (af (.ax false))) bQ)
def HZ(self:bp):aP:=
  (aY (af (.ax true)))
def HY(self:bp):aP:=
  bM (ky 2 (iu (aa (cJ fS (aa (I 1) ai)) ai)) (vQ self)) (HZ self)
def BS(self:bp):aP:=
  bM (b8 (aL (ae dI (cJ fS (aa (I 0) ai)) (cJ fS (aa (I 1) ai)))) (aY (af (.ax false))) bQ) (HY self)
def HX(self:bp):aP:=
  bM (b8 (gr (aL (cJ gY (aa (I 1) (aa (af (.ty "list")) ai)))) (ep (aL (cJ gY (aa (I 0) (aa (af (.ty "list")) ai)))))) (aY (af (.ax false))) bQ) (BS self)
def x8(self:bp):aP:=
  bM (b8 (gr (aL (cJ gY (aa (I 1) (aa (af (.ty "tuple")) ai)))) (ep (aL (cJ gY (aa (I 0) (aa (af (.ty "tuple")) ai)))))) (aY (af (.ax false))) bQ) (HX self)
def HW(self:bp):aP:=
  bM (b8 (aL (cJ gY (aa (I 1) (aa (af (.ty "str")) ai)))) (aY (j6 (cJ gY (aa (I 0) (aa (af (.ty "str")) ai))) (ae oEq (I 0) (I 1)))) bQ) (x8 self)
def HV(self:bp):aP:=
  bM (b8 (aL (cJ gY (aa (I 1) (aa (af (.ty "int")) ai)))) (aY (j6 (cJ gY (aa (I 0) (aa (af (.ty "int")) ai))) (j6 (u3 (cJ gY (aa (I 0) (aa (af (.ty "bool")) ai)))) (ae oEq (I 0) (I 1))))) bQ) (HW self)
def HU(self:bp):aP:=
  bM (b8 (aL (cJ gY (aa (I 1) (aa (af (.ty "bool")) ai)))) (aY (j6 (cJ gY (aa (I 0) (aa (af (.ty "bool")) ai))) (ae oEq (I 0) (I 1)))) bQ) (HV self)
def x7(self:bp):aP:=
  bM (b8 (aL (ae h4 (I 1) (af (.aI)))) (aY (ae h4 (I 0) (af (.aI)))) bQ) (HU self)
def jf:Nat->bp
 |0=>λ_=>bad
 |n+1=>fnOf 2 3 (x7 (jf n))
def Sg:aP:=
  bM (cn 1 (ae eN (ae eN (af (.int 1)) (ae oMod (I 0) (af (.int 4)))) (ae nC (ae oMod (ae e0 (I 0) (af (.int 4))) (af (.int 2))) (ae oMod (ae e0 (I 0) (af (.int 8))) (af (.int 3)))))) (bM (cn 2 (cJ pP (aa (fl 1 [0] (iu (aa (I 1) ai)) fJ (ae oMod (ae eN (ae e0 (I 1) (af (.int 24))) (I 0)) (af (.int 6)))) ai))) (bM (cn 3 (ae eN (af (.int 1)) (ae oMod (ae e0 (I 0) (af (.int 144))) (I 1)))) (aY (bO (aa (bO (aa (I 3) (aa (I 2) ai))) (aa (bO (aa (ae eN (ae nD (ae eN (I 1) (af (.int 1))) (I 3)) (ae oMod (ae e0 (I 0) (af (.int 864))) (I 3))) (aa (I 2) ai))) ai))))))
def Es:bp:=fnOf 1 4 Sg
def H8:aP:=
  bM (b8 (aL (ae oEq (ae oMod (I 0) (af (.int 5))) (af (.int 4)))) (bM (cn 2 (bO (aa (af (.int 2)) (aa (bO (aa (bO (aa (af (.int 2)) (aa (bO (aa (ae aH (I 1) (af (.int 0))) (aa (ae aH (I 1) (af (.int 1))) (aa (ae aH (I 1) (af (.int 2))) ai)))) ai))) (aa (bO (aa (af (.int 2)) (aa (bO (aa (ae aH (I 1) (af (.int 2))) (aa (ae aH (I 1) (af (.int 3))) (aa (ae aH (I 1) (af (.int 4))) ai)))) ai))) (aa (ae aH (I 1) (af (.int 0))) ai)))) ai))))
  (bM (b8 (aL (ae oEq (ae oMod (ae e0 (I 0) (af (.int 30))) (af (.int 3))) (af (.int 0)))) (cn 2 (bO (aa (af (.int 2)) (aa (bO (aa (ae aH (I 1) (af (.int 0))) (aa (ae aH (I 1) (af (.int 0))) (aa (ae aH (I 1) (af (.int 1))) ai)))) ai)))) bQ)
  (aY (bO (aa (I 2) (aa (I 2) ai)))))) bQ) (bM (cn 3 (bO (aa (af (.int 1)) (aa (bO (aa (bO (aa (af (.int 2)) (aa (bO (aa (ae aH (I 1) (af (.int 0))) (aa (ae aH (I 1) (af (.int 1))) ai))) ai))) (aa (bO (aa (af (.int 2)) (aa (bO (aa (ae aH (I 1) (af (.int 2))) (aa (ae aH (I 1) (af (.int 3))) ai))) ai))) ai))) ai)))) (bM (cn 4 (bO (aa (af (.int 2)) (aa (bO (aa (bO (aa (af (.int 1)) (aa (bO (aa (ae aH (I 1) (af (.int 0))) (aa (ae aH (I 1) (af (.int 1))) ai))) ai))) (aa (bO (aa (af (.int 1)) (aa (bO (aa (ae aH (I 1) (af (.int 2))) (aa (ae aH (I 1) (af (.int 3))) ai))) ai))) ai))) ai)))) (bM (b8 (aL (ae oEq (ae oMod (ae e0 (I 0) (af (.int 30))) (af (.int 2))) (af (.int 0)))) (aY (bO (aa (I 3) (aa (I 4) ai)))) bQ) (aY (bO (aa (I 4) (aa (I 3) ai)))))))
def Sh:aP:=
  bM (b8 (aL (ae oLt (ae oMod (I 0) (af (.int 5))) (af (.int 3)))) (aY (bo Es (aa (ae e0 (I 0) (af (.int 5))) ai))) bQ) (bM (cn 1 (fl 1 [0] (iu (aa (af (.int 5)) ai)) fJ (ae oMod (ae eN (ae e0 (I 1) (af (.int 5))) (I 0)) (af (.int 6))))) H8)
def wh:bp:=fnOf 1 5 Sh
def Ni:aP:=
  (bM (cn 2 (ae oG (I 2) (ae aH (af (.str "abcdefghijklmnopqrstuvwxyz")) (ae oMod (ae e0 (I 0) (af (.int 8))) (af (.int 26))))))
  (cn 0 (ae e0 (I 0) (af (.int 3)))))
def Si:aP:=
  bM (cn 1 (ae eN (af (.int 1)) (ae oMod (I 0) (af (.int 8))))) (bM (cn 2 (af (.str ""))) (bM (u4 (aL (ae oLt (cJ nc (aa (I 2) ai)) (I 1))) Ni) (aY (I 2))))
def Et:bp:=fnOf 1 3 Si
def H_:aP:=
  (aY (eu (aa (I 2) (aa (ae oG (ae oG (sv (I 2) lV (m6 (I 3))) (I 4)) (sv (I 2) (m6 (ae eN (I 3) (af (.int 1)))) lV)) (aa (I 5) ai)))))
def H9:aP:=
  bM (b8 (aL (ae oEq (cJ nc (aa (I 2) ai)) (af (.int 8)))) (cn 5 (sv (I 2) lV (m6 (af (.int 7))))) bQ) H_
def Sj:aP:=
  bM (cn 1 (af (.str "abcdefghijklmnopqrstuvwxyz"))) (bM (cn 2 (bo Et (aa (I 0) ai))) (bM (cn 3 (ae oMod (ae e0 (I 0) (af (.int 5))) (cJ nc (aa (I 2) ai)))) (bM (cn 4 (ae aH (I 1) (ae oMod (ae eN (ae eN (B6 q9 (I 1) (aa (ae aH (I 2) (I 3)) ai)) (af (.int 1))) (ae oMod (ae e0 (I 0) (af (.int 7))) (af (.int 25)))) (af (.int 26))))) (bM (cn 5 (ae oG (I 2) (af (.str "x")))) H9))))
def zI:bp:=fnOf 1 6 Sj
def BU:aP:=
  bM (b8 (aL (ae oLt (I 6) (af (.int 5)))) (aY (bO (aa (af (.str "add")) (aa (I 3) (aa (I 4) ai))))) bQ) (bM (b8 (aL (ae oLt (I 6) (af (.int 7)))) (aY (bO (aa (af (.str "put")) (aa (I 3) (aa (I 4) ai))))) bQ) (bM (b8 (aL (ae oEq (I 6) (af (.int 7)))) (aY (bO (aa (af (.str "swap")) (aa (I 3) (aa (ae oMod (ae e0 (I 1) (af (.int 96))) (af (.int 3))) (aa (I 4) ai)))))) bQ) (bM (b8 (aL (ae oEq (I 6) (af (.int 8)))) (aY (bO (aa (af (.str "take")) (aa (I 5) ai)))) bQ) (bM (b8 (aL (ae oEq (I 6) (af (.int 9)))) (aY (ae aH (eu (aa (bO (aa (af (.str "renew")) (aa (I 5) ai))) (aa (bO (aa (af (.str "free")) (aa (I 5) ai))) (aa (bO (aa (af (.str "sure")) (aa (I 5) (aa (I 3) (aa (I 4) ai))))) ai)))) (ae oMod (ae e0 (I 1) (af (.int 400))) (af (.int 3))))) bQ) (bM (b8 (gb (aL (ae oEq (I 6) (af (.int 10)))) (aL (ae oEq (I 6) (af (.int 11))))) (aY (bO (aa (af (.str "move")) (aa (bo wh (aa (ae e0 (I 1) (af (.int 96))) ai)) ai)))) bQ) (bM (b8 (gr (aL (ae oEq (I 6) (af (.int 12)))) (aL (ae oEq (ae oMod (ae e0 (I 1) (af (.int 96))) (af (.int 3))) (af (.int 0))))) (aY (bO (aa (af (.str "end")) ai))) bQ) (aY (af (.aI)))))))))
def Sf:aP:=
  bM (cn 3 (ae aH (I 0) (ae oMod (ae e0 (I 1) (af (.int 16))) (af (.int 3))))) (bM (cn 4 (ae nD (ae oMod (I 2) (ae oI (af (.int 10)) (af (.int 40)))) (ae oI (af (.int 10)) (af (.int 20))))) (bM (b8 (aL (ae oEq (ae oMod (ae e0 (I 1) (af (.int 48))) (af (.int 2))) (af (.int 1)))) (cn 4 (ae oMod (ae e0 (I 1) (af (.int 96))) (af (.int 3)))) bQ) (bM (cn 5 (ae oMod (ae e0 (I 1) (af (.int 96))) (af (.int 4)))) (bM (cn 6 (ae oMod (I 1) (af (.int 16)))) BU))))
def zH:bp:=fnOf 3 7 Sf
def D1:b2:=
  (bE (e2 (fM (gr (aL (ae dI (ae aH (I 6) (I 7)) (af (.str "calm")))) (aL (ae oEq (c0 "House" "stand" mh (I 0) (aa (I 7) ai)) (af (.str "calm")))))) (bE (b9 (b8 (gb (aL (ae dI (ae aH (I 4) (af (.int 2))) (I 7))) (aL (ae h4 (c0 "House" "outcome" p9 (I 0) (aa (I 7) ai)) (af (.aI))))) (aY (af (.ax false))) bQ))
  (kX jo (I 2) (aa (bO (aa (af (.str "end")) (aa (I 7) (aa (ae aH (e9 (I 3)) (I 7)) (aa (c0 "House" "outcome" p9 (I 0) (aa (I 7) ai)) (aa (I 5) ai)))))) ai))) (b9 bQ))
  (b9 (b8 (gr (aL (ae dI (c0 "House" "stand" mh (I 0) (aa (I 7) ai)) (af (.str "calm")))) (aL (ae hF (c0 "House" "outcome" p9 (I 0) (aa (I 7) ai)) (af (.aI))))) (aY (af (.ax false))) bQ)))
def H2:b2:=
  bE (xn 7 (iu (aa (cJ fS (aa (e9 (I 3)) ai)) ai)) D1) (b9 (aY (af (.ax true))))
def H0:b2:=
  bE (b9 (cn 4 (c0 "House" "letter" vZ (I 0) (aa (I 1) ai)))) (bE (b9 (cn 5 (c0 "House" "many" kJ (I 0) ai))) (bE (b9 (cn 6 (fl 1 [0] (iu (aa (cJ fS (aa (e9 (I 3)) ai)) ai)) fJ (c0 "House" "stand" mh (I 1) (aa (I 0) ai))))) (bE (iz (d5 "House" "bring" p8 (I 0) (ez (aa (I 1) ai)))) H2)))
def tx:dX:=fnX 4 8 H0
def zo:b2:=
  (bE (b9 (cn 7 (c0 "House" "letter" vZ (I 0) (aa (I 6) ai))))
  (bE (b9 (cn 8 (ae aH (I 7) (af (.int 1)))))
  (bE (b9 (b8 (gb (aL (ae oEq (ae aH (I 7) (af (.int 0))) (af (.str "ask")))) (aL (ae oEq (ae aH (I 7) (af (.int 0))) (af (.str "tell"))))) (cn 8 (ae aH (I 7) (af (.int 2)))) bQ))
  (bE (e2 (fM (aL (ae oEq (ae rI (ae tS (I 2) (I 8)) (af (.int 1))) (af (.int 1))))) (bE (b9 (cn 3 (ae nD (I 3) (af (.int 1)))))
  (e2 (uA (uB (o9 tx (ez (aa (I 0) (aa (I 6) (aa (I 4) (aa (I 5) ai)))))))) (b9 (aY (af (.ax false)))) (b9 bQ))) (b9 bQ))
  (b9 (cn 6 (ae eN (I 6) (af (.int 1)))))))))
def Se:b2:=
  bE (b9 (cn 6 (I 1))) (bE (AW (fM (gr (aL (ae oLt (I 6) (c0 "House" "many" kJ (I 0) ai))) (aL (ae qh (I 3) (af (.int 0)))))) zo) (b9 (aY (af (.ax true)))))
def Ep:dX:=fnX 6 9 Se
def BV:b2:=
  bE (b9 (cn 11 (af (.int 63)))) (bE (b9 (b8 (aL (ae oEq (ae oMod (ae e0 (I 6) (af (.int 24))) (af (.int 2))) (af (.int 1)))) (cn 11 (ae oMod (ae e0 (I 6) (af (.int 48))) (af (.int 64)))) bQ)) (iA (o9 Ep (ez (aa (I 0) (aa (I 9) (aa (I 11) (aa (ae oMod (ae e0 (I 6) (af (.int 3072))) (af (.int 27))) (aa (I 2) (aa (I 3) ai))))))))))
def H7:b2:=
  bE (e2 (fM (aL (ae dI (c0 "House" "stand" mh (I 0) (aa (I 8) ai)) (af (.str "calm"))))) (iz (d5 "House" "bell" zC (I 0) (ez (aa (I 8) ai)))) (e2 (fM (ep (aL (c0 "House" "knows_over" zD (I 0) (aa (I 8) ai))))) (bE (b9 (cn 10 (bo zH (aa (I 1) (aa (I 7) (aa (I 4) ai))))))
  (bE (b9 (b8 (gr (aL (ae hF (I 10) (af (.aI)))) (gr (aL (ae oEq (ae aH (I 10) (af (.int 0))) (af (.str "move")))) (aL (ae qh (ae aH (c0 "House" "place" v3 (I 0) (aa (I 8) ai)) (af (.int 0))) (af (.int 6)))))) (cn 10 (af (.aI))) bQ))
  (bE (uy (I 3) (I 8) (dr (ae eN (ae aH (e9 (I 3)) (I 8)) (af (.int 1)))))
  (bE (kX jo (I 2) (aa (bO (aa (af (.str "begin")) (aa (I 8) (aa (ae aH (e9 (I 3)) (I 8)) (aa (I 10) (aa (I 9) ai)))))) ai))
  (e2 (fM (aL (ae h4 (I 10) (af (.aI))))) (iz (d5 "House" "begin" p7 (I 0) (ez (aa (I 8) (aa (af .aI) ai))))) (iz (d5 "House" "begin" p7 (I 0) (ez (aa (I 8) (aa (I 10) ai)))))))))) (b9 bQ))) BV
def H6:b2:=
  bE (e2 (fM (aL (ae oEq (ae oMod (I 6) (af (.int 4))) (af (.int 3))))) (iA (xo (dr (ae oEq (I 9) (af (.int 0)))) (o9 tx (ez (aa (I 0) (aa (ae oMod (I 7) (I 9)) (aa (I 2) (aa (I 3) ai)))))))) (b9 bQ)) H7
def H5:b2:=
  bE (b9 (cn 6 (ae oMod (ae eN (ae nC (ae oMod (I 4) (ae oI (af (.int 10)) (af (.int 40)))) (af (.int 48271))) (ae nC (ae nC (ae eN (I 5) (af (.int 1))) (ae eN (I 5) (af (.int 7)))) (af (.int 16807)))) (af (.int 2147483647))))) (bE (b9 (cn 7 (ae oMod (ae eN (ae nC (ae oMod (I 4) (ae oI (af (.int 10)) (af (.int 40)))) (af (.int 69621))) (ae nC (ae nC (ae eN (I 5) (af (.int 3))) (ae eN (I 5) (af (.int 5)))) (af (.int 40692)))) (af (.int 2147483629))))) (bE (b9 (cn 8 (ae oMod (ae e0 (I 6) (af (.int 4))) (cJ fS (aa (e9 (I 3)) ai))))) (bE (b9 (cn 9 (c0 "House" "many" kJ (I 0) ai))) H6)))
def Er:dX:=fnX 6 12 H5
def Nh:b2:=
  (e2 (uA (uB (o9 Er (ez (aa (I 2) (aa (I 3) (aa (I 4) (aa (I 1) (aa (ae aH (I 0) (I 5)) (aa (I 5) ai)))))))))) (b9 (aY (af (.ax false)))) (b9 bQ))
def HT:b2:=
  bE (qy 1 (jU (dr (ae wI (eu (aa (af (.int 0)) ai)) (ae eN (af (.int 1)) (ae oMod (bo oA (aa (I 0) (aa (af (.int 0)) ai))) (af (.int 3)))))))) (bE (qy 2 (o_ "House" Ej (ez (aa (bo wh (aa (ae oMod (bo oA (aa (I 0) (aa (af (.int 1)) ai))) (ae oI (af (.int 10)) (af (.int 9)))) ai)) (aa (cJ fS (aa (e9 (I 1)) ai)) ai))))) (bE (b9 (cn 3 (bo zI (aa (ae oMod (bo oA (aa (I 0) (aa (af (.int 2)) ai))) (ae oI (af (.int 10)) (af (.int 20)))) ai)))) (bE (qy 4 (jU (dr (eu ai)))) (bE (xn 5 (DF (aa (af (.int 3)) (aa (cJ Ud (aa (cJ fS (aa (I 0) ai)) (aa (af (.int 43)) ai))) ai))) Nh) (b9 (aY (bo (jf 15) (aa (c0 "House" "history" Ek (I 2) ai) (aa (e9 (I 4)) ai)))))))))
def Eo:dX:=fnX 1 6 HT
structure QE{P:akZ}{w:World}{K:aM}{mg:bl}{base:Heap}(T:Txt P w K mg base)(j:Nat):Prop where
 Wv:cZ P w base T.Kq j 1 ml
 Wc:cZ P w base T.Ka j 1 p'
 WM:cZ P w base T.KI j 1 lp
 Ww:cZ P w base T.Kr j 2 tw
 WN:cZ P w base T.KJ j 3 zJ
 V2:cZ P w base T.JS j 1 v5
 Wb:cZ P w base T.J' j 2 oy
 Wm:cZ P w base T.Ki j 2 wb
 Wr:cZ P w base T.Km j 1 zG
 Wi:cZ P w base T.Ke j 2 Em
 Wh:∀n,n+3<=j->eU P w K mg base "is_built" ["thing","deep"] (n+3) (e1 K mg (rD n))
 WS:∀n,n+2<=j->eU P w K mg base "namings" ["rule"] (n+2) (e1 K mg (mn n))
 Wt:cZ P w base T.Ko j 16 wg
 WR:cZ P w base T.KO j 15 tB
 V9:∀n,n+2<=j->eU P w K mg base "fills" ["rule","mask"] (n+2) (e1 K mg (je n))
 Wn:cZ P w base T.Kj j 3 wc
 WK:cZ P w base T.KG j 16 wj
 V_:cZ P w base T.J8 j 1 wa
 WX:cZ P w base T.KU j 17 zL
 Wl:cZ P w base T.Kh j 18 qa
 WO:cZ P w base T.KL j 16 zK
 WQ:cZ P w base T.KN j 17 mm
 Wo:cZ P w base T.Kk j 1 wd
 Wq:cZ P w base T.Kl j 2 we
 Wk:cZ P w base T.Kg j 3 zF
 V':cZ P w base T.J9 j 1 El
 Ws:cZ P w base T.Kn j 19 oz
 Wj:cZ P w base T.Kf j 20 nA
 V5:cZ P w base T.JV j 1 NB
 WJ:cZ P w base T.KD j 1 jQ
 WY:cZ P w base T.KV j 1 oB
 Wu:cZ P w base T.Kp j 2 mj
 V6:cZ P w base T.JW j 1 tp
 V7:cZ P w base T.J6 j 1 p_
 W3:cZ P w base T.KX j 1 zN
 W5:cZ P w base T.KY j 1 tE
 WU:cZ P w base T.KQ j 2 tD
 L7:cZ P w base T.J1 j 5 v'
 L3:cZ P w base T.JX j 5 v8
 L_:cZ P w base T.J4 j 5 tu
 WL:cZ P w base T.KH j 2 tA
 WT:cZ P w base T.KP j 2 tC
 L':cZ P w base T.J5 j 3 tv
 L8:cZ P w base T.J2 j 3 tr
 L5:cZ P w base T.JZ j 3 tq
 L9:cZ P w base T.J3 j 5 ts
 L6:cZ P w base T.J0 j 2 v_
 L4:cZ P w base T.JY j 2 v9
 WV:cZ P w base T.KR j 6 e_
 V8:cZ P w base T.J7 j 7 nz
 V4:cZ P w base T.JU j 1 NA
 WZ:cZ P w base T.KW j 1 NF
 V3:cZ P w base T.JT j 1 v7
 Wa:cZ P w base T.J_ j 1 ox
 Vv:ia P w base T.Jk j 2 th
 Vw:ia P w base T.Jl j 18 vW
 Vx:A' P w base T.Jm j 21 zy
 Vy:ia P w base T.Jn j 19 ti
 VG:i1 P w base T.Jv j 18 zz
 VM:i1 P w base T.JB j 15 vX
 VA:ia P w base T.Jp j 1 p6
 VB:ia P w base T.Jq j 18 tj
 VE:ia P w base T.Jt j 19 tl
 Vz:ia P w base T.Jo j 3 Ef
 VI:ia P w base T.Jx j 2 Eh
 VC:ia P w base T.Jr j 19 rA
 VF:ia P w base T.Ju j 20 rB
 VD:ia P w base T.Js j 21 kf
 VK:i1 P w base T.Jz j 1 zB
 VJ:i1 P w base T.Jy j 1 zA
 VN:i1 P w base T.JC j 1 tm
 VL:i1 P w base T.JA j 1 Ei
 VH:i1 P w base T.Jw j 1 Eg
 WW:cZ P w base T.KS j 1 wk
 Wx:cZ P w base T.Ks j 2 En
 We:cZ P w base T.Kc j 5 NC
 Wf:cZ P w base T.Kd j 5 ND
 Wd:cZ P w base T.Kb j 6 mi
 VO:ia P w base T.JD j 19 Ej
 VP:i1 P w base T.JE j 2 ow
 VX:i1 P w base T.JN j 1 kJ
 V1:ia P w base T.JR j 2 tn
 L2:A' P w base T.JF j 22 p7
 VQ:ia P w base T.JG j 20 zC
 VW:i1 P w base T.JM j 2 vZ
 VT:ia P w base T.JJ j 7 vY
 VS:ia P w base T.JI j 22 rC
 VR:ia P w base T.JH j 23 p8
 VU:i1 P w base T.JK j 1 Ek
 VY:i1 P w base T.JO j 3 p9
 V0:i1 P w base T.JQ j 3 mh
 VZ:i1 P w base T.JP j 3 v3
 VV:i1 P w base T.JL j 3 zD
 WB:cZ P w base T.Kv j 1 oA
 Wy:∀n,n+1<=j->eU P w K mg base "_law_alike" ["found","due"] (n+1) (e1 K mg (jf n))
 WE:cZ P w base T.Ky j 1 Es
 WG:cZ P w base T.Kz j 2 wh
 WH:cZ P w base T.KA j 1 Et
 WI:cZ P w base T.KC j 2 zI
 WC:cZ P w base T.Kw j 3 zH
 Wz:xH P w base T.Kt j 24 tx
 WA:xH P w base T.Ku j 25 Ep
 WD:xH P w base T.Kx j 26 Er
 EU {f:Addr}{fd:alI}(F:k3 K "law" "law" w3 f fd):27<=j->e3 P w K mg base eA 27 f fd ["script"] (hJ K mg Eo)
theorem ay(T:Txt P w K mg base):∀j,QE T j
 |0=>by constructor<;>intros<;>omega
 |j+1=>by
  have a:=ay T j;refine⟨c4 T.Kq rfl ?_,
   c4 T.Ka rfl ?_,
   c4 T.KI rfl ?_,
   c4 T.Kr rfl ?_,
   c4 T.KJ rfl ?_,
   c4 T.JS rfl ?_,
   c4 T.J' rfl ?_,
   c4 T.Ki rfl ?_,
   c4 T.Km rfl ?_,
   c4 T.Ke rfl ?_,
   zV (λ_=>T.Ck.d.none (by rintro vs H Q E ⟨O,ds,r,e,_,_,_,h,_⟩;cases h)) λn b=>(vt (k:=n+3) T.Ck.d T.Ck.s rfl rfl λf c A outer s H E aD=>ht.un ?_:eU P w K mg base _ _ _ (e1 K mg (fnOf 2 2 (HC (rD n))))).mono (by omega),
   zV (λ_=>T.Co.d.none (by rintro vs H Q E ⟨O,ds,r,e,_,_,_,h,_⟩;cases h)) λn b=>(vt (k:=n+2) T.Co.d T.Co.s rfl rfl λf c A outer s H E aD=>ht.un ?_:eU P w K mg base _ _ _ (e1 K mg (fnOf 1 3 (x9 (mn n))))).mono (by omega),
   c4 T.Ko rfl ?_,
   c4 T.KO rfl ?_,
   zV (λ_=>T.Ci.d.none (by rintro vs H Q E ⟨O,ds,r,e,_,_,_,h,_⟩;cases h)) λn b=>(vt (k:=n+2) T.Ci.d T.Ci.s rfl rfl λf c A outer s H E aD=>ht.un ?_:eU P w K mg base _ _ _ (e1 K mg (fnOf 2 2 (x6 (je n))))).mono (by omega),
   c4 T.Kj rfl ?_,
   c4 T.KG rfl ?_,
   c4 T.J8 rfl ?_,
   c4 T.KU rfl ?_,
   c4 T.Kh rfl ?_,
   c4 T.KL rfl ?_,
   c4 T.KN rfl ?_,
   c4 T.Kk rfl ?_,
   c4 T.Kl rfl ?_,
   c4 T.Kg rfl ?_,
   c4 T.J9 rfl ?_,
   c4 T.Kn rfl ?_,
   c4 T.Kf rfl ?_,
   c4 T.JV rfl ?_,
   c4 T.KD rfl ?_,
   c4 T.KV rfl ?_,
   c4 T.Kp rfl ?_,
   c4 T.JW rfl ?_,
   c4 T.J6 rfl ?_,
   c4 T.KX rfl ?_,
   c4 T.KY rfl ?_,
   c4 T.KQ rfl ?_,
   c4 T.J1 rfl ?_,
   c4 T.JX rfl ?_,
   c4 T.J4 rfl ?_,
   c4 T.KH rfl ?_,
   c4 T.KP rfl ?_,
   c4 T.J5 rfl ?_,
   c4 T.J2 rfl ?_,
   c4 T.JZ rfl ?_,
   c4 T.J3 rfl ?_,
   c4 T.J0 rfl ?_,
   c4 T.JY rfl ?_,
   c4 T.KR rfl λb f c A outer s H E aD=>(@nN _ _ _ _ _ _ ((F5 (i:=3) (qe (by kernel_rfl)) rfl (.inl rfl) (P1 T.Az rfl (ho hg g7 (dM 2) gG)))) (@qw _ _ _ _ ((r6 (agp (k:=5) (pp:=["slate","asker","deed"]) (lookup_all (by simp only[aln];exact⟨(a.L7 (by omega)).mono (by omega),(a.L3 (by omega)).mono (by omega),(a.L_ (by omega)).mono (by omega),(a.L' (by omega)).mono (by omega),(a.L8 (by omega)).mono (by omega),(a.L5 (by omega)).mono (by omega),(a.L9 (by omega)).mono (by omega),(a.L6 (by omega)).mono (by omega),(a.L4 (by omega)).mono (by omega),λ_ h=>nomatch h⟩)) rfl (.inl rfl) (aD.mono (by omega)) (eO (dM 0) (eO (dM 1) (eO (dM 2) iX)))))))),
   c4 T.J7 rfl ?_,
   c4 T.JU rfl ?_,
   c4 T.KW rfl ?_,
   c4 T.JT rfl ?_,
   c4 T.J_ rfl ?_,
   iP T.Jk rfl ?_,
   iP T.Jl rfl ?_,
   LH T.Jm rfl ?_,
   iP T.Jn rfl ?_,
   jD T.Jv rfl ?_,
   jD T.JB rfl ?_,
   iP T.Jp rfl ?_,
   iP T.Jq rfl ?_,
   iP T.Jt rfl ?_,
   iP T.Jo rfl ?_,
   iP T.Jx rfl ?_,
   iP T.Jr rfl ?_,
   iP T.Ju rfl ?_,
   iP T.Js rfl ?_,
   jD T.Jz rfl ?_,
   jD T.Jy rfl ?_,
   jD T.JC rfl ?_,
   jD T.JA rfl ?_,
   jD T.Jw rfl ?_,
   c4 T.KS rfl ?_,
   c4 T.Ks rfl ?_,
   c4 T.Kc rfl ?_,
   c4 T.Kd rfl ?_,
   c4 T.Kb rfl ?_,
   iP T.JD rfl ?_,
   jD T.JE rfl ?_,
   jD T.JN rfl ?_,
   iP T.JR rfl ?_,
   LH T.JF rfl ?_,
   iP T.JG rfl ?_,
   jD T.JM rfl ?_,
   iP T.JJ rfl ?_,
   iP T.JI rfl ?_,
   iP T.JH rfl ?_,
   jD T.JK rfl ?_,
   jD T.JO rfl ?_,
   jD T.JQ rfl ?_,
   jD T.JP rfl ?_,
   jD T.JL rfl ?_,
   c4 T.Kv rfl ?_,
   zV (λ_=>T.Cn.d.none (by rintro vs H Q E ⟨O,ds,r,e,_,_,_,h,_⟩;cases h)) λn b=>(vt (k:=n+1) T.Cn.d T.Cn.s rfl rfl λf c A outer s H E aD=>ht.un ?_:eU P w K mg base _ _ _ (e1 K mg (fnOf 2 3 (x7 (jf n))))).mono (by omega),
   c4 T.Ky rfl ?_,
   c4 T.Kz rfl ?_,
   c4 T.KA rfl ?_,
   c4 T.KC rfl ?_,
   c4 T.Kw rfl ?_,
   CY T.Kt rfl ?_,
   CY T.Ku rfl ?_,
   CY T.Kx rfl ?_,
   λF b=>(CN (k:=26) F aeD rfl rfl λc A outer s H E aD=>?_:e3 P w K mg base eA _ _ _ _ (hJ K mg (fnX 1 6 HT)))⟩
  all_goals try intro b
  all_goals try intro f c A outer s H E aD
  all_goals repeat' first
   |((with_reducible show bc _ _ _);first
    |(with_reducible show bc _ _ (ae wI _ _));refine kW acp RA ?_ ?_
    |(with_reducible show bc _ _ (I _));exact dM _
    |(with_reducible show bc _ (.BoolOp _ [_] _) _);refine agB ?_
    |(with_reducible show bc _ _ (ae aH _ _));refine ho hg g7 ?_ ?_ (λ_ _=>rfl)
    |(with_reducible show bc _ _ (bO _));refine o7 ?_
    |(with_reducible show bc _ _ (bo _ ai));refine' ago ?_ ?_ rfl
    |(with_reducible show bc _ _ (bo _ _));refine' agn ?_ ?_ rfl ?_
    |(with_reducible show bc _ _ (af (.int _)));first|exact gG|exact kV (qi rfl T.UK) λ_ _=>rfl|exact kV (qi rfl T.UH) λ_ _=>rfl|exact kV (qi rfl T.UG) λ_ _=>rfl|exact kV (qi rfl T.UI) λ_ _=>rfl|exact kV (qi rfl T.UJ) λ_ _=>rfl|exact kV (qi rfl T.UL) λ_ _=>rfl|exact kV (qi rfl T.UM) λ_ _=>rfl
    |(with_reducible show bc _ _ (af .aI));exact agz
    |(with_reducible show bc _ _ (af (.ax _)));exact agm
    |(with_reducible show bc _ _ (af (.ty "tuple")));exact kV (wU (v:=.ty "tuple") rfl T.B.tuple' u0 rfl) λ_ _=>rfl
    |(with_reducible show bc _ _ (af (.ty "bool")));exact kV (wU (v:=.ty "bool") rfl T.B.SD SN rfl) λ_ _=>rfl
    |(with_reducible show bc _ _ (af (.ty "str")));exact kV (wU (v:=.ty "str") rfl T.B.ae3 SV rfl) λ_ _=>rfl
    |(with_reducible show bc _ _ (af (.ty "int")));exact kV (wU (v:=.ty "int") rfl T.B.Yv SO rfl) λ_ _=>rfl
    |(with_reducible show bc _ _ (af (.ty "list")));exact kV (wU (v:=.ty "list") rfl T.B.D_ B3 rfl) λ_ _=>rfl
    |(with_reducible show bc _ _ (af (.str _)));first|exact P0|exact kV (qi rfl T.UN) λ_ _=>rfl
    |(with_reducible show bc _ _ (ae eN _ _));refine kW acb Rp ?_ ?_
    |(with_reducible show bc _ _ (ae oMod _ _));refine kW ack Rx ?_ ?_
    |(with_reducible show bc _ _ (ae e0 _ _));refine kW acg Rv ?_ ?_
    |(with_reducible show bc _ _ (ae wH _ _));refine kW acf Rt ?_ ?_
    |(with_reducible show bc _ _ (ae oG _ _));refine kW acd Ru ?_ ?_
    |(with_reducible show bc _ _ (ae oI _ _));refine kW aco Rz ?_ ?_
    |(with_reducible show bc _ _ (ae nD _ _));refine kW acs RD ?_ ?_
    |(with_reducible show bc _ _ (ae nC _ _));refine kW acm Ry ?_ ?_
    |(with_reducible show bc _ _ (ae rI _ _));refine kW ace Rq ?_ ?_
    |(with_reducible show bc _ _ (ae tP _ _));refine kW acn Rr ?_ ?_
    |(with_reducible show bc _ _ (ae EJ _ _));refine kW acq RB ?_ ?_
    |(with_reducible show bc _ _ (ae tS _ _));refine kW acr RC ?_ ?_
    |(with_reducible show bc _ _ (ae oEq _ _));refine o6 (EV aD.units) BA ?_ ?_ (iw _)
    |(with_reducible show bc _ _ (ae h4 _ _));refine o6 Of G3 ?_ ?_ (iw _)
    |(with_reducible show bc _ _ (ae hF _ _));refine o6 Og G4 ?_ ?_ (iw _)
    |(with_reducible show bc _ _ (ae tR _ _));refine o6 Oc G0 ?_ ?_ (iw _)
    |(with_reducible show bc _ _ (ae oLt _ _));refine o6 EW BB ?_ ?_ (iw _)
    |(with_reducible show bc _ _ (ae (kO false) _ _));refine o6 Od (G1 false) ?_ ?_ rfl
    |(with_reducible show bc _ _ (ae (rK false) _ _));refine o6 Oe G2 ?_ ?_ rfl
    |(with_reducible show bc _ _ (cJ fS _));refine qv S6 YU rfl T.B.len IZ ?_
    |(with_reducible show bc _ _ (cJ gY _));refine qv (S5 T.kt) YT rfl T.B.isinstance SP ?_
    |(with_reducible show bc _ _ (cJ n7 _));refine qv (S3 rfl) YR rfl T.B.all SK ?_
    |(with_reducible show bc _ _ (cJ (q8 _) _));refine qv (S9 rfl) MT rfl T.B.max SQ ?_
    |(with_reducible show bc _ _ (cJ vg _));refine qv S2 YQ rfl T.B.abs SJ ?_
    |(with_reducible show bc _ _ (cJ nc _));refine qv S7 YV rfl T.B.len IZ ?_
    |(with_reducible show bc _ _ (cJ pP _));refine xj yi zd rfl T.B.tuple' u0 ?_
    |(with_reducible show bc _ _ (eu _));refine agv ?_
    |(with_reducible show bc _ _ (j6 _ _));refine agk ?_ ?_
    |(with_reducible show bc _ _ (u3 _));refine agA ?_
    |(with_reducible show bc _ _ (bf oBits _));refine agl ?_
    |(with_reducible show bc _ _ (fl _ _ _ _ _));refine agr (u7 (xs:=[_]) (by kernel_rfl)) (by decide) ?_ rfl (λ_ _ _ _=>⟨amw rfl,rfl⟩) (λ_ _ _ _=>?_) (λ_ _ _ _=>?_) (he:=rfl) (hN:=rfl)
    |(with_reducible show bc _ _ (u2 _ _ _ _));refine ags (u7 (xs:=[_,_]) (by kernel_rfl)) rfl T.B.zip ?_ rfl rfl (λ_ _ _ _=>⟨amw rfl,rfl⟩) (λ_ _ _ _=>⟨amw rfl,rfl⟩) (λ_ _ _ _=>?_) (λ_ _ _ _=>?_) (he:=rfl) (hN:=rfl)
    |(with_reducible show bc _ _ (yh _ _ _));refine agC ?_ ?_ ?_
    |(with_reducible show bc _ _ (B7 _ _ _));refine agE ?_ ?_ ?_
    |(with_reducible show bc _ _ (B8 _ _));refine P1 T.Az rfl ?_
    |(with_reducible show bc _ _ (B9 _ _));refine agG T.DP rfl ?_
    |(with_reducible show bc _ _ (ae dI _ _));refine o6 (tV aD.units) sq ?_ ?_ (iw _)
    |(with_reducible show bc _ _ (cJ (q8 _) _));refine qv (S_ rfl) MT rfl T.B.min SS ?_
    |(with_reducible show bc _ _ (cJ vi _));refine xj S8 YW rfl T.B.D_ B3 ?_
    |(with_reducible show bc _ _ (bf (bY "Asker" _) _));refine PZ T.nY (by simp[z1]) ?_
    |(with_reducible show bc _ _ (bf (bY "House" _) _));refine PZ T.nZ (by simp[z2]) ?_
    |(with_reducible show bc _ _ (e9 _));refine agu ?_
    |(with_reducible show bc _ _ (c0 _ _ _ _ ai));refine' agy ?_ ?_ ?_
    |(with_reducible show bc _ _ (c0 _ _ _ _ _));refine' agx ?_ ?_ ?_ ?_
    |(with_reducible show bc _ _ (ae oLe _ _));refine o6 rP qQ ?_ ?_ (iw _)
    |(with_reducible show bc _ _ (cJ vh _));refine qv (S4 rfl) YS rfl T.B.any SM ?_
    |(with_reducible show bc _ _ (sv _ _ _));refine agD ?_ ?_ ?_
    |(with_reducible show bc _ _ (eI oLe oLe _ _ _));refine agq rP qQ rP qQ ?_ ?_ ?_
    |(with_reducible show bc _ _ (ye _));refine agt rfl rfl T.B.D_ rfl T.B.range ?_
    |(with_reducible show bc _ _ (B6 q9 _ _));refine agF PySem.F.slot_str_find PySem.F.type_str_find aae Sz acx ?_ ?_)
   |((with_reducible show gx _ _ _);first
    |(with_reducible show gx _ _ (ai));exact iX
    |(with_reducible show gx _ _ (aa _ _));refine eO ?_ ?_)
   |((with_reducible show fR _ _ _);first
    |(show fR _ _ (aY _));refine r6 ?_
    |(show fR _ _ (cn _ (fl _ _ _ _ _)));refine agS (u7 (xs:=[_]) (by kernel_rfl)) (qe (by kernel_rfl)) rfl rfl (by decide) ?_ rfl (λ_ _ _ _=>⟨amw rfl,rfl⟩) (λ_ _ _ _=>?_) (λ_ _ _ _=>?_) (he:=rfl) (hN:=rfl)
    |(show fR _ _ (cn _ _));refine F5 (qe (by kernel_rfl)) rfl (by first|exact amw rfl|exact alA rfl|exact alA (.inl rfl)|exact alA (alA rfl)) ?_
    |(show fR _ _ (b8 _ _ _));refine F4 ?_ ?_ ?_
    |(show fR _ _ (m5 _ (fl _ _ _ _ _)));refine AV (u7 (xs:=[_]) (by kernel_rfl)) (qe (by kernel_rfl)) rfl rfl (by decide) ?_ rfl (λ_ _ _ _=>⟨amw rfl,rfl⟩) (λ_ _ _ _=>?_) (λ_ _ _ _=>?_) (he:=rfl) (hN:=rfl)
    |(show fR _ _ (m5 _ _));refine agV (qe (by kernel_rfl)) rfl (by first|exact amw rfl|exact alA rfl|exact alA (.inl rfl)|exact alA (alA rfl)) ?_
    |(show fR _ _ (ky _ _ _));refine agT an7 rfl ?_ (qe (by kernel_rfl)) rfl (by first|exact amw rfl|exact alA rfl|exact alA (.inl rfl)|exact alA (alA rfl)) ?_
    |(show fR _ _ (qR _ jo _));refine xl amr ams tI vV ?_ rfl (by first|exact amw rfl|exact alA rfl|exact alA (.inl rfl)|exact alA (alA rfl))
    |(show fR _ _ (qR _ xf _));refine xl aoV aoW aad ZY ?_ rfl (by first|exact amw rfl|exact alA rfl|exact alA (.inl rfl)|exact alA (alA rfl))
    |(show fR _ _ (yg _));exact agW _
    |(show fR _ _ (nX));exact agU
    |(show fR _ _ (u4 _ _));refine agX an7 ?_ ?_)
   |((with_reducible show fh _ _ _);first
    |(with_reducible show fh _ _ (aL (ae oEq _ _)));refine iY (EV aD.units) BA ?_ ?_ (iw _)
    |(with_reducible show fh _ _ (aL (ae dI _ _)));refine iY (tV aD.units) sq ?_ ?_ (iw _)
    |(with_reducible show fh _ _ (aL (ae h4 _ _)));refine iY Of G3 ?_ ?_ (iw _)
    |(with_reducible show fh _ _ (aL (ae hF _ _)));refine iY Og G4 ?_ ?_ (iw _)
    |(with_reducible show fh _ _ (aL (ae tR _ _)));refine iY Oc G0 ?_ ?_ (iw _)
    |(with_reducible show fh _ _ (aL (ae qh _ _)));refine iY ach Rw ?_ ?_ (iw _)
    |(with_reducible show fh _ _ (aL (ae oLt _ _)));refine iY EW BB ?_ ?_ (iw _)
    |(with_reducible show fh _ _ (aL (ae oLe _ _)));refine iY rP qQ ?_ ?_ (iw _)
    |(with_reducible show fh _ _ (aL (ae (kO false) _ _)));refine iY Od (G1 false) ?_ ?_ rfl
    |(with_reducible show fh _ _ (aL (ae (rK false) _ _)));refine iY Oe G2 ?_ ?_ rfl
    |(with_reducible show fh _ _ (aL (eI oLe oLe _ _ _)));refine P8 rP qQ rP qQ ?_ ?_ ?_
    |(with_reducible show fh _ _ (aL (eI oLe oLt _ _ _)));refine P8 rP qQ EW BB ?_ ?_ ?_
    |(with_reducible show fh _ _ (aL (ae (tQ _) _ _)));first|refine iY (aci aD.units) GZ ?_ ?_ (iw _)|refine iY (acj aD.units) GZ ?_ ?_ (iw _)
    |(with_reducible show fh _ _ (aL _));refine agZ ?_
    |(with_reducible show fh _ _ (ep _));refine agY ?_
    |refine k6.cy ?_)
   |((with_reducible show k6 _ _ _);first
    |(with_reducible show k6 _ _ (gb _ _));refine ag2 ?_ ?_
    |(with_reducible show k6 _ _ (gr _ _));refine ag0 ?_ ?_
    |first|refine ag3 ?_|refine ag1 ?_)
   |((with_reducible show eH _ _ _);first
    |(with_reducible show eH _ (.Call (.Attribute _ _ _) [_] [] _) (d5 _ _ _ _ (ez (aa _ (aa _ _)))));refine' ahm (a.L2 (by omega)) ?_ ?_ ?_
    |(with_reducible show eH _ _ (dr _));refine aho ?_
    |(with_reducible show eH _ (.BoolOp _ [_] _) _);refine ahp ?_
    |(with_reducible show eH _ _ (jU _));refine ahn ?_
    |(with_reducible show eH _ _ (d5 _ _ _ _ qx));refine' ahl ?_ ?_ ?_
    |(with_reducible show eH _ _ (d5 _ _ _ _ _));refine' ahk ?_ ?_ ?_ ?_
    |(with_reducible show eH _ _ (o9 _ _));refine' ahi ?_ ?_ rfl ?_
    |(with_reducible show eH _ _ (o_ "Asker" _ _));refine' Qj T.nY ?_ ?_ rfl ?_
    |(with_reducible show eH _ _ (o_ "House" _ _));refine' Qj T.nZ ?_ ?_ rfl ?_
    |(with_reducible show eH _ _ (xm _ _ _ _));refine ahj (u7 (xs:=[_]) (by kernel_rfl)) (by decide) ?_ rfl (λ_ _ _ _=>⟨amw rfl,rfl⟩) (λ_ _ _ _=>?_) (he:=rfl) (hN:=rfl)
    |(with_reducible show eH _ _ (xo _ _));refine ahq ?_ ?_)
   |((with_reducible show mW _ _ _);first
    |(with_reducible show mW _ _ (fM _));refine ahE ?_
    |(with_reducible show mW _ _ (uB _));refine ahF ?_
    |(with_reducible show mW _ _ (uA _));refine ahD ?_)
   |((with_reducible show pC _ _ _);first
    |(with_reducible show pC _ _ (ez _));refine ahh ?_
    |(with_reducible show pC _ _ (ux _ _));refine ahg ?_ ?_)
   |((with_reducible show gh _ _ _);first
    |(show gh _ _ (b9 _));refine ahx ?_
    |(show gh _ _ (qy _ _));refine ahz (qe (by kernel_rfl)) rfl (by first|exact amw rfl|exact alA rfl|exact alA (.inl rfl)|exact alA (alA rfl)) ?_
    |(show gh _ _ (e2 _ _ _));refine ahv ?_ ?_ ?_
    |(show gh _ _ (iA _));refine ahy ?_
    |(show gh _ _ (iz _));refine aht ?_
    |(show gh _ _ (dP "Asker" _ _ _));refine Qk T.nY (by simp[z1]) ?_ ?_
    |(show gh _ _ (dP "House" _ _ _));refine Qk T.nZ (by simp[z2]) ?_ ?_
    |(show gh _ _ (kX jo _ _));refine Ql amr ams tI vV ?_ ?_
    |(show gh _ _ (xn _ _ _));refine ahu an7 rfl ?_ (qe (by kernel_rfl)) rfl (by first|exact amw rfl|exact alA rfl|exact alA (.inl rfl)|exact alA (alA rfl)) ?_
    |(show gh _ _ (uy _ _ _));refine ahw ?_ ?_ ?_
    |(show gh _ _ (AW _ _));refine ahA an7 ?_ ?_
    |(show gh _ _ (kX xe _ _));refine Ql aoV aoW aac ZX ?_ ?_)
   |((with_reducible show ht _ _ _);first|exact F6|refine qw ?_|refine nN ?_ ?_)
   |((with_reducible show ih _ _ _);first|((show ih _ _ (bE _ _));refine ahB ?_ ?_)|((with_reducible show ih _ [] _);refine Qm ?_)|refine ahC ?_|refine Qm ?_)
   |((with_reducible show qN _ _ _);first|exact agK|refine AQ ?_)
   |((with_reducible show o _ _ _ _);first|exact C|refine J (by first|exact T.akn|exact T.ako|exact T.akm) rfl rfl L ?_ (eO P0 iX) ?_)
   |((with_reducible show cE _ _);exact aD.mono (by omega))
   |((with_reducible show eU _ _ _ _ _ _ _ _ _);first|exact(a.Wv (by omega))|exact(a.Wc (by omega))|exact(a.WM (by omega))|exact(a.Ww (by omega))|exact(a.WN (by omega))|exact Wg T|exact(a.V2 (by omega))|exact(a.Wb (by omega))|exact(a.Wm (by omega))|exact(a.Wr (by omega))|exact(a.Wi (by omega))|exact a.Wh _ (by omega)|exact a.WS _ (by omega)|exact(a.Wt (by omega))|exact(a.WR (by omega))|exact a.V9 _ (by omega)|exact(a.Wn (by omega))|exact(a.WK (by omega))|exact(a.V_ (by omega))|exact(a.WX (by omega))|exact(a.Wl (by omega))|exact(a.WO (by omega))|exact(a.WQ (by omega))|exact(a.Wo (by omega))|exact(a.Wq (by omega))|exact(a.Wk (by omega))|exact(a.V' (by omega))|exact(a.Ws (by omega))|exact(a.Wj (by omega))|exact(a.V5 (by omega))|exact(a.WJ (by omega))|exact(a.WY (by omega))|exact(a.Wu (by omega))|exact(a.V6 (by omega))|exact W0 T|exact(a.V7 (by omega))|exact W2 T|exact(a.W3 (by omega))|exact(a.W5 (by omega))|exact(a.WU (by omega))|exact(a.L7 (by omega))|exact(a.L3 (by omega))|exact(a.L_ (by omega))|exact(a.WL (by omega))|exact(a.WT (by omega))|exact(a.L' (by omega))|exact(a.L8 (by omega))|exact(a.L5 (by omega))|exact(a.L9 (by omega))|exact(a.L6 (by omega))|exact(a.L4 (by omega))|exact(a.WV (by omega))|exact(a.V8 (by omega))|exact(a.V4 (by omega))|exact(a.WZ (by omega))|exact(a.V3 (by omega))|exact(a.Wa (by omega))|exact(a.WW (by omega))|exact W4 T|exact(a.Wx (by omega))|exact(a.We (by omega))|exact(a.Wf (by omega))|exact(a.Wd (by omega))|exact(a.WB (by omega))|exact a.Wy _ (by omega)|exact(a.WE (by omega))|exact(a.WG (by omega))|exact(a.WH (by omega))|exact(a.WI (by omega))|exact(a.WC (by omega))|exact(a.Wz (by omega))|exact(a.WA (by omega))|exact(a.WD (by omega)))
   |((with_reducible show kr _ _ _ _ _ _ _ _ _ _);first|exact(a.Vv (by omega))|exact(a.Vw (by omega))|exact(a.Vx (by omega)).all|exact(a.Vy (by omega))|exact(a.VG (by omega))|exact(a.VM (by omega))|exact(a.VA (by omega))|exact(a.VB (by omega))|exact(a.VE (by omega))|exact(a.Vz (by omega))|exact(a.VI (by omega))|exact(a.VC (by omega))|exact(a.VF (by omega))|exact(a.VD (by omega))|exact(a.VK (by omega))|exact(a.VJ (by omega))|exact(a.VN (by omega))|exact(a.VL (by omega))|exact(a.VH (by omega))|exact(a.VO (by omega))|exact(a.VP (by omega))|exact(a.VX (by omega))|exact(a.V1 (by omega))|exact(a.L2 (by omega)).all|exact(a.VQ (by omega))|exact(a.VW (by omega))|exact(a.VT (by omega))|exact(a.VS (by omega))|exact(a.VR (by omega))|exact(a.VU (by omega))|exact(a.VY (by omega))|exact(a.V0 (by omega))|exact(a.VZ (by omega))|exact(a.VV (by omega)))
   |(first|refine agf ?_|refine AP ?_|refine agg rfl T.B.range ?_|refine agh ?_|refine agH ?_|refine agJ ?_|refine agI rfl T.B.range ?_|refine ahr rfl T.B.range ?_|refine ahs rfl T.B.range ?_|exact agQ|refine agR ?_)
def EU(T:Txt P w K mg base)(F:k3 K "law" "law" w3 f fd):e3 P w K mg base eA 27 f fd ["script"] (hJ K mg Eo):=(ay T 27).EU F (akE _)
end
end dR
set_option maxHeartbeats 1000000
namespace aE
open PySem PySem.Spec aC
@[simp] theorem ail{x y:R}:wH x y=match x.own,y.own with
 |some xs,some ys=>if xs.length+ys.length<=akA then pure (.fr (xs++ys))else bad|_,_=>bad:=rfl
@[simp] theorem ake{i j:Int}(a:0<j)(b:j<10 ^ 200):pj i j:=Ct a b
def Bw{α:Type}{xs:List α}{i:Int}{v:α}(h:dY xs i=some v):v∈xs:=by
 obtain⟨j,_,e,_⟩:=x3 h;exact ak7 e
def x4{α:Type}{xs:List α}{i:Int}(a:0<=i)(b:i<xs.length):∃v,dY xs i=some v:=by
 have hl:i.toNat<xs.length:=by omega
 refine⟨xs[i.toNat],?_⟩;have:=i7 (xs:=xs) i.toNat (v:=xs[i.toNat]) (by simp[hl])
 rwa[Int.toNat_of_nonneg a]at this
end aE
namespace i3
inductive a8 where
 |kp (k:Nat)
 |ch (k:Nat) (ps:List a8)
mutual
def a8.names:a8->List Nat
 |.kp k=>[k]
 |.ch _ ps=>a8.eM ps
def a8.eM:List a8->List Nat
 |[]=>[]
 |r::rs=>r.names++a8.eM rs
end
mutual
def a8.deep:a8->Nat
 |.kp _=>0|.ch _ ps=>a8.lW ps+1
def a8.lW:List a8->Nat
 |[]=>0|r::rs=>max r.deep (a8.lW rs)
end
mutual
def a8.wf:a8->Prop
 |.kp k=>k<6|.ch k ps=>1<=k/\k<=ps.length/\ps.length<=6/\a8.nM ps
def a8.nM:List a8->Prop
 |[]=>True|r::rs=>r.wf/\a8.nM rs
end
mutual
def a8.fills(p:Nat->Bool):a8->Bool
 |.kp k=>p k|.ch k ps=>decide (k<=a8.cnt p ps)
def a8.cnt(p:Nat->Bool):List a8->Nat
 |[]=>0|r::rs=>(if r.fills p then 1 else 0)+a8.cnt p rs
end
theorem uw:∀{ps:List a8},a8.nM ps↔∀r∈ps,r.wf
 |[]=>by simp[a8.nM]| r::rs=>by simp[a8.nM,uw]
theorem pJ:∀{ps:List a8}{n:Nat},a8.lW ps<n->∀r∈ps,r.deep<n
 |r::rs,n,h,x,o=>by
  simp only[a8.lW]at h;rcases akP.mp o with rfl|o
  .omega
  .exact pJ (ps:=rs) (by omega) x o
theorem Cd(p:Nat->Bool):∀ps:List a8,(ps.filter (a8.fills p)).length=a8.cnt p ps
 |[]=>rfl|r::rs=>by
  rw[anO];simp only[a8.cnt]
  cases h:r.fills p with
  |true=>simp[Cd p rs];omega|false=>simp[Cd p rs]
mutual
theorem Ls{p q:Nat->Bool}(h:∀k,p k=true->q k=true):∀r:a8,r.fills p=true->r.fills q=true
 |.kp k,e=>by simp only[a8.fills]at e ⊢;exact h k e|.ch k ps,e=>by
  simp only[a8.fills,decide_eq_true_eq]at e ⊢;exact ald e (Jd h ps)
theorem Jd{p q:Nat->Bool}(h:∀k,p k=true->q k=true):∀ps:List a8,a8.cnt p ps<=a8.cnt q ps
 |[]=>akE _|r::rs=>by
  simp only[a8.cnt];have a:=Ls h r;have b:=Jd h rs
  cases e:r.fills p with
  |true=>rw[a e];simp;omega|false=>simp only[anv,if_false];split<;>omega
end
mutual
theorem Lu:∀r:a8,r.wf->r.fills (λ_=>false)=false
 |.kp _,_=>by simp[a8.fills]|.ch k ps,h=>by
  simp only[a8.wf]at h;simp only[a8.fills,cnt_none ps h.2.2.2];exact decide_eq_false (by omega)
theorem cnt_none:∀ps:List a8,a8.nM ps->a8.cnt (λ_=>false) ps=0
 |[],_=>rfl|r::rs,h=>by
  simp only[a8.nM]at h;simp only[a8.cnt,Lu r h.1,cnt_none rs h.2];rfl
end
mutual
theorem qd:∀r:a8,r.wf->∀k∈r.names,k<6
 |.kp k,h,x,o=>by simp only[a8.names,akY]at o;simp only[a8.wf]at h;omega| .ch k ps,h,x,o=>by simp only[a8.wf]at h;exact NN ps h.2.2.2 x (by simpa only[a8.names]using o)
theorem NN:∀ps:List a8,a8.nM ps->∀k∈a8.eM ps,k<6
 |[],_,x,o=>by simp[a8.eM]at o|r::rs,h,x,o=>by
  simp only[a8.nM]at h;simp only[a8.eM,alp]at o;rcases o with o|o
  .exact qd r h.1 x o
  .exact NN rs h.2 x o
end
theorem wz:∀ps a:List a8,a8.eM (ps++a)=a8.eM ps++a8.eM a
 |[],_=>rfl|r::rs,a=>by
  show r.names++a8.eM (rs++a)=(r.names++a8.eM rs)++a8.eM a;rw[wz rs a,amI]
end i3
namespace aE
open PySem PySem.Spec aC i3
mutual
def enc:a8->D
 |.kp k=>.int (k:Nat)|.ch k ps=>.t [.int (k:Nat),.t (encL ps)]
def encL:List a8->List D
 |[]=>[]
 |r::rs=>enc r::encL rs
end
theorem Le:∀ps:List a8,encL ps=ps.map enc
 |[]=>rfl| r::rs=>by rw[akO,<-Le rs];rfl
def q6(k:Nat)(ps:List a8):enc (.ch k ps)=.t [.int (k:Nat),.t (ps.map enc)]:=by rw[<-Le];rfl
def sF(k:Nat):enc (.kp k)=.int (k:Nat):=rfl
@[simp] theorem akg(r:a8):b6 (enc r)=.v (enc r):=by cases r<;>rfl
def Tz{α:Type}(xs:List α)(k:Nat):cutD xs (some (k:Int)) none=xs.drop k:=by
 unfold cutD;rw[c1.Am,c1.An]
 by_cases h:k<=xs.length
 .rw[ano h]
  exact alV (by rw[alE];omega)
 .rw[Nat.min_eq_right (by omega),ao8 (akE _),ao8 (by omega),aph]
def TF{α:Type}(xs:List α)(k:Nat):cutD xs none (some (k:Int))=xs.take k:=by
 unfold cutD;rw[c1.Am,c1.An,aoh,Nat.sub_zero]
 by_cases h:k<=xs.length
 .rw[ano h]
 .rw[Nat.min_eq_right (by omega),alV (akE _),alV (by omega)]
end aE
namespace gf
def cG(m k:Nat):Bool:=m / 2 ^ k % 2==1
def fq(m:Nat):List Nat:=(akR (if m==0 then 0 else m.log2+1)).filter (cG m)
def so(b:Bool)(n:Nat):Nat:=if b then n else 0
def tH(e a b c d f:Bool):Nat:=so e 1+so a 2+so b 4+so c 8+so d 16+so f 32
def kK(p:Nat->Bool):Nat:=tH (p 0) (p 1) (p 2) (p 3) (p 4) (p 5)
def aaa(p:Nat->Bool)(k:Nat)(g:k<6):kK p ||| 2 ^ k=kK λj=>p j||j==k:=by
 have all:∀e a b c d f:Bool,∀k:Fin 6,tH e a b c d f ||| 2 ^ k.val=tH (e||0==k.val) (a||1==k.val) (b||2==k.val) (c||3==k.val) (d||4==k.val) (f||5==k.val):=by decide +kernel
 exact all (p 0) (p 1) (p 2) (p 3) (p 4) (p 5) ⟨k,g⟩
def zU(p:Nat->Bool)(k:Nat)(h:k<6):(kK p / 2 ^ k % 2==1)=p k:=by
 have all:∀f a b c d g:Bool,∀k:Fin 6,(tH f a b c d g / 2 ^ k.val % 2==1)=[f,a,b,c,d,g].getD k.val false:=by decide +kernel
 have e:=all (p 0) (p 1) (p 2) (p 3) (p 4) (p 5) ⟨k,h⟩;rw[show kK p=tH (p 0) (p 1) (p 2) (p 3) (p 4) (p 5)from rfl,e];have:k=0\/k=1\/k=2\/k=3\/k=4\/k=5:=by omega
 rcases this with rfl|rfl|rfl|rfl|rfl|rfl<;>rfl
def EA(p:Nat->Bool):kK p<64:=by
 have all:∀e a b c d f:Bool,tH e a b c d f<64:=by decide +kernel
 exact all _ _ _ _ _ _
def bits(m:Nat):Nat:=if m==0 then 0 else m.log2+1
def maskOf(ns:List Nat):Nat:=ns.foldl (λm k=>m ||| 2 ^ k) 0
theorem NI:∀(ns:List Nat)(p:Nat->Bool),(∀n∈ns,n<6)->ns.foldl (λm k=>m ||| 2 ^ k) (kK p)=kK λj=>p j||ns.contains j
 |[],p,_=>by simp|n::r,p,h=>by
  rw[ao0,aaa p n (h n akS),NI r _ λx a=>h x (akL _ a)]
  congr 1
  funext j
  rw[List.contains_cons,Bool.or_assoc]
def zP(ns:List Nat)(h:∀n∈ns,n<6):maskOf ns=kK λj=>ns.contains j:=by
 have e:=NI ns (λ_=>false) h;have z:kK (λ_=>false)=0:=rfl;rw[z]at e;show ns.foldl (λm k=>m ||| 2 ^ k) 0=_;rw[e];simp
end gf
namespace jt
open gf i3
def sub(x m:Nat):Bool:=(akR 6).all λk=>!cG x k||cG m k
def within(a:List Nat):List Nat:=a.foldl (λms k=>ms++ms.map (· + 2 ^ k)) [0]
def agP:∀M:Fin 64,within (fq M.val)=(akR 64).filter λx=>sub x M.val:=by decide +kernel
def filling(r:a8)(M:Nat):List Nat:=(within (fq M)).filter λm=>r.fills (cG m)
def s7(a:List Nat)(m:Nat):Bool:=!((fq m).any λk=>a.contains (m-2 ^ k))
def least(r:a8):List Nat:=(filling r (maskOf r.names)).filter (s7 (filling r (maskOf r.names)))
def x_(b:m<64)(a:6<=k):cG m k=false:=by
 unfold cG;have c:64<=2 ^ k:=ald (show 64<=2 ^ 6 by decide) (an8 (by decide) a);rw[Nat.div_eq_of_lt (by omega)];rfl
def Au(b:x<64):sub x m=true↔∀k,cG x k=true->cG m k=true:=by
 unfold sub;rw[alg];constructor
 .intro h k a
  by_cases c:k<6
  .have:=h k (ali.mpr c)
   rw[a]at this;simpa using this
  .rw[x_ b (by omega)]at a;cases a
 .intro h k _
  cases e:cG x k with
  |false=>rfl|true=>rw[h k e];rfl
def Ey(a:x<64):k∈fq x↔k<6/\cG x k=true:=by
 have all:∀x:Fin 64,fq x.val=(akR 6).filter (cG x.val):=by decide +kernel
 rw[all ⟨x,a⟩,alN,ali]
def K9(c:x<64)(d:k<6)(h:cG x k=true):x-2 ^ k<x/\∀j,cG (x-2 ^ k) j=true->cG x j=true:=by
 have all:∀x:Fin 64,∀k:Fin 6,cG x.val k.val=true->x.val-2 ^ k.val<x.val/\sub (x.val-2 ^ k.val) x.val=true:=by decide +kernel
 obtain⟨a,b⟩:=all ⟨x,c⟩ ⟨k,d⟩ h;exact⟨a,(Au (by have:x-2 ^ k<x:=a;omega)).mp b⟩
def zR{r:a8}{M x:Nat}(d:M<64):x∈filling r M↔x<64/\sub x M=true/\r.fills (cG x)=true:=by
 unfold filling;rw[agP ⟨M,d⟩,alN,alN,ali];constructor
 .rintro⟨⟨a,b⟩,c⟩;exact⟨a,b,c⟩
 .rintro⟨a,b,c⟩;exact⟨⟨a,b⟩,c⟩
def zQ(r:a8)(h:r.wf):maskOf r.names<64:=by
 rw[zP r.names (qd r h)];exact EA _
def Z5(r:a8)(h:r.wf)(a:k∈r.names):cG (maskOf r.names) k=true:=by
 rw[zP r.names (qd r h)];have:=zU (λj=>r.names.contains j) k (qd r h k a);unfold cG;rw[this];simpa using a
def zt(r:a8)(h:r.wf)(a:x∈least r):x<64/\r.fills (cG x)=true/\sub x (maskOf r.names)=true:=by
 have:=(alN.mp a).1;rw[zR (zQ r h)]at this;exact⟨this.1,this.2.2,this.2.1⟩
def Zz(r:a8)(h:r.wf):∀(n x:Nat),x<=n->x<64->sub x (maskOf r.names)=true->r.fills (cG x)=true->∃y∈least r,∀j,cG y j=true->cG x j=true:=by
 intro n
 induction n with
 |zero=>
  intro x s a d b;have:x=0:=by omega
  subst this;exfalso;have e:cG 0=λ_=>false:=by funext j;unfold cG;rw[Nat.zero_div];rfl
  rw[e,Lu r h]at b;cases b
 |succ n q=>
  intro x s a d b;have i:x∈filling r (maskOf r.names):=(zR (zQ r h)).mpr ⟨a,d,b⟩
  cases hl:s7 (filling r (maskOf r.names)) x with
  |true=>exact⟨x,alN.mpr ⟨i,hl⟩,λ_ c=>c⟩|false=>
   unfold s7 at hl;have g:((fq x).any λk=>(filling r (maskOf r.names)).contains (x-2 ^ k))=true:=by simpa using hl
   obtain⟨k,t,B⟩:=anM.mp g;obtain⟨D,m⟩:=(Ey a).mp t;obtain⟨E,u⟩:=K9 a D m;have l:x-2 ^ k∈filling r (maskOf r.names):=by simpa using B
   obtain⟨w,z,A⟩:=(zR (zQ r h)).mp l;obtain⟨y,p,f⟩:=q (x-2 ^ k) (by omega) w z A;exact⟨y,p,λj c=>u j (f j c)⟩
mutual
theorem Lr{p q:Nat->Bool}:∀r:a8,(∀k∈r.names,p k=q k)->r.fills p=r.fills q
 |.kp k,h=>by simp only[a8.fills];exact h k (by simp[a8.names])| .ch k ps,h=>by simp only[a8.fills];rw[Jb ps λk a=>h k (by simpa[a8.names]using a)]
theorem Jb{p q:Nat->Bool}:∀ps:List a8,(∀k∈a8.eM ps,p k=q k)->a8.cnt p ps=a8.cnt q ps
 |[],_=>rfl|r::rs,h=>by
  simp only[a8.cnt];rw[Lr r λk a=>h k (by simp[a8.eM,a]),Jb rs λk a=>h k (by simp[a8.eM,a])]
end
def aj2(r:a8)(h:r.wf)(t:m<64):r.fills (cG m)=(least r).any fun x=>sub x m:=by
 cases e:r.fills (cG m)with
 |true=>
  symm;rw[anM];have c:∀k,k<6->(kK (λj=>cG m j&&cG (maskOf r.names) j) / 2 ^ k % 2==1)=(cG m k&&cG (maskOf r.names) k):=λk a=>zU _ k a
  have b:kK (λj=>cG m j&&cG (maskOf r.names) j)<64:=EA _;generalize kK (λj=>cG m j&&cG (maskOf r.names) j)=x at c b;have s:r.fills (cG x)=true:=by
   rw[<-e];refine Lr r λk a=>?_
   show cG x k=cG m k;have:=c k (qd r h k a);unfold cG at this ⊢;rw[this];have q:=Z5 r h a;unfold cG at q;rw[q,api]
  have ay:sub x (maskOf r.names)=true:=by
   rw[Au b];intro k a
   by_cases f:k<6
   .have:=c k f
    unfold cG at a;rw[a]at this;have:=(ak0 _ _▸this.symm);exact this.2
   .rw[x_ b (by omega)]at a;cases a
  obtain⟨y,g,i⟩:=Zz r h x x (akE _) b ay s;refine⟨y,g,?_⟩;rw[Au (zt r h g).1];intro k a;have d:=i k a
  by_cases f:k<6
  .have:=c k f
   unfold cG at d;rw[d]at this;have:=(ak0 _ _▸this.symm);exact this.1
  .rw[x_ b (by omega)]at d;cases d
 |false=>
  symm;rw[List.any_eq_false];intro x p ay;obtain⟨l,n,_⟩:=zt r h p;have:=Ls ((Au l).mp ay) r n;rw[e]at this;cases this
end jt
namespace aE
open PySem PySem.Spec aC gf i3 jt
def a'(k:Nat):D:=.int (k:Int)
def gP(k:Nat):a' k=.int (k:Int):=rfl
def Rf(x:Int):al6 x 1=x % 2:=W.kbt_mask x 1
def EX(a b:Nat):anJ (a:Int) (b:Int)=((a ||| b:Nat):Int):=by
 have c:decide (0<=alY (a:Int))=false:=decide_eq_false (by unfold alY;omega);have d:decide (0<=alY (b:Int))=false:=decide_eq_false (by unfold alY;omega);have au:(alY (alY (a:Int))).toNat=a:=by unfold alY;omega
 have aF:(alY (alY (b:Int))).toNat=b:=by unfold alY;omega
 unfold anJ al6;rw[c,d];dsimp only;rw[au,aF];unfold alY;omega
def Rd(a b:Nat):al6 (a:Int) (b:Int)=((a&&& b:Nat):Int):=by
 have c:decide (0<=(a:Int))=true:=decide_eq_true (by omega);have d:decide (0<=(b:Int))=true:=decide_eq_true (by omega);unfold al6;rw[c,d];rfl
def Yw(m:Nat):alL (m:Int)=gf.bits m:=by
 unfold alL gf.bits;rw[Int.natAbs_natCast]
 by_cases h:m=0
 .subst h;rfl
 .have h':(m:Int)≠0:=by omega
  rw[beq_eq_false_iff_ne.mpr h,beq_eq_false_iff_ne.mpr h']
def bits_le(m:Nat)(h:m<64):gf.bits m<=6:=by
 have all:∀m:_root_.Fin 64,gf.bits m.val<=6:=by decide +kernel
 exact all ⟨m,h⟩
def Y0(m:Nat):fq m=(akR (gf.bits m)).filter (cG m):=rfl
def DT(h:m<64):(fq m).length<=6:=by
 have all:∀m:_root_.Fin 64,(fq m.val).length<=6:=by decide +kernel
 exact all ⟨m,h⟩
def Eu(a:List Nat)(k:Nat):gf.maskOf (a++[k])=gf.maskOf a ||| 2 ^ k:=by
 unfold gf.maskOf;rw[List.foldl_append];rfl
def NJ(k:Nat):gf.maskOf [k]=2 ^ k:=by
 show 0 ||| 2 ^ k=2 ^ k
 exact Nat.zero_or _
def P7(a:List Nat)(k:Nat):within (a++[k])=within a++(within a).map (· + 2 ^ k):=by
 unfold within;rw[List.foldl_append];rfl
def P6:∀a:List Nat,(within a).length=2 ^ a.length:=by
 intro a;rcases h:a.length with _|n
 .rw[amW.mp h];rfl
 .have:∀(n:Nat)(a:List Nat),a.length=n->(within a).length=2 ^ n:=by
   intro n
   induction n with
   |zero=>intro a h;rw[amW.mp h];rfl|succ n b=>
    intro a h;rcases List.eq_nil_or_concat a with rfl|⟨l,k,rfl⟩
    .cases h
    .rw[List.concat_eq_append]at h ⊢
     rw[akB,aly]at h;rw[P7,akB,akz,b l (by omega)];omega
  exact this _ _ h
def take_snoc{α:Type}{l:List α}{i:Nat}{x:α}(h:l[i]? = some x):l.take (i+1)=l.take i++[x]:=by
 rw[aoD,h];rfl
def zO{α a:Type}{f:α->a}{l:List α}{i:Nat}{y:a}(h:(l.map f)[i]? = some y):∃x,l[i]? = some x/\y=f x:=by
 rw[akN]at h
 cases e:l[i]? with
 |none=>rw[e]at h;cases h
 |some x=>rw[e]at h;exact⟨x,rfl,(ak1 h).symm⟩
def Su(m k:Nat):(al6 ((m:Int) / 2 ^ k) 1==1)=cG m k:=by
 rw[Rf];unfold cG;have au:((m:Int) / 2 ^ k) % 2=((m / 2 ^ k % 2:Nat):Int):=by
  rw[Int.natCast_emod,Int.natCast_ediv,Int.natCast_pow];rfl
 rw[au,ama,beq_iff_eq,beq_iff_eq];omega
def Fn(n:Nat):en 0 n=(akR n).map a':=by
 unfold en;refine anj λi _=>?_
 show D.int (0+(i:Int))=.int (i:Int);rw[Int.zero_add]
def MG(k:Nat)(a:List Nat):inD (a' k) (a.map a')=a.contains k:=by
 unfold inD;rw[List.any_map,List.contains_eq_any_beq]
 congr 1
 funext j
 show eT (.int (j:Int)) (.int (k:Int))=(k==j);rw[ama,beq_iff_eq];simp[eT];omega
theorem n2{α:Type}{t:aJ->M Bool}{el:bw}{U:aJ}(f:α->D)(p:α->Bool)(g:α->D):∀xs:List α,(∀x∈xs,t (U.set 0 (.v (f x)))=pure (p x))->(∀x∈xs,p x=true->(el (U.set 0 (.v (f x))) >>= R.dat)=pure (g x))->
  gn t el U (xs.map f)=pure ((xs.filter p).map g)
 |[],_,_=>rfl|x::xs,o,C=>by
  have b:=n2 f p g xs (λx a=>o x (akL _ a)) λx a=>C x (akL _ a)
  rw[akO];unfold gn;rw[o x akS,pure_bind]
  cases e:p x with
  |false=>rw[if_neg akD,b,List.filter_cons_of_neg (by rw[e];exact akD)]|true=>
   have h:=C x akS e;rw[if_pos rfl,<-bind_assoc,h,pure_bind,b,pure_bind,List.filter_cons_of_pos e];rfl
def qV{α:Type}{el:bw}{U:aJ}(f:α->D)(g:α->D)(xs:List α)(h:∀x∈xs,(el (U.set 0 (.v (f x))) >>= R.dat)=pure (g x)):gn fJ el U (xs.map f)=pure (xs.map g):=by
 have:=n2 (t:=fJ) (el:=el) (U:=U) f (λ_=>true) g xs (λ_ _=>rfl) λx a _=>h x a
 rw[this]
 congr 2
 exact List.filter_eq_self.mpr λ_ _=>rfl
theorem sL{α:Type}{b:D->aP}(f:α->D)(p:α->Bool)(v:α->R)(J:aJ->Prop):∀(xs:List α)(U:aJ),J U->
  (∀x U,x∈xs->J U->(p x=true->b (f x) U=pure (.cx (v x)))/\(p x=false->∃U',b (f x) U=pure (.bu U')/\J U'))->
  (∀x,xs.find? p=some x->kA b (xs.map f) U=pure (.cx (v x)))/\(xs.find? p=none->∃U',kA b (xs.map f) U=pure (.bu U')/\J U')
 |[],U,h0,_=>⟨λx h=>(nomatch h),λ_=>⟨U,rfl,h0⟩⟩
 |x::xs,U,h0,step=>by
  obtain⟨i,s2⟩:=step x U akS h0
  cases e:p x with
  |true=>
   rw[am4 e];refine⟨λy h=>?_,λh=>(nomatch h)⟩;cases h;show(b (f x) U >>= _)=_;rw[i e];rfl
  |false=>
   obtain⟨a,au,g⟩:=s2 e;have d:=sL f p v J xs a g λy U c=>step y U (akL _ c)
   rw[am5 (by rw[e];exact akD)];have u:kA b ((x::xs).map f) U=kA b (xs.map f) a:=by
    show(b (f x) U >>= _)=_;rw[au];rfl
   rw[u];exact d
end aE
namespace jt
open gf i3
def Rh(b:x<64)(c:y<64):(x&&& y==0)=true↔∀k,cG x k=true->cG y k=true->False:=by
 have all:∀x y:Fin 64,(x.val&&& y.val==0)=(akR 6).all λk=>!(cG x.val k&&cG y.val k):=by decide +kernel
 rw[all ⟨x,b⟩ ⟨y,c⟩,alg];constructor
 .intro h k a d
  by_cases e:k<6
  .have:=h k (ali.mpr e)
   rw[a,d]at this;cases this
  .rw[x_ b (by omega)]at a;cases a
 .intro h k _
  cases au:cG x k with
  |false=>rfl|true=>
   cases aF:cG y k with
   |false=>rfl|true=>exact(h k au aF).elim
def lP(x y:Nat):Bool:=x&&& y==0
def j'(k:a8)(m:Nat):Bool:=((least k).find? (lP m)).isSome
end jt
namespace aE
open PySem PySem.Spec aC
mutual
def D.AR:D->Bool
 |.t xs=>decide (xs.length<=1000)&&mB xs|.l xs=>decide (xs.length<=1000)&&mB xs|.ref _=>true|.fn _=>true|.ty _=>true|.aI=>true|.ax _=>true|.int _=>true|.str _=>true
def mB:List D->Bool
 |[]=>true|x::xs=>x.AR&&mB xs
end
theorem xk:∀{xs:List D},mB xs=true↔∀x∈xs,x.AR=true
 |[]=>by simp[mB]| x::xs=>by simp[mB,xk]
theorem pR:∀{xs:List D}{n:Nat},hy xs n=true↔∀x∈xs,x.b3 n=true
 |[],_=>by simp[hy]| x::xs,n=>by simp[hy,pR]
def Ok(n:Nat)(d:D):Prop:=d.b3 n=true/\d.AR=true
def oK:Ok n .aI:=⟨rfl,rfl⟩
def dS{i:Int}:Ok n (.int i):=⟨rfl,rfl⟩
def hH(h:akW x=true):Ok n (.str x):=⟨h,rfl⟩
def rN{xs:List D}(hl:xs.length<=1000)(h:∀x∈xs,Ok n x):Ok (n+1) (.t xs):=
 ⟨pR.mpr λx a=>(h x a).1,by show(decide (xs.length<=1000)&&mB xs)=true;rw[decide_eq_true hl,xk.mpr λx a=>(h x a).2];rfl⟩
def UO:∀{d:D}{n m:Nat},n<=m->d.b3 n=true->d.b3 m=true:=by
 intro d
 induction d using D.rec (motive_2:=λds=>∀n m,n<=m->hy ds n=true->hy ds m=true)with
 |aI=>exact λ_ h=>h
 |ax _=>exact λ_ h=>h
 |int _=>exact λ_ h=>h
 |str _=>exact λ_ h=>h
 |fn _=>exact λ_ h=>h
 |ty _=>exact λ_ h=>h
 |ref _=>exact λ_ h=>h
 |t xs b=>
  intro n m a h
  cases n with
  |zero=>cases h
  |succ n=>
   cases m with
   |zero=>omega| succ m=>exact b n m (by omega) h
 |l xs b=>
  intro n m a h
  cases n with
  |zero=>cases h
  |succ n=>
   cases m with
   |zero=>omega| succ m=>exact b n m (by omega) h
 |nil=>rfl|cons x xs c e=>
  rename_i n m a h;have h:(x.b3 n&&hy xs n)=true:=h;rw[ak0]at h;show(x.b3 m&&hy xs m)=true;rw[c a h.1,e n m a h.2];rfl
def rM(h:Ok n d)(a:n<=m):Ok m d:=⟨UO a h.1,h.2⟩
def ab6(h:Ok n a):Ok (n+1) (.t [a]):=rN (by simp) λx b=>by rw[akY.mp b];exact h
def mr(c:Ok n a)(d:Ok n b):Ok (n+1) (.t [a,b]):=rN (by simp) (by simp only[aln];exact⟨c,d,λ_ h=>nomatch h⟩)
def nE(d:Ok n a)(e:Ok n b)(f:Ok n c):Ok (n+1) (.t [a,b,c]):=rN (by simp) (by simp only[aln];exact⟨d,e,f,λ_ h=>nomatch h⟩)
def ET(e:Ok n a)(f:Ok n b)(g:Ok n c)(i:Ok n d):Ok (n+1) (.t [a,b,c,d]):=rN (by simp) (by simp only[aln];exact⟨e,f,g,i,λ_ h=>nomatch h⟩)
def pick(P:D->Prop)(xs:List D)(c k:Int)(d:(xs.length:Int)=k)(f:0<k)(h:∀x∈xs,P x):∃v,dY xs (c % k)=some v/\P v:=by
 have b:=mod_lt (a:=c) f;obtain⟨v,e⟩:=x4 (xs:=xs) (i:=c % k) b.1 (by rw[d];exact b.2);exact⟨v,e,h v (Bw e)⟩
@[simp] theorem aiK:R.kb (.bU xs)=false:=rfl
@[simp] theorem aiH:R.kb (.v (.l xs))=false:=rfl
@[simp] theorem aiE:R.kb (.v (.ax b))=false:=rfl
@[simp] theorem ai0{z:Str}:nc [.v (.str z)]=if z.length<=akA then pure (.v (.int (z.length:Nat)))else bad:=rfl
@[simp] theorem aim{x y:Str}:oG (.v (.str x)) (.v (.str y))=if x.length+y.length<=akA then pure (.v (.str (x++y)))else bad:=rfl
def eq_str(h:akW x=true):oEq (.v (.str x)) (.v (.str x))=pure (.v (.ax true)):=by rw[pN (x:=.v (.str x)) (y:=.v (.str x)) h h];simp[eT]
structure dq where
 e:Int
 p1:Int
 cD:Int
 ej:Int
 d2:Int
 ba:D
def bK(a b:Int):D:=.t [.int a,.int b]
def dF(g:dq):D:=.t [.int g.e,bK g.p1 g.cD,bK g.ej g.d2,g.ba]
def oQ(l:List dq):List D:=(jT (λa b:Int=>decide (a<b)) ((l.map dq.e).zip (l.map dF))).map (·.2)
theorem M_{mf:bp}(h:∀g:dq,mf [dF g]=pure (.v (.int g.e))):∀l:List dq,keysOf fs mf (l.map dF)=some (l.map dq.e)
 |[]=>rfl|g::l=>by
  rw[akO];unfold keysOf;rw[M_ h l];have:ta fs mf (dF g)=some g.e:=by unfold ta;rw[h];rfl
  rw[this];rfl
theorem GQ:∀{l:List Int},l.Nodup->mY (λa b:Int=>decide (a<b)) l=true
 |[],_=>rfl|a::r,h=>by
  rw[alx]at h;unfold mY;rw[GQ h.2,api,alg];intro b c;have:a≠b:=λe=>h.1 (e▸c)
  simp only[ao4,decide_eq_true_eq];omega
def aeW{mf:bp}(h:∀g:dq,mf [dF g]=pure (.v (.int g.e))){x:R}{l:List dq}(a:x.ft=some (l.map dF))(aA:(l.map dq.e).Nodup)(hl:l.length<64):n8 fs mf x=pure (.fr (oQ l)):=by
 unfold n8;rw[a];dsimp only;rw[M_ h l];dsimp only;rw[if_pos ⟨GQ aA,by rw[akz];exact hl⟩];rfl
theorem Qn:∀l:List dq,(l.map dq.e).zip (l.map dF)=l.map λg=>(g.e,dF g)
 |[]=>rfl| g::l=>by rw[akO,akO,akO,anw,Qn l]
def aeT{l c:List dq}(d:c.Perm l)(ay:c.Pairwise λa b=>a.e<b.e):oQ l=c.map dF:=by
 have aA:(l.map dq.e).Nodup:=by
  have:(c.map dq.e).Nodup:=by
   rw[anh,am8];exact ay.imp λh=>by omega
  exact(d.map dq.e).nodup_iff.mp this
 have hz:((l.map λg=>(g.e,dF g)).map (·.1)).Nodup:=by
  rw[amq];exact aA
 have one:=FA vK.toKeyOrd (l:=l.map λg=>(g.e,dF g)) (ps:=c.map λg=>(g.e,dF g)) hz (d.map _) (by
  rw[am8];exact ay.imp λh=>decide_eq_true h)
 unfold oQ;rw[Qn];have:jT (λa b:Int=>decide (a<b)) (l.map λg=>(g.e,dF g))=c.map λg=>(g.e,dF g):=one.symm
 rw[this,amq];rfl
def putL(bk:List dq)(g:dq):List dq:=bk.filter (λh=>!(h.e==g.e))++[g]
def ON{bk:List dq}(h:(bk.map dq.e).Nodup):((putL bk g).map dq.e).Nodup:=by
 unfold putL;rw[al1,anA];refine⟨h.sublist (aoc.map _),by simp,λa f b c=>?_⟩;obtain⟨x,d,rfl⟩:=ak5.mp f;have i:b=g.e:=by simpa using c
 subst i;have:=(alN.mp d).2;simpa using this
def OM(bk:List dq)(g:dq):(putL bk g).length<=bk.length+1:=by
 unfold putL;rw[akB,aly];have:=aml (λh:dq=>!(h.e==g.e)) bk;omega
def adX{bk:List dq}(h:x∈putL bk g):x∈bk\/x=g:=by
 unfold putL at h;rcases alp.mp h with h|h
 .exact .inl (alN.mp h).1
 .exact .inr (akY.mp h)
def lM(bk:List dq):Prop:=bk.Pairwise λa b=>a.e<b.e
def lM.nodup{bk:List dq}(h:lM bk):(bk.map dq.e).Nodup:=by
 rw[anh,am8];exact apu (λh=>by omega) h
def find_eq{bk:List dq}{e:Int}{g:dq}(h:bk.find? (λx=>x.e==e)=some g):g.e=e/\g∈bk:=⟨by have:=anm h;simpa using this,amm h⟩
def blank(e:Int):dq:=⟨e,0,0,0,0,.aI⟩
def e'(bk:List dq)(e:Int):dq:=(bk.find? (λx=>x.e==e)).getD (blank e)
def Om(bk:List dq)(e:Int):(e' bk e).e=e:=by
 unfold e'
 cases h:bk.find? (λx=>x.e==e)with
 |none=>rfl|some g=>exact(find_eq h).1
@[simp] theorem aio{g:List Int->List Int->Bool}{a b c d:Int}:tQ g (.v (bK a b)) (.v (bK c d))=pure (.v (.ax (g [a,b] [c,d]))):=rfl
def adY{bk:List dq}(aD:lM bk)(g:dq):∃d,lM d/\oQ (putL bk g)=d.map dF/\(∀x,x∈d↔x∈putL bk g)/\d.length<=bk.length+1:=by
 have f:=List.mergeSort_perm (putL bk g) (λa b=>decide (a.e<=b.e));have ay:=List.pairwise_mergeSort (le:=λa b:dq=>decide (a.e<=b.e)) (λa b c j k=>by
  have:=of_decide_eq_true j;have:=of_decide_eq_true k;exact decide_eq_true (by omega)) (λa b=>by simp only[ao4,decide_eq_true_eq];omega) (putL bk g)
 generalize(putL bk g).mergeSort (λa b=>decide (a.e<=b.e))=d at f ay;have aA:(d.map dq.e).Nodup:=(f.map dq.e).nodup_iff.mpr (ON aD.nodup);have rise:lM d:=by
  unfold lM;clear f
  induction d with
  |nil=>exact .nil|cons x l m=>
   rw[akO,alx]at aA;rw[amk]at ay ⊢;refine⟨λy i=>?_,m ay.2 aA.2⟩;have j:=of_decide_eq_true (ay.1 y i);have k:x.e≠y.e:=λh=>aA.1 (by rw[h];exact amU i)
   omega
 exact⟨d,rise,aeT f rise,λx=>f.mem_iff,by rw[f.length_eq];exact OM bk g⟩
end aE
namespace aE
open PySem PySem.Spec aC PyProof.Rows
section
variable{Q:amd}[DecidableEq Q.α]
def k5(Q:amd)(l:List (Q.α×D)):Prop:=l.Pairwise λa b=>Q.blt a.1 b.1=true
def k5.nodup{l:List (Q.α×D)}(h:k5 Q l):(l.map (·.1)).Nodup:=by
 rw[anh,am8];refine apu (λ{a b} h e=>?_) h;rw[e,Q.irrefl]at h;cases h
def jB(l:List (Q.α×D))(a:Q.α):List (Q.α×D):=l.filter λq=>!decide (q.1=a)
def ki(l:List (Q.α×D))(p:Q.α×D):List (Q.α×D):=jB l p.1++[p]
def kj(l:List (Q.α×D))(p:Q.α×D):List (Q.α×D):=jT Q.blt (ki l p)
def fo(l:List (Q.α×D))(a:Q.α):Option D:=(l.find? λq=>decide (q.1=a)).map (·.2)
def K7{l:List (Q.α×D)}(a:Q.α)(h:(l.map (·.1)).Nodup):((jB l a).map (·.1)).Nodup:=h.sublist (aoc.map _)
def va{l:List (Q.α×D)}{a:Q.α}{x:Q.α×D}:x∈jB l a↔x∈l/\x.1≠a:=by
 unfold jB;rw[alN];simp
def Cw(l:List (Q.α×D))(a:Q.α):(jB l a).length<=l.length:=aml _ _
def E9{l:List (Q.α×D)}(p:Q.α×D)(h:(l.map (·.1)).Nodup):((ki l p).map (·.1)).Nodup:=by
 unfold ki;rw[al1,anA];refine⟨K7 _ h,by simp,λa e b c=>?_⟩;obtain⟨x,d,rfl⟩:=ak5.mp e;rw[show b=p.1 by simpa using c];exact(va.mp d).2
def E8{l:List (Q.α×D)}{p x:Q.α×D}:x∈ki l p↔(x∈l/\x.1≠p.1)\/x=p:=by
 unfold ki;rw[alp,va,akY]
def OO(l:List (Q.α×D))(p:Q.α×D):(ki l p).length<=l.length+1:=by
 unfold ki;rw[akB,aly];have:=Cw l p.1;omega
def E_{l:List (Q.α×D)}(p:Q.α×D)(h:(l.map (·.1)).Nodup):k5 Q (kj l p):=Fz Q _ (E9 p h)
def t2{l:List (Q.α×D)}{p x:Q.α×D}:x∈kj l p↔(x∈l/\x.1≠p.1)\/x=p:=by
 unfold kj;rw[(Aq _ _).mem_iff,E8]
def Uh{l:List (Q.α×D)}(aA:(l.map (·.1)).Nodup)(a:x∈l):l.find? (λq=>decide (q.1=x.1))=some x:=by
 induction l with
 |nil=>cases a
 |cons y l b=>
  rw[akO,alx]at aA;rcases akP.mp a with rfl|a
  .rw[am4 (by simp)]
  .have c:¬y.1=x.1:=λh=>aA.1 (by rw[h];exact amU a)
   rw[am5 (by simpa using c)];exact b aA.2 a
def US{l:List (Q.α×D)}(aA:(l.map (·.1)).Nodup)(a:x∈l):fo l x.1=some x.2:=by
 unfold fo;rw[Uh aA a];rfl
def vj{l:List (Q.α×D)}{a:Q.α}{d:D}(h:fo l a=some d):(a,d)∈l:=by
 unfold fo at h;obtain⟨x,b,rfl⟩:=anD.mp h;have c:=amm b;have e:x.1=a:=by have:=anm b;simpa using this
 rw[<-e];exact c
def LL{l:List (Q.α×D)}(aA:(l.map (·.1)).Nodup):fo l a=some d↔(a,d)∈l:=⟨vj,λh=>US aA h⟩
def UR{l b:List (Q.α×D)}(aA:(b.map (·.1)).Nodup)(h:∀d,(a,d)∈b↔o=some d):fo b a=o:=by
 cases o with
 |some d=>exact(LL aA).mpr ((h d).mpr rfl)|none=>
  cases e:fo b a with
  |none=>rfl|some d=>exact((h d).mp (vj e)).symm
def UT{l:List (Q.α×D)}(p:Q.α×D)(aA:(l.map (·.1)).Nodup)(a:Q.α):fo (kj l p) a=if a=p.1 then some p.2 else fo l a:=
 UR (l:=l) (E_ p aA).nodup fun d=>by
  rw[t2]
  by_cases e:a=p.1
  .rw[if_pos e]
   constructor
   .rintro(⟨_,h⟩|h)
    .exact absurd e h
    .rw[<-h]
   .intro h
    refine .inr ?_;cases p;cases h;rw[e]
  .rw[if_neg e,LL aA]
   constructor
   .rintro(⟨h,_⟩|h)
    .exact h
    .rw[<-h]at e;exact absurd rfl e
   .exact λh=>.inl ⟨h,e⟩
def K8(b:Q.α)(h:k5 Q l):k5 Q (jB l b):=List.Pairwise.sublist aoc h
def aeS(h:k5 Q l):jT Q.blt l=l:=(FA Q h.nodup (.refl _) h).symm
def Ri(h:l.Nodup):mY Q.blt l=true:=by
 induction l with
 |nil=>rfl|cons a r c=>
  rw[alx]at h;unfold mY;rw[c h.2,api,alg];intro b d
  cases au:Q.blt a b with
  |true=>rfl|false=>
   cases aF:Q.blt b a with
   |true=>rfl|false=>exact absurd (Q.total a b au aF▸d) h.1
end
section
variable{Z:iD}[DecidableEq Z.κ.α]
theorem M'(b:∀a,Z.un (Z.eL a)=some a){mf:bp}:∀{l:List (Z.κ.α×D)},(∀x∈l,mf [x.2]=pure (.v (Z.eL x.1)))->keysOf Z mf (l.map (·.2))=some (l.map (·.1))
 |[],_=>rfl|x::l,h=>by
  have e:ta Z mf x.2=some x.1:=by
   unfold ta;rw[h x akS];exact b x.1
  rw[akO,akO];unfold keysOf;rw[e,M' b λy c=>h y (akL _ c)]
theorem zip_rows{α a:Type}:∀l:List (α×a),(l.map (·.1)).zip (l.map (·.2))=l
 |[]=>rfl| x::l=>by rw[akO,akO,anw,zip_rows l]
def FC(c:∀a,Z.un (Z.eL a)=some a){mf:bp}{l:List (Z.κ.α×D)}(h:∀x∈l,mf [x.2]=pure (.v (Z.eL x.1))){r:R}(b:r.ft=some (l.map (·.2)))(aA:(l.map (·.1)).Nodup)(hl:l.length<64) :
  n8 Z mf r=pure (.fr ((jT Z.κ.blt l).map (·.2))):=by
 unfold n8;rw[b];dsimp only;rw[M' c h];dsimp only;rw[if_pos ⟨Ri (Q:=Z.κ.toKeyOrd) aA,by rw[akz];exact hl⟩,zip_rows]
end
end aE
namespace aE
open PySem PySem.Spec aC
abbrev e7:=mb.κ.toKeyOrd
def bg(a:List Nat):Str:=⟨a.toArray⟩
abbrev cd(s:Str):List Nat:=s.cps.toList
def I5(a:List Nat):cd (bg a)=a:=rfl
def PR(a:List Nat):mb.un (mb.eL a)=some a:=rfl
def YZ(a:List Nat):mb.eL a=.str (bg a):=rfl
def PN:bg a=bg b↔a=b:=⟨λh=>by rw[<-I5 a,h,I5],λh=>by rw[h]⟩
def T6(d:akW (bg a)=true)(c:akW (bg b)=true):oEq (.v (.str (bg a))) (.v (.str (bg b)))=pure (.v (.ax (decide (a=b)))):=by
 rw[pN (x:=.v (.str (bg a))) (y:=.v (.str (bg b))) d c];show pure (R.v (D.ax (bg a==bg b)))=_
 congr 3
 rw[ama,beq_iff_eq,decide_eq_true_eq,PN]
def abF(d:akW (bg a)=true)(c:akW (bg b)=true):dI (.v (.str (bg a))) (.v (.str (bg b)))=pure (.v (.ax (!decide (a=b)))):=by
 rw[vc (x:=.v (.str (bg a))) (y:=.v (.str (bg b))) d c];show pure (R.v (D.ax (!(bg a==bg b))))=_
 congr 4
 rw[ama,beq_iff_eq,decide_eq_true_eq,PN]
def lN(a:List Nat):Prop:=akW (bg a)=true/\1<=a.length/\a.length<=8
def ae4:akW (bg a)=true↔∀c∈a,c<0x110000:=by
 unfold akW bg;rw[List.all_toArray,alg];simp
def oY(a:List Nat):(bg a).length=a.length:=by
 show a.toArray.size=_;simp
def af3(a b:List Nat):bg a++bg b=bg (a++b):=by
 show(⟨a.toArray++b.toArray⟩:Str)=_;unfold bg;simp
def Tv(a:List Nat)(lo hi:Option Int):pF (bg a) lo hi=bg (cutD a lo hi):=rfl
def TA{α:Type}(xs:List α)(k:Nat)(h:k<=xs.length):cutD xs none (some (k:Int))=xs.take k:=by
 unfold cutD;rw[c1.Am,c1.An,aoh,Nat.sub_zero,ano h]
def TB{α:Type}(xs:List α)(k:Nat)(h:k<=xs.length):cutD xs (some (k:Int)) none=xs.drop k:=by
 unfold cutD;rw[c1.Am,c1.An,ano h,alV (by rw[alE];omega)]
def aat:(("add":Str) == "put")=false:=by decide +kernel
def abB:(("swap":Str) == "put")=false:=by decide +kernel
def abA:(("swap":Str) == "add")=false:=by decide +kernel
def abD:(("take":Str) == "put")=false:=by decide +kernel
def abC:(("take":Str) == "add")=false:=by decide +kernel
def abE:(("take":Str) == "swap")=false:=by decide +kernel
def abp:(("renew":Str) == "put")=false:=by decide +kernel
def abo:(("renew":Str) == "add")=false:=by decide +kernel
def abq:(("renew":Str) == "swap")=false:=by decide +kernel
def abr:(("renew":Str) == "take")=false:=by decide +kernel
def abd:(("free":Str) == "put")=false:=by decide +kernel
def abc:(("free":Str) == "add")=false:=by decide +kernel
def abf:(("free":Str) == "swap")=false:=by decide +kernel
def abg:(("free":Str) == "take")=false:=by decide +kernel
def abe:(("free":Str) == "renew")=false:=by decide +kernel
def abw:(("sure":Str) == "put")=false:=by decide +kernel
def abu:(("sure":Str) == "add")=false:=by decide +kernel
def aby:(("sure":Str) == "swap")=false:=by decide +kernel
def abz:(("sure":Str) == "take")=false:=by decide +kernel
def abx:(("sure":Str) == "renew")=false:=by decide +kernel
def abv:(("sure":Str) == "free")=false:=by decide +kernel
def abj:(("move":Str) == "put")=false:=by decide +kernel
def abh:(("move":Str) == "add")=false:=by decide +kernel
def abm:(("move":Str) == "swap")=false:=by decide +kernel
def abn:(("move":Str) == "take")=false:=by decide +kernel
def abk:(("move":Str) == "renew")=false:=by decide +kernel
def abi:(("move":Str) == "free")=false:=by decide +kernel
def abl:(("move":Str) == "sure")=false:=by decide +kernel
def aa7:(("end":Str) == "put")=false:=by decide +kernel
def aa4:(("end":Str) == "add")=false:=by decide +kernel
def aba:(("end":Str) == "swap")=false:=by decide +kernel
def abb:(("end":Str) == "take")=false:=by decide +kernel
def aa8:(("end":Str) == "renew")=false:=by decide +kernel
def aa5:(("end":Str) == "free")=false:=by decide +kernel
def aa9:(("end":Str) == "sure")=false:=by decide +kernel
def aa6:(("end":Str) == "move")=false:=by decide +kernel
def aau:(("do_add":Str) == "do_put")=false:=by decide +kernel
def aa0:(("do_swap":Str) == "do_put")=false:=by decide +kernel
def aaZ:(("do_swap":Str) == "do_add")=false:=by decide +kernel
def aa2:(("do_take":Str) == "do_put")=false:=by decide +kernel
def aa1:(("do_take":Str) == "do_add")=false:=by decide +kernel
def aa3:(("do_take":Str) == "do_swap")=false:=by decide +kernel
def aaQ:(("do_renew":Str) == "do_put")=false:=by decide +kernel
def aaP:(("do_renew":Str) == "do_add")=false:=by decide +kernel
def aaR:(("do_renew":Str) == "do_swap")=false:=by decide +kernel
def aaS:(("do_renew":Str) == "do_take")=false:=by decide +kernel
def aaE:(("do_free":Str) == "do_put")=false:=by decide +kernel
def aaD:(("do_free":Str) == "do_add")=false:=by decide +kernel
def aaG:(("do_free":Str) == "do_swap")=false:=by decide +kernel
def aaH:(("do_free":Str) == "do_take")=false:=by decide +kernel
def aaF:(("do_free":Str) == "do_renew")=false:=by decide +kernel
def aaV:(("do_sure":Str) == "do_put")=false:=by decide +kernel
def aaT:(("do_sure":Str) == "do_add")=false:=by decide +kernel
def aaX:(("do_sure":Str) == "do_swap")=false:=by decide +kernel
def aaY:(("do_sure":Str) == "do_take")=false:=by decide +kernel
def aaW:(("do_sure":Str) == "do_renew")=false:=by decide +kernel
def aaU:(("do_sure":Str) == "do_free")=false:=by decide +kernel
def aaK:(("do_move":Str) == "do_put")=false:=by decide +kernel
def aaI:(("do_move":Str) == "do_add")=false:=by decide +kernel
def aaN:(("do_move":Str) == "do_swap")=false:=by decide +kernel
def aaO:(("do_move":Str) == "do_take")=false:=by decide +kernel
def aaL:(("do_move":Str) == "do_renew")=false:=by decide +kernel
def aaJ:(("do_move":Str) == "do_free")=false:=by decide +kernel
def aaM:(("do_move":Str) == "do_sure")=false:=by decide +kernel
def aay:(("do_end":Str) == "do_put")=false:=by decide +kernel
def aav:(("do_end":Str) == "do_add")=false:=by decide +kernel
def aaB:(("do_end":Str) == "do_swap")=false:=by decide +kernel
def aaC:(("do_end":Str) == "do_take")=false:=by decide +kernel
def aaz:(("do_end":Str) == "do_renew")=false:=by decide +kernel
def aaw:(("do_end":Str) == "do_free")=false:=by decide +kernel
def aaA:(("do_end":Str) == "do_sure")=false:=by decide +kernel
def aax:(("do_end":Str) == "do_move")=false:=by decide +kernel
end aE
namespace dR
open PySem PySem.Spec aC aE
def pk(x:Int×D):Prop:=∃n z:D,x.2=.t [.int x.1,n,z]
def pk.eZ{x:Int×D}(h:pk x):aH (.v x.2) (.v (.int 0))=pure (.v (.int x.1)):=by
 obtain⟨n,z,e⟩:=h;rw[e];simp
def pk.slot{x:Int×D}(h:pk x):b6 x.2=.v x.2:=by
 obtain⟨n,z,e⟩:=h;rw[e];rfl
def Cu{l:List (Int×D)}(h:∀x∈l,pk x)(c le aU:D)(a:Int):p_ [.t [c,.t (l.map (·.2)),le,aU],.int a]=pure (.v ((fo (Q:=fs.κ.toKeyOrd) l a).getD (.t [.int a,.int 0,.aI]))):=by
 have L:=sL (b:=λd U=>zl (U.set 2 (.v d))) (λx:Int×D=>x.2) (λx=>decide (x.1=a)) (λx=>.v x.2) (λU=>∃s2,U=[.v (.t [c,.t (l.map (·.2)),le,aU]),.v (.int a),s2]) l [.v (.t [c,.t (l.map (·.2)),le,aU]),.v (.int a),.e] ⟨_,rfl⟩
  (λx U f ⟨s2,g⟩=>by
   subst g;have eZ:=(h x f).eZ;refine⟨λq=>?_,λq=>⟨[.v (.t [c,.t (l.map (·.2)),le,aU]),.v (.int a),.v x.2],?_,_,rfl⟩⟩
   .have q:x.1=a:=of_decide_eq_true q
    simp only[zl];simp[eZ,q]
   .have q:¬x.1=a:=of_decide_eq_false q
    simp only[zl];simp[eZ,q])
 simp only[p_,Hp,Hq];unfold fo
 cases e:l.find? (λx=>decide (x.1=a))with
 |some x=>
  have:=L.1 x e;simp[this]
 |none=>
  obtain⟨U',i,s2,rfl⟩:=L.2 e;simp[i]
def Nj{x:Int×D}(h:pk x):fnOf 1 1 (aY (ae aH (I 0) (af (.int 0)))) [x.2]=pure (.v (.int x.1)):=by
 have:=h.eZ;simp[h.slot,this]
def agN{l:List (Int×D)}(h:∀x∈l,pk x)(aA:(l.map (·.1)).Nodup)(hl:l.length<63)(c le aU:D)(a:Int)(n z:D)(ay:b6 n=.v n)(hz:b6 z=.v z) :
  zM [.t [c,.t (l.map (·.2)),le,aU],.int a,n,z]=pure (.v (.t [c,.t ((kj (Q:=fs.κ.toKeyOrd) l (a,.t [.int a,n,z])).map (·.2)),le,aU])):=by
 have bf:gn (aL (ae dI (ae aH (I 0) (af (.int 0))) (I 1))) (I 0) [.e,.v (.int a)] (l.map (·.2))=pure ((jB (Q:=fs.κ.toKeyOrd) l a).map (·.2)):=
  n2 (λx:Int×D=>x.2) (λx=>!decide (x.1=a)) (λx=>x.2) l (λx b=>by
   have eZ:=(h x b).eZ;simp[eZ];rfl) λx _ _=>by simp
 have g:l.length<akA:=fU (by omega);have dl:=Cw (Q:=fs.κ.toKeyOrd) l a;have f:(jB (Q:=fs.κ.toKeyOrd) l a).length<akA:=fU (by omega);have dT:=FC (Z:=fs) (λ_=>rfl) (mf:=fnOf 1 1 (aY (ae aH (I 0) (af (.int 0))))) (l:=ki (Q:=fs.κ.toKeyOrd) l (a,.t [.int a,n,z])) (λx b=>by
  rcases(E8 (Q:=fs.κ.toKeyOrd)).mp b with⟨b,_⟩|rfl
  .exact Nj (h x b)
  .exact Nj ⟨n,z,rfl⟩) (r:=.mv ((jB (Q:=fs.κ.toKeyOrd) l a).map (·.2)++[.t [.int a,n,z]])) (by
   show some _=some _;unfold ki;rw[al1];rfl) (E9 _ aA) (by have:=OO (Q:=fs.κ.toKeyOrd) l (a,.t [.int a,n,z]);omega)
 have i:∀(d:bw)(U:aJ)(mf:bp),pE fs mf d U=(do let x <-d U;n8 fs mf x):=λ_ _ _=>rfl
 simp only[zM,BY,IE,IF];unfold kj;simp[ay,hz,bf,g,f,dT,i]
abbrev si:=List (List Nat×D)
def lH(x:List Nat×D):Prop:=lN x.1/\∃n:Int,n≠0/\x.2=.t [.str (bg x.1),.int n]
def lH.eZ(h:lH x):aH (.v x.2) (.v (.int 0))=pure (.v (.str (bg x.1))):=by
 obtain⟨_,n,_,e⟩:=h;rw[e];simp
def lH.slot(h:lH x):b6 x.2=.v x.2:=by
 obtain⟨_,n,_,e⟩:=h;rw[e];rfl
def k9:Option D->Int
 |some (.t [_,.int n])=>n|_=>0
def Ca{l:si}(h:∀x∈l,lH x)(d le aU:D)(f:lN a):tp [.t [.t (l.map (·.2)),d,le,aU],.str (bg a)]=pure (.v (.int (k9 (fo (Q:=e7) l a)))):=by
 have L:=sL (b:=λd U=>zk (U.set 2 (.v d))) (λx:List Nat×D=>x.2) (λx=>decide (x.1=a)) (λx=>.v (.int (k9 (some x.2)))) (λU=>∃s2,U=[.v (.t [.t (l.map (·.2)),d,le,aU]),.v (.str (bg a)),s2]) l [.v (.t [.t (l.map (·.2)),d,le,aU]),.v (.str (bg a)),.e] ⟨_,rfl⟩
  (λx U c ⟨s2,g⟩=>by
   subst g;have eZ:=(h x c).eZ;have eq:=T6 (h x c).1.1 f.1;obtain⟨_,n,_,e⟩:=h x c;refine⟨λq=>?_,λq=>⟨[.v (.t [.t (l.map (·.2)),d,le,aU]),.v (.str (bg a)),.v x.2],?_,_,rfl⟩⟩
   .rw[q]at eq
    simp only[zk];rw[e]at eZ ⊢;simp[eZ,eq,k9]
   .rw[q]at eq
    simp only[zk];simp[eZ,eq])
 simp only[tp,Hi,Hj];unfold fo
 cases e:l.find? (λx=>decide (x.1=a))with
 |some x=>
  have:=L.1 x e;simp[this]
 |none=>
  obtain⟨U',i,s2,rfl⟩:=L.2 e;simp[i,k9]
def D7(h:lH x):fnOf 1 1 (aY (ae aH (I 0) (af (.int 0)))) [x.2]=pure (.v (mb.eL x.1)):=by
 have:=h.eZ;rw[YZ];simp[h.slot,this]
def kU(l:si)(a:List Nat)(n:Int):si:=if n=0 then jB (Q:=e7) l a else kj (Q:=e7) l (a,.t [.str (bg a),.int n])
def agi(h:k5 e7 l)(a:List Nat)(n:Int):k5 e7 (kU l a n):=by
 unfold kU;split
 .exact K8 a h
 .exact E_ _ h.nodup
def agj(h:∀x∈l,lH x)(c:lN a)(n:Int):∀x∈kU l a n,lH x:=λx b=>by
 unfold kU at b;split at b
 .exact h x ((va (Q:=e7)).mp b).1
 .rename_i q
  rcases(t2 (Q:=e7)).mp b with⟨b,_⟩|rfl
  .exact h x b
  .exact⟨c,n,q,rfl⟩
def AS{l:si}(h:∀x∈l,lH x)(aD:k5 e7 l)(hl:l.length<63)(d le aU:D)(c:lN a)(n:Int) :
  rE [.t [.t (l.map (·.2)),d,le,aU],.str (bg a),.int n]=pure (.v (.t [.t ((kU l a n).map (·.2)),d,le,aU])):=by
 have bf:gn (aL (ae dI (ae aH (I 0) (af (.int 0))) (I 1))) (I 0) [.e,.v (.str (bg a))] (l.map (·.2))=pure ((jB (Q:=e7) l a).map (·.2)):=
  n2 (λx:List Nat×D=>x.2) (λx=>!decide (x.1=a)) (λx=>x.2) l (λx b=>by
   have eZ:=(h x b).eZ;have ne:=abF (h x b).1.1 c.1;simp[eZ,ne]) λx _ _=>by simp
 have i:l.length<akA:=fU (by omega);have dl:=Cw (Q:=e7) l a;have g:(jB (Q:=e7) l a).length<akA:=fU (by omega);have j:∀(f:bw)(U:aJ)(mf:bp),pE mb mf f U=(do let x <-f U;n8 mb mf x):=λ_ _ _=>rfl
 simp only[rE,BX,IC,ID];unfold kU
 by_cases q:n=0
 .have dT:=FC (Z:=mb) PR (mf:=fnOf 1 1 (aY (ae aH (I 0) (af (.int 0))))) (l:=jB (Q:=e7) l a) (λx b=>D7 (h x ((va (Q:=e7)).mp b).1)) (r:=.mv ((jB (Q:=e7) l a).map (·.2))) rfl (K7 a aD.nodup) (by omega)
  rw[aeS (Q:=e7) (K8 a aD)]at dT;rw[if_pos q];simp[q,bf,i,g,dT,j]
 .have dT:=FC (Z:=mb) PR (mf:=fnOf 1 1 (aY (ae aH (I 0) (af (.int 0))))) (l:=ki (Q:=e7) l (a,.t [.str (bg a),.int n])) (λx b=>by
   rcases(E8 (Q:=e7)).mp b with⟨b,_⟩|rfl
   .exact D7 (h x b)
   .exact D7 ⟨c,n,q,rfl⟩) (r:=.mv ((jB (Q:=e7) l a).map (·.2)++[.t [.str (bg a),.int n]])) (by
    show some _=some _;unfold ki;rw[al1];rfl) (E9 _ aD.nodup) (by have:=OO (Q:=e7) l (a,.t [.str (bg a),.int n]);omega)
  rw[if_neg q];unfold kj;simp[q,bf,i,g,dT,j]
def agO(c d le aU f t:D)(b:b6 f=.v f)(a:b6 t=.v t):zN [.t [c,d,le,aU],f,t]=pure (.v (.t [c,d,.t [f,t],aU])):=by
 simp[zN,IG,b,a]
def F2(c d le aU s:D)(ay:b6 s=.v s):tE [.t [c,d,le,aU],s]=pure (.v (.t [c,d,le,s])):=by
 simp[tE,IJ,ay]
def mZ(x:D)(ds:List D):dY (x::ds) 0=some x:=i7 0 rfl
def afF:hn.lookup ("put":Str)=some ("do_put":Str):=by
 unfold hn;simp only[akQ,beq_self_eq_true]
def Uq:hS.lookup ("do_put":Str)=some v':=by
 unfold hS;simp only[akQ,beq_self_eq_true]
def acG{s a r:D}(ay:b6 s=.v s)(b:b6 a=.v a)(h:v' [s,a,.t (.str "put"::ds)]=pure (.v r)):e_ [s,a,.t (.str "put"::ds)]=pure (.v r):=by
 simp only[e_,m2,m3];simp[ay,b,mZ,afF,Uq,h]
def afB:hn.lookup ("add":Str)=some ("do_add":Str):=by
 unfold hn;simp only[akQ,beq_self_eq_true,aat]
def Um:hS.lookup ("do_add":Str)=some v8:=by
 unfold hS;simp only[akQ,beq_self_eq_true,aau]
def acy{s a r:D}(ay:b6 s=.v s)(b:b6 a=.v a)(h:v8 [s,a,.t (.str "add"::ds)]=pure (.v r)):e_ [s,a,.t (.str "add"::ds)]=pure (.v r):=by
 simp only[e_,m2,m3];simp[ay,b,mZ,afB,Um,h]
def afI:hn.lookup ("swap":Str)=some ("do_swap":Str):=by
 unfold hn;simp only[akQ,beq_self_eq_true,abB,abA]
def Ut:hS.lookup ("do_swap":Str)=some tu:=by
 unfold hS;simp only[akQ,beq_self_eq_true,aa0,aaZ]
def acK{s a r:D}(ay:b6 s=.v s)(b:b6 a=.v a)(h:tu [s,a,.t (.str "swap"::ds)]=pure (.v r)):e_ [s,a,.t (.str "swap"::ds)]=pure (.v r):=by
 simp only[e_,m2,m3];simp[ay,b,mZ,afI,Ut,h]
def afJ:hn.lookup ("take":Str)=some ("do_take":Str):=by
 unfold hn;simp only[akQ,beq_self_eq_true,abD,abC,abE]
def Uu:hS.lookup ("do_take":Str)=some tv:=by
 unfold hS;simp only[akQ,beq_self_eq_true,aa2,aa1,aa3]
def acL{s a r:D}(ay:b6 s=.v s)(b:b6 a=.v a)(h:tv [s,a,.t (.str "take"::ds)]=pure (.v r)):e_ [s,a,.t (.str "take"::ds)]=pure (.v r):=by
 simp only[e_,m2,m3];simp[ay,b,mZ,afJ,Uu,h]
def afG:hn.lookup ("renew":Str)=some ("do_renew":Str):=by
 unfold hn;simp only[akQ,beq_self_eq_true,abp,abo,abq,abr]
def Ur:hS.lookup ("do_renew":Str)=some tr:=by
 unfold hS;simp only[akQ,beq_self_eq_true,aaQ,aaP,aaR,aaS]
def acH{s a r:D}(ay:b6 s=.v s)(b:b6 a=.v a)(h:tr [s,a,.t (.str "renew"::ds)]=pure (.v r)):e_ [s,a,.t (.str "renew"::ds)]=pure (.v r):=by
 simp only[e_,m2,m3];simp[ay,b,mZ,afG,Ur,h]
def afD:hn.lookup ("free":Str)=some ("do_free":Str):=by
 unfold hn;simp only[akQ,beq_self_eq_true,abd,abc,abf,abg,abe]
def Uo:hS.lookup ("do_free":Str)=some tq:=by
 unfold hS;simp only[akQ,beq_self_eq_true,aaE,aaD,aaG,aaH,aaF]
def acD{s a r:D}(ay:b6 s=.v s)(b:b6 a=.v a)(h:tq [s,a,.t (.str "free"::ds)]=pure (.v r)):e_ [s,a,.t (.str "free"::ds)]=pure (.v r):=by
 simp only[e_,m2,m3];simp[ay,b,mZ,afD,Uo,h]
def afH:hn.lookup ("sure":Str)=some ("do_sure":Str):=by
 unfold hn;simp only[akQ,beq_self_eq_true,abw,abu,aby,abz,abx,abv]
def Us:hS.lookup ("do_sure":Str)=some ts:=by
 unfold hS;simp only[akQ,beq_self_eq_true,aaV,aaT,aaX,aaY,aaW,aaU]
def acJ{s a r:D}(ay:b6 s=.v s)(b:b6 a=.v a)(h:ts [s,a,.t (.str "sure"::ds)]=pure (.v r)):e_ [s,a,.t (.str "sure"::ds)]=pure (.v r):=by
 simp only[e_,m2,m3];simp[ay,b,mZ,afH,Us,h]
def afE:hn.lookup ("move":Str)=some ("do_move":Str):=by
 unfold hn;simp only[akQ,beq_self_eq_true,abj,abh,abm,abn,abk,abi,abl]
def Up:hS.lookup ("do_move":Str)=some v_:=by
 unfold hS;simp only[akQ,beq_self_eq_true,aaK,aaI,aaN,aaO,aaL,aaJ,aaM]
def acE{s a r:D}(ay:b6 s=.v s)(b:b6 a=.v a)(h:v_ [s,a,.t (.str "move"::ds)]=pure (.v r)):e_ [s,a,.t (.str "move"::ds)]=pure (.v r):=by
 simp only[e_,m2,m3];simp[ay,b,mZ,afE,Up,h]
def afC:hn.lookup ("end":Str)=some ("do_end":Str):=by
 unfold hn;simp only[akQ,beq_self_eq_true,aa7,aa4,aba,abb,aa8,aa5,aa9,aa6]
def Un:hS.lookup ("do_end":Str)=some v9:=by
 unfold hS;simp only[akQ,beq_self_eq_true,aay,aav,aaB,aaC,aaz,aaw,aaA,aax]
def acB{s a r:D}(ay:b6 s=.v s)(b:b6 a=.v a)(h:v9 [s,a,.t (.str "end"::ds)]=pure (.v r)):e_ [s,a,.t (.str "end"::ds)]=pure (.v r):=by
 simp only[e_,m2,m3];simp[ay,b,mZ,afC,Un,h]
section
variable{l:si}(h:∀x∈l,lH x)(aD:k5 e7 l)(hl:l.length<63)(d le aU:D){a:List Nat}(aq:lN a)(n i:Int)
include h aD hl aq
theorem acR:e_ [.t [.t (l.map (·.2)),d,le,aU],.int i,.t [.str "put",.str (bg a),.int n]]=pure (.v (.t [.t [.t ((kU l a n).map (·.2)),d,le,aU],.int (k9 (fo (Q:=e7) l a))])):=
 acG rfl rfl (by
  have au:=AS h aD hl d le aU aq n;have aF:=Ca h d le aU aq;simp[v',Ho,au,aF])
theorem acN:e_ [.t [.t (l.map (·.2)),d,le,aU],.int i,.t [.str "add",.str (bg a),.int n]]=pure (.v (.t [.t [.t ((kU l a (k9 (fo (Q:=e7) l a)+n)).map (·.2)),d,le,aU],.int (k9 (fo (Q:=e7) l a)+n)])):=
 acy rfl rfl (by
  have au:=AS h aD hl d le aU aq (k9 (fo (Q:=e7) l a)+n);have aF:=Ca h d le aU aq;simp[v8,Hk,Hl,au,aF])
theorem acU(o:Int):e_ [.t [.t (l.map (·.2)),d,le,aU],.int i,.t [.str "swap",.str (bg a),.int o,.int n]]=pure (.v (if k9 (fo (Q:=e7) l a)=o then .t [.t [.t ((kU l a n).map (·.2)),d,le,aU],.int 1]else .t [.t [.t (l.map (·.2)),d,le,aU],.int 0])):=
 acK rfl rfl (by
  have au:=AS h aD hl d le aU aq n;have aF:=Ca h d le aU aq
  by_cases q:k9 (fo (Q:=e7) l a)=o
  .rw[if_pos q]
   simp[tu,BK,BL,au,aF,q]
  .rw[if_neg q]
   simp[tu,BK,BL,au,aF,q])
theorem acT(f g:Int)(t:D)(b:t.b3 63=true):e_ [.t [.t (l.map (·.2)),d,.t [.int f,t],aU],.int i,.t [.str "sure",.int g,.str (bg a),.int n]]=pure (.v (if(f==g&&eT t (.int i))=true then .t [.t [.t ((kU l a n).map (·.2)),d,.t [.int f,t],aU],.int 1]else .t [.t [.t (l.map (·.2)),d,.t [.int f,t],aU],.int 0])):=
 acJ rfl rfl (by
  have au:=AS h aD hl d (.t [.int f,t]) aU aq n;have ne:dI (.v (.t [.int f,t])) (.v (.t [.int g,.int i]))=pure (.v (.ax (!(f==g&&eT t (.int i))))):=by
   rw[vc (x:=.v (.t [.int f,t])) (y:=.v (.t [.int g,.int i])) (pR.mpr (by simp only[aln];exact⟨rfl,b,λ_ h=>nomatch h⟩)) rfl];simp[eT,oL]
  cases q:(f==g&&eT t (.int i))with
  |true=>
   rw[q]at ne;simp[ts,BI,BJ,jQ,m1,au,ne]
  |false=>
   rw[q]at ne;simp[ts,BI,BJ,jQ,m1,au,ne])
end
section
variable(c d le aU:D)(i:Int)
def acQ(z:D)(hz:b6 z=.v z):e_ [.t [c,d,le,aU],.int i,.t [.str "move",z]]=pure (.v (.t [.t [c,d,le,z],.int 1])):=
 acE rfl rfl (by simp[v_,Hn,F2 c d le aU z hz])
def acO:e_ [.t [c,d,le,aU],.int i,.t [.str "end"]]=pure (.v (.t [.t [c,d,le,.str "over"],.int 1])):=
 acB rfl rfl (by simp[v9,Hm,F2 c d le aU (.str "over") rfl])
variable(f g:Int)(t:D)(bF:t.b3 63=true)
def EI:tC [.t [c,d,.t [.int f,t],aU]]=pure (.v (.t [.t [c,d,.t [.int f,t],aU],.t [.int 0,.int f,t]])):=by
 simp[tC,It,Iu,jQ,m1]
def D8(u:D)(a:b6 u=.v u):tA [.t [c,d,.t [.int f,t],aU],.int g,u]=pure (.v (.t [.t [c,d,.t [.int (g+1),u],aU],.t [.int 1,.int (g+1),u]])):=by
 simp[tA,Ic,agO c d (.t [.int f,t]) aU (.int (g+1)) u rfl a,a]
def acV:e_ [.t [c,d,.t [.int f,t],aU],.int i,.t [.str "take",.int g]]=pure (.v (if f=g then .t [.t [c,d,.t [.int (g+1),.int i],aU],.t [.int 1,.int (g+1),.int i]]else .t [.t [c,d,.t [.int f,t],aU],.t [.int 0,.int f,t]])):=
 acL rfl rfl (by
  have au:=D8 c d aU f g t (.int i) rfl;have aF:=EI c d aU f t
  by_cases q:f=g
  .rw[if_pos q]
   simp[tv,BM,BN,jQ,m1,au,aF,q];rw[q]at au;simp[au]
  .rw[if_neg q]
   simp[tv,BM,BN,jQ,m1,au,aF,q])
include bF
theorem NW:dI (.v (.t [.int f,t])) (.v (.t [.int g,.int i]))=pure (.v (.ax (!(f==g&&eT t (.int i))))):=by
 rw[vc (x:=.v (.t [.int f,t])) (y:=.v (.t [.int g,.int i])) (pR.mpr (by simp only[aln];exact⟨rfl,bF,λ_ h=>nomatch h⟩)) rfl];simp[eT,oL]
theorem acS:e_ [.t [c,d,.t [.int f,t],aU],.int i,.t [.str "renew",.int g]]=pure (.v (if(f==g&&eT t (.int i))=true then .t [.t [c,d,.t [.int (g+1),.int i],aU],.t [.int 1,.int (g+1),.int i]]else .t [.t [c,d,.t [.int f,t],aU],.t [.int 0,.int f,t]])):=
 acH rfl rfl (by
  have au:=D8 c d aU f g t (.int i) rfl;have aF:=EI c d aU f t;have ne:=NW i f g t bF
  cases q:(f==g&&eT t (.int i))with
  |true=>
   rw[q]at ne;simp[tr,BG,BH,jQ,m1,au,aF,ne]
  |false=>
   rw[q]at ne;simp[tr,BG,BH,jQ,m1,au,aF,ne])
theorem acP:e_ [.t [c,d,.t [.int f,t],aU],.int i,.t [.str "free",.int g]]=pure (.v (if(f==g&&eT t (.int i))=true then .t [.t [c,d,.t [.int (g+1),.aI],aU],.t [.int 1,.int (g+1),.aI]]else .t [.t [c,d,.t [.int f,t],aU],.t [.int 0,.int f,t]])):=
 acD rfl rfl (by
  have au:=D8 c d aU f g t .aI rfl;have aF:=EI c d aU f t;have ne:=NW i f g t bF
  cases q:(f==g&&eT t (.int i))with
  |true=>
   rw[q]at ne;simp[tq,BE,BF,jQ,m1,au,aF,ne]
  |false=>
   rw[q]at ne;simp[tq,BE,BF,jQ,m1,au,aF,ne])
end
def qG(x:Int×D):Prop:=∃(n:Int)(z:D),x.2=.t [.int x.1,.int n,z]
def qG.pK{x:Int×D}(h:qG x):pk x:=by obtain⟨n,z,e⟩:=h;exact⟨_,_,e⟩
def rF:Option D->Int
 |some (.t [_,.int n,_])=>n|_=>0
def Nn{l:List (Int×D)}(h:∀x∈l,qG x)(a:Int):aH (.v ((fo (Q:=fs.κ.toKeyOrd) l a).getD (.t [.int a,.int 0,.aI]))) (.v (.int 1))=pure (.v (.int (rF (fo (Q:=fs.κ.toKeyOrd) l a)))):=by
 cases q:fo (Q:=fs.κ.toKeyOrd) l a with
 |none=>simp[rF]|some d=>
  obtain⟨n,z,e⟩:=h _ (vj q);have e:d=.t [.int a,.int n,z]:=e;subst e;simp[rF]
def vL(c d le aU:D):mj [.t [c,d,le,aU]]=(do hF (.v aU) (.v .aI)):=by
 simp[mj,HR,oB,BW]
section
variable{l:List (Int×D)}(h:∀x∈l,qG x)(c le aU:D)(a n:Int)
include h
theorem K6(ds:D)(hd:b6 ds=.v ds)(q:ds=.aI\/(∃xs,ds=.t xs)/\(aU=.str "over"\/(∃b,aU=.t b)\/aU=.aI/\n<=rF (fo (Q:=fs.κ.toKeyOrd) l a))) :
  nz [.t [c,.t (l.map (·.2)),le,aU],.int a,.int n,ds]=pure (.v (.t [c,.t (l.map (·.2)),le,aU])):=by
 have au:=Cu (λx d=>(h x d).pK) c le aU a;have aF:=Nn h a;simp only[nz,BO,BP,BQ];rcases q with rfl|⟨⟨xs,rfl⟩,rfl|⟨b,rfl⟩|⟨rfl,q⟩⟩
 .simp
 .simp[vL]
 .simp[vL]
 .simp[vL,au,aF,q]
theorem TM(xs:List D)(q:rF (fo (Q:=fs.κ.toKeyOrd) l a)<n)(hl:l.length<63)(aA:(l.map (·.1)).Nodup){c' le' sh' v:D}
  (d:e_ [.t [c,.t (l.map (·.2)),le,.aI],.int a,.t xs]=pure (.v (.t [.t [c',.t (l.map (·.2)),le',sh'],v]))) (e:b6 v=.v v) :
  nz [.t [c,.t (l.map (·.2)),le,.aI],.int a,.int n,.t xs]=pure (.v (.t [c',.t ((kj (Q:=fs.κ.toKeyOrd) l (a,.t [.int a,.int n,v])).map (·.2)),le',sh'])):=by
 have au:=Cu (λx b=>(h x b).pK) c le .aI a;have aF:=Nn h a;have cO:=agN (λx b=>(h x b).pK) aA hl c' le' sh' a (.int n) v rfl e;have f:¬n<=rF (fo (Q:=fs.κ.toKeyOrd) l a):=by omega
 simp only[nz,BO,BP,BQ];simp[vL,au,aF,f,d,cO]
end
def abV{l:List (Int×D)}(h:∀x∈l,qG x)(a n:Int)(v:D):∀x∈kj (Q:=fs.κ.toKeyOrd) l (a,.t [.int a,.int n,v]),qG x:=λx b=>by
 rcases(t2 (Q:=fs.κ.toKeyOrd)).mp b with⟨b,_⟩|rfl
 .exact h x b
 .exact⟨n,v,rfl⟩
end dR
namespace dR
open PySem PySem.Spec aC aE i3
def Good(r:a8):Prop:=r.wf/\r.deep<=4/\r.names.length<=12
end dR
namespace dR
open PySem PySem.Spec aC aE i3 gf jt
def o8(i:Int):ml [.int i]=pure (.v (.ax true)):=by kernel_rfl
def F1(xs:List D):ml [.t xs]=pure (.v (.ax false)):=by kernel_rfl
def C8(m k:Nat):p' [a' m,a' k]=pure (.v (.ax (cG m k))):=by
 have e:=Su m k;simp only[p',Hx,gP];simp[e]
def wo(a:List Nat)(h:∀k∈a,k<=1000):lp [.l (a.map a')]=pure (.v (a' (maskOf a))):=by
 obtain⟨U',e,s2,rfl⟩:=sM (b:=λd U=>D2 (U.set 2 (.v d))) (ds:=a.map a') (U:=[.bU (a.map a'),.v (.int 0),.e])
  (λi U=>∃s2,U=[.bU (a.map a'),.v (a' (maskOf (a.take i))),s2]) ⟨_,rfl⟩ (λi d U hd ⟨s2,f⟩=>by
   subst f;obtain⟨k,c,rfl⟩:=zO hd;have g:=h k (ak7 c);refine⟨_,.inl (?_:_=pure (fY.bu [.bU (a.map a'),.v (a' (maskOf (a.take (i+1)))),.v (a' k)])),_,rfl⟩;rw[take_snoc c,Eu,gP (_ ||| _),<-EX];have ej:(k:Int)<=1000000:=by omega
   simp only[D2,gP];simp[ej])
 rw[akz,anP]at e;simp only[lp,Ie,Ig,Ih];simp[e]
def DU(h:m<64):tw [a' m]=pure (.fr ((fq m).map a')):=by
 have b:=bits_le m h;have c:gn (aL (bo p' (aa (I 1) (aa (I 0) ai)))) (I 0) [.e,.v (a' m)] ((akR (bits m)).map a')=pure (((akR (bits m)).filter (cG m)).map a'):=
  n2 a' (cG m) a' _ (λk _=>by simp[C8]) λk _ _=>by simp
 have a:-4611686018427387904<=((bits m:Nat):Int)/\((bits m:Nat):Int)<4611686018427387904:=by omega
 have z:bits m<akA:=fU (by omega);rw[Y0];simp only[tw,HS];simp only[gP m]at c ⊢;simp[Yw,a,Fn,z,c]
def Z6(h:m<64):zJ [a' m]=pure (.v (.l ((within (fq m)).map a'))):=by
 have a:=DU h;have w:=DT h;obtain⟨U',e,s2,rfl⟩:=sM (b:=λd U=>D3 (U.set 2 (.v d))) (ds:=(fq m).map a') (U:=[.v (a' m),.v (.l [.int 0]),.e])
  (λi U=>∃s2,U=[.v (a' m),.v (.l ((within ((fq m).take i)).map a')),s2]) ⟨_,rfl⟩ (λi d U hd ⟨s2,q⟩=>by
   subst q;obtain⟨k,a,rfl⟩:=zO hd;have u:k<6:=((Ey h).mp (ak7 a)).1;refine⟨_,.inl (?_:_=pure (fY.bu [.v (a' m),.v (.l ((within ((fq m).take (i+1))).map a')),.v (a' k)])),_,rfl⟩;rw[take_snoc a,P7,al1,amq];have mo:lp [.l [a' k]]=pure (.v (a' (2 ^ k))):=by
    have:=wo [k] (by intro j n;rw[akY.mp n];omega)
    rwa[NJ]at this
   have g:=P6 ((fq m).take i);have t:((fq m).take i).length<=6:=by rw[alT];omega
   have f:2 ^ ((fq m).take i).length<=2 ^ 6:=an8 (by decide) t;generalize within ((fq m).take i)=ws at g;have p:ws.length<=64:=by rw[g];exact f
   have c:gn fJ (ae eN (I 0) (bo lp (aa (eu (aa (I 1) ai)) ai))) [.e,.v (a' k)] (ws.map a')=pure (ws.map (a'∘λx=>x+2 ^ k)):=
    qV a' _ ws λx _=>by
     simp[mo];rw[gP x,gP (2 ^ k)];simp[gP]
   have s:ws.length<akA:=fU (by omega);have r:ws.length+ws.length<=akA:=ame (fU (by omega));simp only[D3];simp[c,s,r])
 rw[akz,anP]at e;simp only[zJ,Ii,Ij,Ik];simp only[gP m]at e a ⊢;simp[a,e]
theorem NQ:∀(n:Nat)(r:a8),r.deep<n->r.names.length<=1000->mn n [enc r]=pure (.fr (r.names.map a'))
 |0,r,h,_=>absurd h (al2 _)|n+1,.kp k,h,_=>by
  simp only[mn,x9,sF,a8.names];simp[o8,gP]
 |n+1,.ch k ps,h,hl=>by
  simp only[a8.deep]at h;simp only[a8.names]at hl ⊢;have dl:=pJ (ps:=ps) (n:=n) (by omega);rw[q6];obtain⟨U',e,s2,rfl⟩:=sM (b:=λd U=>vR (mn n) (U.set 2 (.v d))) (ds:=ps.map enc) (U:=[.v (.t [.int (k:Nat),.t (ps.map enc)]),.d9 false [],.e])
   (λi U=>∃s2,U=[.v (.t [.int (k:Nat),.t (ps.map enc)]),.d9 false ((a8.eM (ps.take i)).map a'),s2]) ⟨_,rfl⟩ (λi d U hd ⟨s2,c⟩=>by
    subst c;obtain⟨r,aD,rfl⟩:=zO hd;have g:=ak7 aD;refine⟨_,.inl (?_:_=pure (fY.bu [.v (.t [.int (k:Nat),.t (ps.map enc)]),.d9 false ((a8.eM (ps.take (i+1))).map a'),.v (enc r)])),_,rfl⟩;have f:=take_snoc aD;have le:(a8.eM (ps.take (i+1))).length<=1000:=by
     have:a8.eM ps=a8.eM (ps.take (i+1))++a8.eM (ps.drop (i+1)):=by rw[<-wz,List.take_append_drop]
     rw[this,akB]at hl;omega
    rw[f,wz]at le ⊢;rw[show a8.eM [r]=r.names from alO _]at le ⊢;rw[akB]at le;have a:=NQ n r (dl r g) (by omega);have z:(a8.eM (ps.take i)).length+r.names.length<=akA:=ame (fU (by omega));simp only[vR];simp[a,z])
  rw[akz,anP]at e;simp only[mn,x9,Ip,Iq,Ir];simp[F1,e]
def named_eq{r:a8}(hw:r.wf)(hd:r.deep<12)(hl:r.names.length<=1000):tB [enc r]=pure (.v (a' (maskOf r.names))):=by
 have a:=NQ 12 r hd hl;have b:=wo r.names λk c=>by have:=qd r hw k c;omega
 simp only[tB,Io];simp[a,b]
theorem yz(m:Nat):∀(n:Nat)(r:a8),r.deep<n->r.wf->je n [enc r,a' m]=pure (.v (.ax (r.fills (cG m))))
 |0,r,h,_=>absurd h (al2 _)|n+1,.kp k,h,hw=>by
  have a:=C8 m k;simp only[je,x6,sF,a8.fills];simp only[gP]at a ⊢;simp[o8,a]
 |n+1,.ch k ps,h,hw=>by
  simp only[a8.deep]at h;simp only[a8.wf]at hw;have dl:=pJ (ps:=ps) (n:=n) (by omega);have b:=uw.mp hw.2.2.2;rw[q6];have c:gn (aL (bo (je n) (aa (I 0) (aa (I 1) ai)))) (I 0) [.e,.v (a' m)] (ps.map enc)=pure ((ps.filter (a8.fills (cG m))).map enc):=
   n2 enc (a8.fills (cG m)) enc ps (λr aD=>by simp[yz m n r (dl r aD) (b r aD)]) λr _ _=>by simp
  have z:ps.length<akA:=fU (by omega);have e:decide (((k:Nat):Int)<=(a8.cnt (cG m) ps:Nat))=decide (k<=a8.cnt (cG m) ps):=decide_eq_decide.mpr (by omega);simp only[je,x6,Hr,a8.fills];simp only[gP m]at c ⊢;simp[F1,c,z,Cd,e]
def YF(h:m<64)(a:List Nat):wc [a' m,.l (a.map a')]=pure (.v (.ax (s7 a m))):=by
 have b:=DU h;have q:=DT h;have fa:(a.map a').all D.flat=true:=by rw[List.all_map];exact alg.mpr λ_ _=>rfl
 have c:gn fJ (ae (kO false) (ae nD (I 1) (bo lp (aa (eu (aa (I 0) ai)) ai))) (I 2)) [.e,.v (a' m),.bU (a.map a')] ((fq m).map a')=pure ((fq m).map λk=>D.ax (a.contains (m-2 ^ k))):=
  qV a' _ (fq m) fun k b=>by
   obtain⟨f,g⟩:=(Ey h).mp b;have mo:lp [.l [a' k]]=pure (.v (a' (2 ^ k))):=by
    have:=wo [k] (by intro j i;rw[akY.mp i];omega)
    rwa[NJ]at this
   have n4:=(K9 h f g).1;have p:(m:Int)-((2 ^ k:Nat):Int)=((m-2 ^ k:Nat):Int):=by
    by_cases z:2 ^ k<=m
    .omega
    .exfalso
     have all:∀m:_root_.Fin 64,∀k:_root_.Fin 6,cG m.val k.val=true->2 ^ k.val<=m.val:=by decide +kernel
     exact z (all ⟨m,h⟩ ⟨k,f⟩ g)
   have key:kO false (.v (a' (m-2 ^ k))) (.bU (a.map a'))=pure (.v (.ax (a.contains (m-2 ^ k)))):=by
    show(if(a' (m-2 ^ k)).flat=true/\(a.map a').all D.flat=true then pure (R.v (D.ax (if false=true then !inD (a' (m-2 ^ k)) (a.map a')else inD (a' (m-2 ^ k)) (a.map a'))))else bad)=_;rw[if_pos ⟨rfl,fa⟩,if_neg akD,MG]
   have d:nD (.v (a' m)) (.v (a' (2 ^ k)))=pure (.v (a' (m-2 ^ k))):=by
    show pure (R.v (D.int ((m:Int)-((2 ^ k:Nat):Int))))=_;rw[p];rfl
   simp[mo,d,key]
 have z:(fq m).length<akA:=fU (by omega);have n:((fq m).map λk=>a.contains (m-2 ^ k)).any id=(fq m).any λk=>a.contains (m-2 ^ k):=by rw[List.any_map];rfl
 have bm:=yb (λk=>a.contains (m-2 ^ k)) (fq m);unfold s7;rw[<-n];simp only[wc,HM];simp only[gP m]at c b ⊢;simp only[List.contains_eq_mem]at c bm ⊢;simp[b,c,z,bm]
def Nr{r:a8}(hw:r.wf)(hd:r.deep<12)(hl:r.names.length<=1000):wj [enc r]=pure (.fr ((least r).map a')):=by
 have c:=named_eq hw hd hl;have a:=zQ r hw;have d:=Z6 a;have k:(within (fq (maskOf r.names))).length<=64:=by
  rw[P6];have:=DT a;show _<=2 ^ 6;exact an8 (by decide) this
 have bf:gn (aL (bo (je 12) (aa (I 1) (aa (I 0) ai)))) (I 0) [.e,.v (enc r)] ((within (fq (maskOf r.names))).map a')=pure ((filling r (maskOf r.names)).map a'):=
  n2 a' (λm=>r.fills (cG m)) a' _ (λm _=>by simp[yz m 12 r hd hw]) λm _ _=>by simp
 have b:∀x∈filling r (maskOf r.names),x<64:=λx f=>((zR a).mp f).1
 have g:(filling r (maskOf r.names)).length<=64:=ald (aml _ _) k;have ae:gn (aL (bo wc (aa (I 0) (aa (I 1) ai)))) (I 0) [.e,.v (.l ((filling r (maskOf r.names)).map a'))] ((filling r (maskOf r.names)).map a')=pure ((least r).map a'):=
  n2 a' (s7 (filling r (maskOf r.names))) a' _ (λm j=>by simp[YF (b m j)]) λm _ _=>by simp
 have i:(within (fq (maskOf r.names))).length<akA:=fU (by omega);have h:(filling r (maskOf r.names)).length<akA:=fU (by omega);simp only[wj,Ia,Ib];simp[c,d,bf,i,ae,h]
end dR
namespace jt
open gf i3
def sH(a k:a8):Nat:=maskOf a.names ||| maskOf k.names
def Z4(xs:List Nat):∀ys:List Nat,maskOf (xs++ys)=maskOf xs ||| maskOf ys:=by
 intro ys;have:∀n,∀ys:List Nat,ys.length=n->maskOf (xs++ys)=maskOf xs ||| maskOf ys:=by
  intro n
  induction n with
  |zero=>intro ys h;rw[amW.mp h,alO];exact(Nat.or_zero _).symm|succ n a=>
   intro ys h;rcases List.eq_nil_or_concat ys with rfl|⟨l,k,rfl⟩
   .cases h
   .rw[List.concat_eq_append]at h ⊢
    rw[akB,aly]at h;rw[<-amI,aE.Eu,a l (by omega),aE.Eu,Nat.or_assoc]
 exact this _ _ rfl
def Lk{a k:a8}(b:a.wf)(c:k.wf):sH a k=kK λj=>(a.names++k.names).contains j:=by
 unfold sH;rw[<-Z4,zP];intro n aA;rcases alp.mp aA with h|h
 .exact qd a b n h
 .exact qd k c n h
def Ll{a k:a8}(b:a.wf)(c:k.wf):sH a k<64:=by rw[Lk b c];exact EA _
end jt
namespace dR
open PySem PySem.Spec aC aE i3 gf jt
def iq(a k:a8):D:=.t [enc a,enc k]
def Z_(b:Good a)(c:Good k):zK [iq a k]=pure (.v (a' (sH a k))):=by
 have d:=named_eq (r:=a) b.1 (by have:=b.2.1;omega) (by have:=b.2.2;omega);have e:=named_eq (r:=k) c.1 (by have:=c.2.1;omega) (by have:=c.2.2;omega);unfold iq;simp only[zK,Il];simp only[gP]at d e ⊢;simp[d,e,EX,sH]
def Yr(j:Nat)(a:List Nat):kO false (.v (a' j)) (.v (.l (a.map a')))=pure (.v (.ax (a.contains j))):=by
 have fa:(a.map a').all D.flat=true:=by rw[List.all_map];exact alg.mpr λ_ _=>rfl
 show(if(a' j).flat=true/\(a.map a').all D.flat=true then pure (R.v (D.ax (if false=true then !inD (a' j) (a.map a')else inD (a' j) (a.map a'))))else bad)=_;rw[if_pos ⟨rfl,fa⟩,if_neg akD,MG]
def Y2:∀m:Nat,m<64->fq m=(akR 6).filter (cG m):=by decide +kernel
def Y1{a k:a8}(b:a.wf)(c:k.wf):fq (sH a k)=(akR 6).filter λj=>(a.names++k.names).contains j:=by
 rw[Y2 _ (Ll b c),Lk b c];exact List.filter_congr λj d=>zU _ j (ali.mp d)
def Z'{a k:a8}(b:Good a)(c:Good k):mm [iq a k]=pure (.fr (((akR 6).filter λj=>(a.names++k.names).contains j).map a')):=by
 have m:=Z_ b c;have e:=DU (Ll b.1 c.1);rw[Y1 b.1 c.1]at e;have aU:b6 (iq a k)=.v (iq a k):=rfl;simp only[mm,Im];simp[aU,m,e]
end dR
namespace dR
open PySem PySem.Spec aC aE gf i3 jt
abbrev dW:=Int×Int
abbrev dG(s:dW):D:=.t [.int s.1,.int s.2]
structure fe where
 k:Nat
 s:dW
 w:D
abbrev dQ(g:fe):D:=.t [a' g.k,dG g.s,g.w]
def U9(ps:List fe)(h:∀p∈ps,p.k<6)(hl:ps.length<=1000):oy [.l (ps.map dQ)]=pure (.v (a' (maskOf (ps.map (·.k))))):=by
 have c:gn fJ (ae aH (I 0) (af (.int 0))) [.e] (ps.map dQ)=pure (ps.map (a'∘λp=>p.k)):=qV dQ _ ps λp _=>by simp[dQ]
 have z:ps.length<akA:=fU (by omega);have m:=wo (ps.map (·.k)) (λk b=>by obtain⟨p,a,rfl⟩:=ak5.mp b;have:=h p a;omega);rw[amq]at m;simp only[oy,Hw];simp[c,z,m]
def Lj(s t:dW):oEq (.v (dG s)) (.v (dG t))=pure (.v (.ax (decide (s=t)))):=by
 rw[pN (x:=.v (dG s)) (y:=.v (dG t)) rfl rfl]
 congr 3
 obtain⟨a,b⟩:=s;obtain⟨c,d⟩:=t;rw[ama];simp[eT,R.arg,oL]
def abt(s t:dW):dI (.v (dG s)) (.v (dG t))=pure (.v (.ax (!decide (s=t)))):=by
 rw[vc (x:=.v (dG s)) (y:=.v (dG t)) rfl rfl]
 congr 4
 obtain⟨a,b⟩:=s;obtain⟨c,d⟩:=t;rw[ama];simp[eT,R.arg,oL]
def Q_(ps:List fe)(a:fe)(hl:(a::ps).length<=1000):v5 [.l ((a::ps).map dQ)]=pure (.v (.ax ((a::ps).all λp=>decide (p.s=a.s)))):=by
 have c:gn fJ (ae oEq (ae aH (I 0) (af (.int 1))) (ae aH (ae aH (I 1) (af (.int 0))) (af (.int 1)))) [.e,.bU ((a::ps).map dQ)] ((a::ps).map dQ)=pure ((a::ps).map λp=>D.ax (decide (p.s=a.s))):=
  qV dQ _ _ λp _=>by
   have e:=Lj p.s a.s;simp[dQ,e]
 have z:(a::ps).length<akA:=fU (by omega);have b:=yb (λp:fe=>decide (p.s=a.s)) (a::ps);generalize d:a::ps=o at *;simp only[v5,Hh];simp[c,z,b]
def xY(s t:dW):Bool:=decide (t.1<s.1)||decide (s.1=t.1)&&decide (t.2<s.2)
def ZD(s t:dW):p4 [s.1,s.2] [t.1,t.2]=xY s t:=by
 unfold p4 xY;rw[Nu,Nu]
 by_cases br:s.1=t.1
 .rw[if_pos br,br]
  by_cases bS:s.2=t.2
  .rw[if_pos bS,bS]
   simp[h2]
  .rw[if_neg bS];simp
 .rw[if_neg br]
  simp[br]
def wx(b p:fe):fe:=if xY p.s b.s=true then p else b
def jA(p:fe)(ps:List fe):fe:=ps.foldl wx p
abbrev ke:bp:=fnOf 1 1 (aY (ae aH (I 0) (af (.int 1))))
def M7(p:fe):ma ke (dQ p)=some [p.s.1,p.s.2]:=by
 have e:ke [dQ p]=pure (.v (dG p.s)):=by simp[ke,dQ]
 unfold ma;rw[e];rfl
theorem Ew:∀(ps:List fe)(b:fe),kg ke (dQ b) [b.s.1,b.s.2] (ps.map dQ)=some (dQ (jA b ps))
 |[],b=>rfl|p::ps,b=>by
  rw[akO];unfold jA;rw[ao0];show(match ma ke (dQ p)with|some eL=>if p4 eL [b.s.1,b.s.2]=true then kg ke (dQ p) eL (ps.map dQ)else kg ke (dQ b) [b.s.1,b.s.2] (ps.map dQ)|none=>none)=_;rw[M7];show(if p4 [p.s.1,p.s.2] [b.s.1,b.s.2]=true then kg ke (dQ p) [p.s.1,p.s.2] (ps.map dQ)else kg ke (dQ b) [b.s.1,b.s.2] (ps.map dQ))=_;rw[ZD];unfold wx
  by_cases q:xY p.s b.s=true
  .rw[if_pos q,if_pos q];exact Ew ps p
  .rw[if_neg q,if_neg q];exact Ew ps b
def yV(op:D)(g:fe):D:=.t [dG g.s,if g.s=(0,0)then op else g.w]
def Xz(p:fe)(ps:List fe)(op:D)(c:b6 op=.v op)(hl:(p::ps).length<64):zE [.l ((p::ps).map dQ),op]=pure (.v (yV op (jA p ps))):=by
 have e:wq ke ((p::ps).map dQ)=some (dQ (jA p ps)):=by
  rw[akO];show(match ma ke (dQ p)with|some k=>kg ke (dQ p) k (ps.map dQ)|none=>none)=_;rw[M7];exact Ew ps p
 generalize jA p ps=b at *;generalize p::ps=o at *;have a:=Lj b.s (0,0);have z:(o.map dQ).length<64:=by rw[akz];exact hl
 have d:yx ke (.bU (o.map dQ))=pure (.v (dQ b)):=by
  unfold yx;show(match wq ke (o.map dQ)with|some r=>if(o.map dQ).length<64 then(pure (R.v r):M R)else bad|none=>bad)=_;rw[e];dsimp only;rw[if_pos z]
 unfold yV;simp only[zE,BR,HA,HB]
 by_cases q:b.s=(0,0)
 .rw[q]at a
  simp at a;simp[c,d,dQ,q,a]
 .simp[q]at a
  simp[c,d,dQ,q,a]
end dR
namespace dR
open PySem PySem.Spec aC aE
def hR{n N:Nat}{b:aP}{ds:List D}(h:ds.length=n)(e:b (ds.map b6++akI (N-n) .e)=pure (.cx (.v d))):fnOf n N b ds=pure (.v d):=by
 rw[yr,if_pos h,e];rfl
def oO{a b:aP}(e:a U=pure (.bu U')):bM a b U=b U':=by rw[bM,e];rfl
def Fw{a b:aP}{r:R}(e:a U=pure (.cx r)):bM a b U=pure (.cx r):=by rw[bM,e];rfl
def sZ{t:aJ->M Bool}{a b:aP}(e:t U=pure true):b8 t a b U=a U:=by rw[b8,e];rfl
def oh{t:aJ->M Bool}{a b:aP}(e:t U=pure false):b8 t a b U=b U:=by rw[b8,e];rfl
def acv{a b:aJ->M Bool}(h:a U=pure true):gb a b U=pure true:=by show(a U >>= _)=_;rw[h];rfl
def wN{a b:aJ->M Bool}(h:a U=pure false):gb a b U=b U:=by show(a U >>= _)=_;rw[h];rfl
def zY{a:aJ->M Bool}(h:a U=pure true):ep a U=pure false:=by show(a U >>= _)=_;rw[h];rfl
def iL{m:bw}(h:m U=pure (.v (.ax b))):aL m U=pure b:=by show(m U >>= _)=_;rw[h];rfl
def GO{a b:aJ->M Bool}(h:a U=pure true):gr a b U=b U:=by show(a U >>= _)=_;rw[h];rfl
def Rc{a b:aJ->M Bool}(h:a U=pure false):gr a b U=pure false:=by show(a U >>= _)=_;rw[h];rfl
def fj{f:R->R->M R}{a b:bw}{r:M R}(e:f x y=r)(au:a U=pure x)(aF:b U=pure y):ae f a b U=r:=by
 show(a U >>= _)=_;rw[au];show(b U >>= _)=_;rw[aF];exact e
def km{m:bw}{U:aJ}(e:m U=pure (.v d)):cn i m U=pure (.bu (U.set i (.v d))):=by show(m U >>= _)=_;rw[e];rfl
def jj{m:bw}(e:m U=pure (.v d)):aY m U=pure (.cx (.v d)):=by show(m U >>= _)=_;rw[e];rfl
def call_of{mf:bp}{ms:c6}{rs:List R}{r:M R}(au:ms U=pure rs)(e:mf (rs.map R.arg)=r):bo mf ms U=r:=by show(ms U >>= _)=_;rw[au];exact e
def m4{f:List R->M R}{ms:c6}{r:M R}(e:f rs=r)(au:ms U=pure rs):cJ f ms U=r:=by show(ms U >>= _)=_;rw[au];exact e
def cons_of{m:bw}{ms:c6}(e:m U=pure x)(au:ms U=pure xs):aa m ms U=pure (x::xs):=by show(m U >>= _)=_;rw[e];show(ms U >>= _)=_;rw[au];rfl
def aeI{m:bw}{U:aJ}{r:R}(e:m U=pure r)(h:r.dat=pure d):cn i m U=pure (.bu (U.set i (.v d))):=by show(m U >>= _)=_;rw[e];show(r.dat >>= _)=_;rw[h];rfl
def acX{U:aJ}:m5 i (eu ai) U=pure (.bu (U.set i (.d9 false []))):=rfl
def LA{it:fN}{U U':aJ}(au:it U=pure ds)(e:kA (λd U=>b (U.set i (.v d))) ds U=pure (.bu U')):ky i it b U=pure (.bu U'):=by
 show(it U >>= _)=_;rw[au];exact e
def r0{a b:bw}(au:a U=pure (.v x))(aF:b U=pure (.v y)):bO (aa a (aa b ai)) U=pure (.v (.t [x,y])):=by
 show(aa a (aa b ai) U >>= _)=_;rw[cons_of au (cons_of aF rfl)];rfl
def ym{it:fN}{ds xs:List D}(au:it U=pure ds)(z:ds.length<akA)(e:gn t el (hP n cap U) ds=pure xs):fl n cap it t el U=pure (.fr xs):=by
 show(it U >>= _)=_;rw[au];show(hx (ds.length<akA) >>= _)=_;unfold hx;rw[if_pos z];show(gn t el (hP n cap U) ds >>= _)=_;rw[e];rfl
def TG(e:m=pure (.v d)):(m >>= R.dat)=pure d:=by rw[e];rfl
def CO{n N:Nat}{b:aP}{ds xs:List D}(h:ds.length=n)(e:b (ds.map b6++akI (N-n) .e)=pure (.cx (.fr xs))):fnOf n N b ds=pure (.fr xs):=by
 rw[yr,if_pos h,e];rfl
def tG{a b:Int}(h:0<b):oMod (.v (.int a)) (.v (.int b))=pure (.v (.int (a % b))):=if_pos h
def CC{a b:Int}:oEq (.v (.int a)) (.v (.int b))=pure (.v (.ax (decide (a=b)))):=rfl
def YL{i:Int}{v:D}(e:dY xs i=some v):aH (.v (.l xs)) (.v (.int i))=pure (.v v):=by
 show(match dY xs i with|some d=>pure (R.v d)|none=>bad)=_;rw[e]
def YK{i:Int}{v:D}(e:dY xs i=some v):aH (.fr xs) (.v (.int i))=pure (.v v):=by
 show(match dY xs i with|some d=>pure (R.v d)|none=>bad)=_;rw[e]
def Nz{ms:c6}{ds:List D}(e:ms U=pure rs)(h:m8 rs=pure ds)(z:ds.length<=1000):eu ms U=pure (.fr ds):=by
 show(ms U >>= _)=_;rw[e];show(m8 rs >>= _)=_;rw[h];show(hx (ds.length<=1000) >>= _)=_;unfold hx;rw[if_pos z];rfl
def aaf{a b:Int}(h:iB a b):nC (.v (.int a)) (.v (.int b))=pure (.v (.int (a*b))):=if_pos h
def aB{α:Type}(S:bH)(m:M α)(a:α):Prop:=m.run S=.ok a S
def bC{α:Type}(S:bH)(m:N α)(a:α)(b:bH):Prop:=m.run S=.ok a b
section
variable{α β:Type}{S S1 a5:bH}{U U':aJ}
def aB.of(h:m=pure a):aB S m a:=by rw[h];rfl
theorem aB.bind{f:α->M β}(h:aB S m a)(d:aB S (f a) b):aB S (m >>= f) b:=by
 show(match m.run S with|.ok a S1=>(f a).run S1|.exc c S1=>.exc c S1|.bad=>.bad)=_;rw[show m.run S=.ok a S from h];exact d
def bC.bind{f:α->N β}(h:bC S m a S1)(d:bC S1 (f a) b a5):bC S (m >>= f) b a5:=by
 show(match m.run S with|.ok a S1=>(f a).run S1|.exc c S1=>.exc c S1|.bad=>.bad)=_;rw[show m.run S=.ok a S1 from h];exact d
def aB.to{m:M α}(h:aB S m a):bC S m.up a S:=h
def MX{p:Prop}[Decidable p](h:p):aB S (hx p) ():=.of (if_pos h)
def cz{f:R->R->M R}{a b:bw}{x y r:R}(e:f x y=pure r)(c:aB S (a U) x)(d:aB S (b U) y):aB S (ae f a b U) r:=c.bind (d.bind (.of e))
def cK:aB S (ai U) []:=.of rfl
def bJ{m:bw}{ms:c6}(h:aB S (m U) x)(a:aB S (ms U) xs):aB S (aa m ms U) (x::xs):=h.bind (a.bind (.of rfl))
def fy{mf:bp}{ms:c6}{rs:List R}{r:R}(h:aB S (ms U) rs)(e:aB S (mf (rs.map R.arg)) r):aB S (bo mf ms U) r:=h.bind e
def rt{f:List R->M R}{ms:c6}{r:R}(e:f rs=pure r)(h:aB S (ms U) rs):aB S (cJ f ms U) r:=h.bind (.of e)
def l'{ms:c6}{ds:List D}(h:aB S (ms U) rs)(e:m8 rs=pure ds)(z:ds.length<=1000):aB S (bO ms U) (.v (.t ds)):=h.bind ((aB.of e).bind ((MX z).bind (.of rfl)))
def cF{m:bw}(h:aB S (m U) (.v (.ax b))):aB S (aL m U) b:=h.bind (.of rfl)
def DR{a b:aJ->M Bool}(h:aB S (a U) true):aB S (gb a b U) true:=h.bind (.of rfl)
def nv{a b:aJ->M Bool}(h:aB S (a U) false)(c:aB S (b U) x):aB S (gb a b U) x:=h.bind c
def hZ{a b:aJ->M Bool}(h:aB S (a U) true)(c:aB S (b U) x):aB S (gr a b U) x:=h.bind c
def ll{a b:aJ->M Bool}(h:aB S (a U) false):aB S (gr a b U) false:=h.bind (.of rfl)
def jO{a:aJ->M Bool}(h:aB S (a U) x):aB S (ep a U) (!x):=h.bind (.of rfl)
def DQ{it:fN}{ds xs:List D}(h:aB S (it U) ds)(z:ds.length<akA)(e:aB S (gn t el (hP n cap U) ds) xs):aB S (fl n cap it t el U) (.fr xs):=h.bind ((MX z).bind (e.bind (.of rfl)))
theorem ze{α:Type}{el:bw}(g:α->D)(f:α->D):∀as:List α,(∀a∈as,aB S (el (U.set 0 (.v (g a)))) (.v (f a)))->aB S (gn fJ el U (as.map g)) (as.map f)
 |[],_=>.of rfl|a::as,h=>(aB.of (S:=S) (m:=(pure true:M Bool)) rfl).bind ((h a (akS ..)).bind ((aB.of (m:=R.dat (.v (f a))) rfl).bind ((ze g f as λx b=>h x (akL _ b)).bind (.of rfl))))
def MY{m:bw}{r:R}(h:aB S (m U) r)(e:r.ft=some ds):aB S (nq m U) ds:=h.bind (by rw[e];exact .of rfl)
def h1{m:bw}{r:R}(h:aB S (m U) r)(e:r.dat=pure d):aB S (cn i m U) (.bu (U.set i (.v d))):=h.bind ((aB.of e).bind (.of rfl))
def iU{m:bw}(h:aB S (m U) (.v d)):aB S (aY m U) (.cx (.v d)):=h.bind (.of rfl)
def zf{m:bw}(h:aB S (m U) (.fr xs)):aB S (aY m U) (.cx (.fr xs)):=h.bind (.of rfl)
def pZ{t:aJ->M Bool}{a b:aP}(h:aB S (t U) true)(c:aB S (a U) o):aB S (b8 t a b U) o:=h.bind c
def l_{t:aJ->M Bool}{a b:aP}(h:aB S (t U) false)(c:aB S (b U) o):aB S (b8 t a b U) o:=h.bind c
def zg{a b:aP}(h:aB S (a U) (.bu U'))(c:aB S (b U') o):aB S (bM a b U) o:=h.bind c
def zh{a b:aP}{r:R}(h:aB S (a U) (.cx r)):aB S (bM a b U) (.cx r):=h.bind (.of rfl)
def kd{n N:Nat}{b:aP}{ds:List D}(h:ds.length=n)(e:aB S (b (ds.map b6++akI (N-n) .e)) (.cx (.v d))):aB S (fnOf n N b ds) (.v d):=by
 rw[yr,if_pos h];exact e.bind (.of rfl)
def om(h:S[i]? = some o):aB S (hG (.v (.ref i))) o:=(show aB S LM S from rfl).bind (by rw[h];exact .of rfl)
def jN{m:bw}(h:S[i]? = some (.l xs))(a:aB S (m U) (.v (.ref i))):aB S (e9 m U) (.mv xs):=a.bind ((om h).bind (.of rfl))
def iv{mf:bp}{mo:bw}{ms:c6}{aW:List (Str×D)}{rs:List R}{r:R}(h:S[i]? = some (.bb c aW))(a:aB S (mo U) (.v (.ref i)))(aA:aW.lookup m=none)(b:aB S (ms U) rs)(e:aB S (mf (.ref i::rs.map R.arg)) r):aB S (c0 c m mf mo ms U) r:=a.bind ((om h).bind (by show aB S (if c=c/\aW.lookup m=none then _ else _) _;rw[if_pos ⟨rfl,aA⟩];exact b.bind e))
def MW{m:bw}{aW:List (Str×D)}(h:S[i]? = some (.bb c aW))(a:aB S (m U) (.v (.ref i)))(e:aW.lookup f=some d):aB S (bf (bY c f) m U) (.v d):=a.bind ((om h).bind (by show aB S (if c=c then _ else _) _;rw[if_pos rfl,e];exact .of rfl))
def dd{a b:b2}(h:bC S (a U) (.bu U') S1)(c:bC S1 (b U') o a5):bC S (bE a b U) o a5:=h.bind c
def xt{a b:b2}{r:R}(h:bC S (a U) (.cx r) S1):bC S (bE a b U) (.cx r) S1:=h.bind rfl
def mE{t:aJ->N Bool}{a b:b2}(h:bC S (t U) true S1)(c:bC S1 (a U) o a5):bC S (e2 t a b U) o a5:=h.bind c
def mD{t:aJ->N Bool}{a b:b2}(h:bC S (t U) false S1)(c:bC S1 (b U) o a5):bC S (e2 t a b U) o a5:=h.bind c
def Ga{t:aJ->N Bool}{a b:b2}(h:bC S (t U) false S1)(c:bC S1 (b U) o a5):bC S (bE (e2 t a (b9 bQ)) b U) o a5:=dd (mD h rfl) c
def Gb{t:aJ->M Bool}{b:b2}(h:aB S (t U) false)(c:bC S (b U) o a5):bC S (bE (b9 (b8 t a bQ)) b U) o a5:=dd (l_ h (.of rfl)).to c
def F'{m:d1}(h:bC S (m U) (.v d) S1):bC S (iA m U) (.cx (.v d)) S1:=h.bind rfl
def xr{m:d1}(h:bC S (m U) (.fr xs) S1):bC S (iA m U) (.cx (.fr xs)) S1:=h.bind rfl
def xq{m:d1}{r:R}(h:bC S (m U) r S1):bC S (iz m U) (.bu U) S1:=h.bind rfl
def xu{m:d1}{r:R}(h:bC S (m U) r S1)(e:r.dat=pure d):bC S (qy i m U) (.bu (U.set i (.v d))) S1:=h.bind ((aB.of e).to.bind rfl)
def x_call{mf:dX}{ms:c6}{rs:List R}{r:R}(h:aB S (ms U) rs)(ay:rs.all R.iW=true)(e:bC S (mf (rs.map R.arg)) r S1):bC S (o9 mf (ez ms) U) r S1:=(aB.to h).bind (by rw[if_pos ay];exact e)
def lE{mf:dX}{mo:bw}{ms:j4}{aW:List (Str×D)}{rs:List R}{r:R}(h:S[i]? = some (.bb c aW))(a:aB S (mo U) (.v (.ref i)))(aA:aW.lookup m=none)(b:bC S (ms U) rs S)(ay:rs.all R.iW=true)(e:bC S (mf (.ref i::rs.map R.arg)) r S1):bC S (d5 c m mf mo ms U) r S1:=a.to.bind ((om h).to.bind (by show bC S (if c=c/\aW.lookup m=none then _ else _) _ _;rw[if_pos ⟨rfl,aA⟩];exact b.bind (by rw[if_pos ay];exact e)))
def Qc{mf:dX}{ms:c6}{rs:List R}(h:aB S (ms U) rs)(ay:rs.all R.iW=true)(e:bC (S++[.bb c []]) (mf (.ref S.length::rs.map R.arg)) (.v .aI) S1):bC S (o_ c mf (ez ms) U) (.v (.ref S.length)) S1:=(aB.to h).bind (by
 rw[if_pos ay];exact bC.bind (m:=yJ) (a:=S) (S1:=S) rfl (bC.bind (m:=putN _) (a:=()) (S1:=S++[fZ.bb c []]) rfl (bC.bind e rfl)))
def r7{n N:Nat}{b:b2}{ds:List D}(h:ds.length=n)(e:bC S (b (ds.map b6++akI (N-n) .e)) (.cx (.v d)) S1):bC S (fnX n N b ds) (.v d) S1:=by
 unfold fnX;rw[if_pos h];exact e.bind rfl
def uz{n N:Nat}{b:b2}{ds xs:List D}(h:ds.length=n)(e:bC S (b (ds.map b6++akI (N-n) .e)) (.cx (.fr xs)) S1):bC S (fnX n N b ds) (.fr xs) S1:=by
 unfold fnX;rw[if_pos h];exact e.bind rfl
def F7{n N:Nat}{b:b2}{ds:List D}(h:ds.length=n)(e:bC S (b (ds.map b6++akI (N-n) .e)) (.bu U') S1):bC S (fnX n N b ds) (.v .aI) S1:=by
 unfold fnX;rw[if_pos h];exact e.bind rfl
def x_at{mo:bw}{mv:d1}{aW:List (Str×D)}{r:R}(b:bC S (mv U) r S1)(e:r.dat=pure d)(a:aB S1 (mo U) (.v (.ref i)))(h:S1[i]? = some (.bb c aW))(hl:aW.length<1000):bC S (dP c f mo mv U) (.bu U) (S1.set i (.bb c (h5 f d aW))):=b.bind ((aB.of e).to.bind (a.to.bind ((om h).to.bind (by
 show bC S1 (if c=c/\aW.length<1000 then _ else _) _ _;rw[if_pos ⟨rfl,hl⟩];rfl))))
def xp{mo:bw}{ms:c6}{xs:List D}(b:aB S (mo U) (.v (.ref i)))(c:aB S (ms U) [.v d])(h:S[i]? = some (.l xs))(z:xs.length<akA):bC S (kX jo mo ms U) (.bu U) (S.set i (.l (xs++[d]))):=b.to.bind (c.to.bind ((om h).to.bind ((aB.to (a:=(R.v .aI,xs++[d])) (.of (by show(hx (xs.length<akA) >>= _)=_;rw[I8 z];rfl))).bind rfl)))
def F9:bC S (jU (dr (eu ai)) U) (.v (.ref S.length)) (S++[.l []]):=rfl
def Qa{it:fN}(h:aB S (it U) ds)(e:bC S (nO (λd U=>b (U.set i (.v d))) ds U) o S1):bC S (xn i it b U) o S1:=(aB.to h).bind e
def ag6{b:D->b2}(h:bC S (b d U) (.bu U') S1)(a:bC S1 (nO b ds U') o a5):bC S (nO b (d::ds) U) o a5:=h.bind a
def Qd{a:aJ->N Bool}(h:bC S (a U) x S1):bC S (uA a U) (!x) S1:=h.bind rfl
def P_{m:d1}(h:bC S (m U) (.v (.ax b)) S1):bC S (uB m U) b S1:=h.bind rfl
def Fr(W:List Nat)(S a:bH):Prop:=∀j o,j∉W->S[j]? = some o->a[j]? = some o
def Fr.set(h:i∈W):Fr W S (S.set i o):=λj b a e=>by
 rw[akF (λq:i=j=>a (q▸h))];exact e
def Fr.app:Fr W S (S++l):=λj o _ e=>by
 rw[akV (akw.mp e).1];exact e
def Fr.refl:Fr W S S:=λ_ _ _ e=>e
def Fr.trans(h:Fr W S S1)(b:Fr W S1 a5):Fr W S a5:=λj o a e=>b j o a (h j o a e)
def get_set(h:S[i]? = some o):(S.set i C)[i]? = some C:=by
 rw[akU (akw.mp h).1]
def yK:(S++[o])[S.length]? = some o:=by rw[akX (akE _),amR];rfl
end
end dR
namespace dR
open PySem PySem.Spec aC aE i3 gf jt
section
variable{t:aJ->M Bool}{a b:aP}{U U':aJ}{r:R}
def gi{p:Prop}[Decidable p](h:p):(pure (decide p):M Bool)=pure true:=by rw[decide_eq_true h]
def ik{p:Prop}[Decidable p](h:¬p):(pure (decide p):M Bool)=pure false:=by rw[decide_eq_false h]
def fC(e:t U=pure false)(h:b U=q):bM (b8 t a bQ) b U=q:=(oO (oh e)).trans h
def st(e:t U=pure true)(h:a U=pure (.cx r)):bM (b8 t a bQ) b U=pure (.cx r):=Fw ((sZ e).trans h)
def cR(e:a U=pure (.bu U'))(h:b U'=q):bM a b U=q:=(oO e).trans h
def sI{α c:Type}{P:α->Prop}{A B:c}{f:α->c}(e:A=B)(h:∃x,B=f x/\P x):∃x,A=f x/\P x:=e▸h
def and_1{x y:bw}(e:x U=pure (.v (.ax true))):j6 x y U=y U:=by show(x U >>= _)=_;rw[e];rfl
def vS{l:List Nat}(h:l.length<=1000):nc [.v (.str (bg l))]=pure (.v (.int (l.length:Nat))):=by
 show(if(bg l).length<=akA then pure (R.v (.int ((bg l).length:Nat)))else bad)=_;rw[if_pos (by rw[oY,ak2];omega),oY]
def yj{x y:List Nat}(h:x.length+y.length<=1000):oG (.v (.str (bg x))) (.v (.str (bg y)))=pure (.v (.str (bg (x++y)))):=by
 show(if(bg x).length+(bg y).length<=akA then pure (R.v (.str (bg x++bg y)))else bad)=_;rw[if_pos (by rw[oY,oY,ak2];omega),af3]
def aek{m:bw}(e:m U=pure (.fr xs)):aY m U=pure (.cx (.fr xs)):=by show(m U >>= _)=_;rw[e];rfl
end
structure bD where
 me:Int
 cp:Int
 h:D
 op:D
 bR:Bool
 dh:Int
 st:dW
 wi:Int
 dD:D
 bz:Str
 cw:D
 b0:List fe
 nx:Nat
 dC:D
def bD.aW(a:bD)(g:Nat):List (Str×D):=[("me",.int a.me),("epoch",.int a.cp),("hall",a.h),("opening",a.op),("over_known",.ax a.bR),("greatest_round",.int a.dh),("last_stamp",dG a.st),("wishes",.int a.wi),("deed",a.dD),("standing",.str a.bz),("last_outcome",a.cw),("grants",.ref g),("kept_mask",a' a.nx),("told_slate",a.dC)]
def kx(me cp:Int)(s:dW)(k:Nat):D:=.t [.str "ask",.int me,a' k,.int cp,dG s,.t []]
def qn(me cp:Int)(s:dW)(l:D)(k:Nat):D:=.t [.str "tell",.int me,a' k,.int cp,dG s,l]
def B1:D:=.t [.t [],.t [],.t [.int 0,.aI],.aI]
def tM(me:Int)(h:D):bD:=⟨me,0,h,B1,false,0,(0,0),0,.aI,"calm",.aI,[],0,.aI⟩
structure dw(S:bH)(i g:Nat)(a:bD):Prop where
 bb:S[i]? = some (.bb "Asker" (a.aW g))
 ls:S[g]? = some (.l (a.b0.map dQ))
structure ei(S ao:bH)(i g g':Nat)(b:bD):Prop where
 at':dw ao i g' b
 fr:Fr [i,g] S ao
 nw:g'=g\/S.length<=g'
 len:S.length<=ao.length
def dV(S:bH)(i g:Nat)(m:N fY)(b:fY)(c:bD):Prop:=∃a g',bC S m b a/\ei S a i g g' c
def bD.Do(a:bD)(mf:dX)(ds ys:List D)(b:bD):Prop:=∀(S:bH)(i g:Nat),dw S i g a->∃c g',bC S (mf (.ref i::ds)) (.fr ys) c/\ei S c i g g' b
section
variable{S S1 a5:bH}{U U':aJ}{i g g1 g2 k:Nat}{a b c:bD}{f:Str}{d:D}{mv:bw}{r:R}{bd:b2}{aQ:fY}
def jd(h:S[i]? = some o):i<S.length:=(akw.mp h).1
def dw.ne(h:dw S i g a):i≠g:=λe=>by have:=h.bb;rw[e,h.ls]at this;cases this
def ei.refl(h:dw S i g a):ei S S i g g a:=⟨h,.refl,.inl rfl,akE _⟩
def ei.trans(h:ei S S1 i g g1 b)(m:ei S1 a5 i g1 g2 c):ei S a5 i g g2 c:=by
 refine⟨m.at',λj o l e=>m.fr j o ?_ (h.fr j o l e),?_,ald h.len m.len⟩
 .have:=jd e
  simp only[akP,alo,or_false,not_or]at l ⊢;rcases h.nw with q|q
  .rw[q];exact l
  .exact⟨l.1,by omega⟩
 .rcases m.nw with q|q
  .rw[q];exact h.nw
  .exact .inr (ald h.len q)
def c7(h:dw S i g a)(j:I k U=pure (.v (.ref i)))(e:(a.aW g).lookup f=some d):aB S (bf (bY "Asker" f) (I k) U) (.v d):=MW h.bb (.of j) e
def DZ:(a.aW g).length<1000:=by show 14<1000;omega
theorem iQ(h:dw S i g a)(b:bD)(l:I k U=pure (.v (.ref i)))(m:aB S (mv U) r)(p:r.dat=pure d)(e:h5 f d (a.aW g)=b.aW g)(n:b.b0=a.b0)(q:∀S1,dw S1 i g b->dV S1 i g (bd U) aQ c):dV S i g (bE (dP "Asker" f (I k) (dr mv)) bd U) aQ c:=by
 have j:dw (S.set i (.bb "Asker" (h5 f d (a.aW g)))) i g b:=⟨by rw[get_set h.bb,e],by rw[akF h.ne,n];exact h.ls⟩;obtain⟨a5,g2,t,s⟩:=q _ j;exact⟨a5,g2,dd (x_at m.to p (.of l) h.bb DZ) t,ei.trans ⟨j,.set (by simp),.inl rfl,by rw[ak8];exact akE _⟩ s⟩
theorem U2(h:dw S i g a)(b:bD)(p:I k U=pure (.v (.ref i)))(e:∀n,h5 ("grants":Str) (D.ref n) (a.aW g)=b.aW n)(u:b.b0=[])(q:∀S1 g1,dw S1 i g1 b->dV S1 i g1 (bd U) aQ c):dV S i g (bE (dP "Asker" "grants" (I k) (jU (dr (eu ai)))) bd U) aQ c:=by
 have m:(S++[fZ.l []])[i]? = some (.bb "Asker" (a.aW g)):=Fr.app (W:=[]) _ _ (alo) h.bb;have j:dw ((S++[fZ.l []]).set i (.bb "Asker" (h5 ("grants":Str) (D.ref S.length) (a.aW g)))) i S.length b:=⟨by rw[get_set m,e],by rw[akF (alc (jd h.bb)),yK,u];rfl⟩;obtain⟨a5,g2,t,s⟩:=q _ _ j;exact⟨a5,g2,dd (x_at F9 rfl (.of p) m DZ) t,ei.trans ⟨j,Fr.app.trans (.set (by simp)),.inr (akE _),by rw[ak8,akB];omega⟩ s⟩
theorem LR{ms:c6}(h:dw S i g a)(b:bD)(m:I k U=pure (.v (.ref i)))(n:aB S (ms U) [.v (dQ x)])(e:b.aW g=a.aW g)(p:b.b0=a.b0++[x])(z:a.b0.length<1000)(q:∀S1,dw S1 i g b->dV S1 i g (bd U) aQ c):dV S i g (bE (kX jo (bf (bY "Asker" "grants") (I k)) ms) bd U) aQ c:=by
 have j:dw (S.set g (.l (a.b0.map dQ++[dQ x]))) i g b:=⟨by rw[akF h.ne.symm,e];exact h.bb,by rw[get_set h.ls,p,al1];rfl⟩;obtain⟨a5,g2,t,s⟩:=q _ j;exact⟨a5,g2,dd (xp (c7 h m rfl) n h.ls (by rw[akz];exact fU (by omega))) t,ei.trans ⟨j,.set (by simp),.inl rfl,by rw[ak8];exact akE _⟩ s⟩
def Bp(h:dw S i g a)(e:I k U=pure (.v (.ref i))):aB S (e9 (bf (bY "Asker" "grants") (I k)) U) (.mv (a.b0.map dQ)):=jN h.ls (c7 h e rfl)
def ng{m:aP}(h:dw S i g a)(e:aB S (m U) aQ):dV S i g (b9 m U) aQ a:=⟨S,g,e,.refl h⟩
theorem hA{t:aJ->M Bool}(e:aB S (t U) false)(q:dV S i g (bd U) aQ c):dV S i g (bE (b9 (b8 t m bQ)) bd U) aQ c:=by
 obtain⟨a5,g2,t,s⟩:=q;exact⟨a5,g2,Gb e t,s⟩
theorem k'{t:aJ->M Bool}(e:aB S (t U) false)(q:dV S i g (bd U) aQ c):dV S i g (bE (e2 (fM t) m (b9 bQ)) bd U) aQ c:=by
 obtain⟨a5,g2,t,s⟩:=q;exact⟨a5,g2,Ga e t,s⟩
def rf{t:aJ->M Bool}{m:aP}{r:R}(h:dw S i g a)(e:aB S (t U) true)(aF:aB S (m U) (.cx r)):dV S i g (bE (b9 (b8 t m bQ)) bd U) (.cx r) a:=⟨S,g,xt (pZ e aF).to,.refl h⟩
theorem vk{t:aJ->M Bool}{m:b2}{r:R}(e:aB S (t U) true)(q:dV S i g (m U) (.cx r) c):dV S i g (bE (e2 (fM t) m (b9 bQ)) bd U) (.cx r) c:=by
 obtain⟨a5,g2,t,s⟩:=q;exact⟨a5,g2,xt (mE e t),s⟩
theorem yM{m:aP}(e:aB S (m U) (.bu U'))(q:dV S i g (bd U') aQ c):dV S i g (bE (b9 m) bd U) aQ c:=by
 obtain⟨a5,g2,t,s⟩:=q;exact⟨a5,g2,dd (aB.to e) t,s⟩
theorem rd{ms:j4}{rs:List R}(h:dw S i g a)(q:a.Do mf (rs.map R.arg) ys c)(j:I k U=pure (.v (.ref i)))(aA:(a.aW g).lookup m=none)(e:bC S (ms U) rs S)(ay:rs.all R.iW=true):dV S i g (iA (d5 "Asker" m mf (I k) ms) U) (.cx (.fr ys)) c:=by
 obtain⟨a5,g2,t,s⟩:=q _ _ _ h;exact⟨a5,g2,xr (lE h.bb (.of j) aA e ay t),s⟩
theorem g8{n N:Nat}{bd:b2}{ds ys:List D}(h:ds.length+1=n)(q:∀S i g,dw S i g a->dV S i g (bd (.v (.ref i)::ds.map b6++akI (N-n) .e)) (.cx (.fr ys)) c):a.Do (fnX n N bd) ds ys c:=λS i g cX=>by
 obtain⟨a5,g2,t,s⟩:=q S i g cX;exact⟨a5,g2,uz h t,s⟩
end
def bD.asks(a:bD):bD:={ a with dh:=a.dh+1,st:=(a.dh+1,a.me),bz:="asking",b0:=[] }
def Bv{a:bD}{ms:List Nat}(b:mm [a.h]=pure (.fr (ms.map a')))(hl:ms.length<=6) :
  a.Do vW [] (ms.map (kx a.me a.cp (a.dh+1,a.me))) a.asks:=g8 rfl λS i g h=>
 iQ h { a with dh:=a.dh+1 } rfl (cz rfl (c7 h rfl rfl) (.of rfl)) rfl rfl rfl λS h=>
 iQ h { a with dh:=a.dh+1,st:=(a.dh+1,a.me) } rfl (l' (bJ (c7 h rfl rfl) (bJ (c7 h rfl rfl) cK)) rfl (ale rfl)) rfl rfl rfl λS h=>
 iQ h { a with dh:=a.dh+1,st:=(a.dh+1,a.me),bz:="asking" } rfl (.of rfl) rfl rfl rfl λS h=>
 U2 h a.asks rfl (λ_=>rfl) rfl λS g h=>
 ng h (zf (DQ (MY (fy (bJ (c7 h rfl rfl) cK) (.of b)) rfl) (by rw[akz];exact fU (by omega))
  (ze a' (kx a.me a.cp (a.dh+1,a.me)) ms λk _=>fy (bJ (c7 h rfl rfl) (bJ (.of rfl) (bJ (c7 h rfl rfl) (bJ (c7 h rfl rfl) cK)))) (.of rfl))))
def P'{S:bH}{mv:bw}{aW:List (Str×D)}{a:b2}(h:S[i]? = some (.bb c aW))(e:mv U=pure (.v d))(b:I 0 U=pure (.v (.ref i)))(hl:aW.length<1000)(q:bC (S.set i (.bb c (h5 f d aW))) (a U) C o):bC S (bE (dP c f (I 0) (dr mv)) a U) C o:=dd (x_at (aB.of e).to rfl (.of b) h hl) q
def md{n:Nat}(h:n.ble 999=true):n<1000:=Nat.lt_succ_of_le (ale h)
def Yu(S:bH)(me:Int)(h:D)(cX:b6 h=.v h):∃b,bC (S++[.bb "Asker" []]) (th [.ref S.length,.int me,h]) (.v .aI) b/\dw b S.length (S.length+1) (tM me h)/\b.length=S.length+2/\Fr [] S b:=by
 have ne:S.length+1≠S.length:=by omega
 have c:∀{o a:fZ},(S++[o])++[a]=S++[o,a]:=λ{o a}=>by rw[amI];rfl
 have st:∀{o a:fZ}{l:bH},(S++o::l).set S.length a=S++a::l:=λ{o a l}=>by rw[List.set_append_right _ _ (akE _),amR];rfl
 have gt:∀{o:fZ}{l:bH},(S++o::l)[S.length]? = some o:=λ{o l}=>by rw[akX (akE _),amR];rfl
 refine⟨S++[.bb "Asker" ((tM me h).aW (S.length+1)),.l []],F7 (U':=[.v (.ref S.length),.v (.int me),.v h]) rfl ?_,⟨gt,?_⟩,by rw[akB];rfl,.app⟩
 .show bC _ (G5 [.v (.ref S.length),.v (.int me),b6 h]) _ _
  rw[cX]
  repeat' (refine P' gt (by rfl) rfl (md rfl) ?_;rw[st])
  refine dd (x_at F9 rfl (.of rfl) (by rw[c];exact gt) (md rfl)) ?_;rw[c,st,akB];refine P' gt (by rfl) rfl (md rfl) ?_;rw[st];have:=x_at (S:=S++[fZ.bb "Asker" [("me",D.int me),("epoch",.int 0),("hall",h),("opening",B1),("over_known",.ax false),("greatest_round",.int 0),("last_stamp",dG (0,0)),("wishes",.int 0),("deed",.aI),("standing",.str "calm"),("last_outcome",.aI),("grants",.ref (S.length+1)),("kept_mask",a' 0)],.l []]) (f:="told_slate") (mv:=dr (af .aI)) (U:=[.v (.ref S.length),.v (.int me),.v h]) (mo:=I 0) (i:=S.length) (d:=.aI) (r:=.v .aI) rfl rfl (.of rfl) gt (md rfl);rw[st]at this;exact this
 .rw[akX (by omega),Nat.add_sub_cancel_left];rfl
def jm(b:akW x=true)(a:akW y=true):oEq (.v (.str x)) (.v (.str y))=pure (.v (.ax (x==y))):=pN (x:=.v (.str x)) (y:=.v (.str y)) b a
def ae2(b:akW x=true)(a:akW y=true):dI (.v (.str x)) (.v (.str y))=pure (.v (.ax (!(x==y)))):=vc (x:=.v (.str x)) (y:=.v (.str y)) b a
def N_:akW "calm"=true:=by decide +kernel
def N9:akW "asking"=true:=by decide +kernel
def Oa:akW "telling"=true:=by decide +kernel
def wM:akW "late"=true:=by decide +kernel
def bD.j3(a:bD):Prop:=a.bz="calm"\/a.bz="asking"\/a.bz="telling"
def uc{a:bD}(h:a.j3):akW a.bz=true:=by rcases h with h|h|h<;>rw[h]<;>decide +kernel
def calm_eq{a:bD}(h:a.j3):oEq (.v (.str a.bz)) (.v (.str "calm"))=pure (.v (.ax (a.bz == "calm"))):=jm (uc h) N_
def sy{a:bD}(h:a.j3):dI (.v (.str a.bz)) (.v (.str "calm"))=pure (.v (.ax (!(a.bz == "calm")))):=ae2 (uc h) N_
structure nP(h:D)(ms:List Nat)(fa fk:Nat->Bool):Prop where
 mem:mm [h]=pure (.fr (ms.map a'))
 len:ms.length<=6
 lt:∀k∈ms,k<6
 ne:ms≠[]
 ex:∃x y,h=.t [x,y]/\b6 x=.v x/\b6 y=.v y/\(∀m:Nat,je 12 [x,a' m]=pure (.v (.ax (fa m))))/\∀m:Nat,je 12 [y,a' m]=pure (.v (.ax (fk m)))
def bD.tells(a:bD)(t:D):bD:={ a with bz:="telling",nx:=0,dC:=t }
def bD.ends(a:bD)(o:D):bD:={ a with bz:="calm",cw:=o }
def bD.uI(a:bD)(mf:dX)(ds:List D)(b:bD):Prop:=∀(S:bH)(i g:Nat),dw S i g a->∃c g',bC S (mf (.ref i::ds)) (.v .aI) c/\ei S c i g g' b
section
variable{S S1 a5:bH}{U U':aJ}{i g k:Nat}{a b c:bD}{f:Str}{d:D}{mv:bw}{r:R}{bd:b2}{aQ:fY}
def adZ(h:dw S i g a)(b:bD)(j:I k U=pure (.v (.ref i)))(l:aB S (mv U) r)(n:r.dat=pure d)(e:h5 f d (a.aW g)=b.aW g)(m:b.b0=a.b0):dV S i g (dP "Asker" f (I k) (dr mv) U) (.bu U) b:=
 ⟨_,g,x_at l.to n (.of j) h.bb DZ,⟨by rw[get_set h.bb,e],by rw[akF h.ne,m];exact h.ls⟩,.set (by simp),.inl rfl,by rw[ak8];exact akE _⟩
theorem sQ{t:aJ->M Bool}{m n:b2}(e:aB S (t U) true)(q:dV S i g (m U) aQ c):dV S i g (e2 (fM t) m n U) aQ c:=by
 obtain⟨a5,h,t,s⟩:=q;exact⟨a5,h,mE (aB.to e) t,s⟩
theorem pS{t:aJ->M Bool}{m n:b2}(e:aB S (t U) false)(q:dV S i g (n U) aQ c):dV S i g (e2 (fM t) m n U) aQ c:=by
 obtain⟨a5,h,t,s⟩:=q;exact⟨a5,h,mD (aB.to e) t,s⟩
theorem sC{ms:j4}{rs:List R}(h:dw S i g a)(q:a.uI mf (rs.map R.arg) c)(j:I k U=pure (.v (.ref i)))(aA:(a.aW g).lookup m=none)(e:bC S (ms U) rs S)(ay:rs.all R.iW=true):dV S i g (iz (d5 "Asker" m mf (I k) ms) U) (.bu U) c:=by
 obtain⟨a5,l,t,s⟩:=q _ _ _ h;exact⟨a5,l,xq (lE h.bb (.of j) aA e ay t),s⟩
theorem C2{m:b2}(q:dV S i g (m U) (.bu U') b)(p:∀S1 e,dw S1 i e b->dV S1 i e (bd U') aQ c):dV S i g (bE m bd U) aQ c:=by
 obtain⟨S1,e,n,h⟩:=q;obtain⟨a5,l,j,s2⟩:=p S1 e h.at';exact⟨a5,l,dd n j,h.trans s2⟩
theorem Cv{n N:Nat}{bd:b2}{ds:List D}(h:ds.length+1=n)(q:∀S i g,dw S i g a->∃U',dV S i g (bd (.v (.ref i)::ds.map b6++akI (N-n) .e)) (.bu U') c):a.uI (fnX n N bd) ds c:=λS i g cX=>by
 obtain⟨U',a5,j,t,s⟩:=q S i g cX;exact⟨a5,j,F7 h t,s⟩
end
def yv{a:bD}(b:b6 o=.v o):a.uI p6 [o] (a.ends o):=Cv rfl λS i g h=>by
 show ∃U',dV S i g (G9 [.v (.ref i),b6 o]) (.bu U') _;rw[b];exact⟨_,iQ h { a with bz:="calm" } rfl (.of rfl) rfl rfl rfl λS h=>adZ h (a.ends o) rfl (.of rfl) rfl rfl rfl⟩
def eS:D->Bool
 |.aI=>true|_=>false
def wF(d:D):hF (.v d) (.v .aI)=pure (.v (.ax (!eS d))):=by cases d<;>rfl
def s9(d:D):h4 (.v d) (.v .aI)=pure (.v (.ax (eS d))):=by cases d<;>rfl
def jE(k:Nat)(a e:Int)(s kp:dW)(w:D):D:=.t [.str "grant",a' k,.int a,.int e,dG s,.t [dG kp,w]]
def g0(k:Nat)(a e:Int)(s:dW):D:=.t [.str "kept",a' k,.int a,.int e,dG s,.t []]
def td(k:Nat)(a e:Int)(s p:dW):D:=.t [.str "late",a' k,.int a,.int e,dG s,.t [dG p]]
def bD.got(a:bD)(k:Nat)(kp:dW)(w:D):bD:={ a with b0:=a.b0++[⟨k,kp,w⟩] }
section
variable{a:bD}{ms:List Nat}{fa fk:Nat->Bool}(H:nP a.h ms fa fk){k:Nat}{me e:Int}{s kp:dW}{w:D}(aR:∀g∈a.b0,g.k<6)(hl:a.b0.length<60)(av:k<6)
def C3{a:bD}{S:bH}{i g:Nat}(h:dw S i g a)(aR:∀g∈a.b0,g.k<6)(hl:a.b0.length<=1000)(U:aJ):aB S (bo oy (aa (e9 (bf (bY "Asker" "grants") (I 0))) ai) (.v (.ref i)::U)) (.v (a' (maskOf (a.b0.map (·.k))))):=
 fy (bJ (Bp h rfl) cK) (.of (U9 a.b0 aR hl))
def aeG{a:bD}(H:nP a.h ms fa fk){S:bH}{i g:Nat}(h:dw S i g a)(d:a.b0=p::ps)(aR:∀g∈a.b0,g.k<6)(hl:a.b0.length<=1000){z:Bool}(hw:b6 w=.v w)(hz:mj [w]=pure (.v (.ax z))) :
  aB S (vX [.ref i,w]) (.v (.ax (!z&&(a.b0.all λg=>decide (g.s=p.s))&&fk (maskOf (a.b0.map (·.k)))))):=by
 obtain⟨x,y,j,m,l,_,f⟩:=H.ex;have c:=Q_ ps p (by rw[<-d];exact hl);rw[<-d]at c;have al:aB S (aL (bo v5 (aa (e9 (bf (bY "Asker" "grants") (I 0))) ai)) [.v (.ref i),.v w]) (a.b0.all λg=>decide (g.s=p.s)):=cF (fy (bJ (Bp h rfl) cK) (.of c));refine kd rfl ?_;show aB S (Hc [.v (.ref i),b6 w]) _;rw[hw];generalize(a.b0.all λg=>decide (g.s=p.s))=o at *;have b:aB S (aL (bo mj (aa (I 1) ai)) [.v (.ref i),.v w]) z:=.of (iL (call_of (rs:=[.v w]) rfl hz))
 cases z with
 |true=>exact zh (pZ (DR b) (iU (.of rfl)))|false=>
  cases o with
  |false=>exact zh (pZ (nv b (jO al)) (iU (.of rfl)))| true=>exact zg (l_ (nv b (jO al)) (.of rfl)) (iU (fy (bJ (cz (x:=.v (.t [x,y])) (r:=.v y) rfl (c7 h rfl (by show some a.h=_;rw[j])) (.of rfl)) (bJ (C3 h aR hl _) cK)) (.of (f _))))
def bD.xU(a:bD)(w:D)(b:Bool):Prop:=∀S i g,dw S i g a->aB S (vX [.ref i,w]) (.v (.ax b))
def U4{a:bD}{s:dW}(hd:a.dD=.aI)(ay:a.xU w true):a.Do tj [.t [dG s,w]] [] (a.ends (.t [.str "saw",.t [.int a.cp,dG s,w]])):=g8 rfl λS i g h=>
 vk (hZ (cF (cz (by rw[s9,hd];rfl) (c7 (d:=a.dD) h rfl rfl) (.of rfl))) (cF (iv h.bb (.of rfl) rfl (bJ (x:=.v w) (.of rfl) cK) (ay S i g h))))<|
  C2 (sC (rs:=[.v (.t [.str "saw",.t [.int a.cp,dG s,w]])]) h (yv rfl) rfl rfl (aB.to (bJ (l' (bJ (.of rfl) (bJ (l' (bJ (c7 h rfl rfl) (bJ (.of rfl) (bJ (.of rfl) cK))) rfl (ale rfl)) cK)) rfl (ale rfl)) cK)) rfl) λS g h=>ng h (.of rfl)
theorem U5{a:bD}{ms:List Nat}{s:dW}{w:D}(d:mm [a.h]=pure (.fr (ms.map a')))(hl:ms.length<=6)(hd:eS a.dD=false\/a.xU w false){t:D}
  (c:nz [w,.int a.me,.int a.wi,a.dD]=pure (.v t)) :
  a.Do tj [.t [dG s,w]] (ms.map (qn a.me a.cp a.st (.t [dG s,.int a.wi,a.dD,t]))) (a.tells t):=g8 rfl λS i g h=>by
 have f:aB S (gr (aL (ae h4 (bf (bY "Asker" "deed") (I 0)) (af .aI))) (aL (c0 "Asker" "sees_at_once" vX (I 0) (aa (ae aH (I 1) (af (.int 1))) ai))) [.v (.ref i),.v (.t [dG s,w]),.e]) false:=by
  have b:aB S (aL (ae h4 (bf (bY "Asker" "deed") (I 0)) (af .aI)) [.v (.ref i),.v (.t [dG s,w]),.e]) (eS a.dD):=cF (cz (s9 a.dD) (c7 h rfl rfl) (.of rfl))
  cases q:eS a.dD with
  |false=>rw[q]at b;exact ll b|true=>
   rw[q]at b;rcases hd with z|z
   .rw[q]at z;cases z
   .exact hZ b (cF (iv h.bb (.of rfl) rfl (bJ (x:=.v w) (.of rfl) cK) (z S i g h)))
 exact k' f<|
  iQ h { a with bz:="telling" } rfl (.of rfl) rfl rfl rfl λS h=>
  iQ h { a with bz:="telling",nx:=0 } rfl (.of rfl) rfl rfl rfl λS h=>
  iQ h (a.tells t) rfl (fy (bJ (.of rfl) (bJ (c7 h rfl rfl) (bJ (c7 h rfl rfl) (bJ (c7 h rfl rfl) cK)))) (.of c)) rfl rfl rfl λS h=>
  yM (h1 (l' (bJ (.of rfl) (bJ (c7 h rfl rfl) (bJ (c7 h rfl rfl) (bJ (c7 h rfl rfl) cK)))) rfl (ale rfl)) rfl)<|
  ng h (zf (DQ (MY (fy (bJ (c7 h rfl rfl) cK) (.of d)) rfl) (by rw[akz];exact fU (by omega))
   (ze a' (qn a.me a.cp a.st (.t [dG s,.int a.wi,a.dD,t])) ms λk _=>fy (bJ (c7 h rfl rfl) (bJ (.of rfl) (bJ (c7 h rfl rfl) (bJ (c7 h rfl rfl) (bJ (.of rfl) cK))))) (.of rfl))))
include aR hl
theorem Dm{S:bH}(h:dw S i g a):aB S (aL (bo p' (aa (bo oy (aa (e9 (bf (bY "Asker" "grants") (I 0))) ai)) (aa (ae aH (I 1) (af (.int 1))) ai))) [.v (.ref i),.v (jE k me e s kp w)]) (cG (maskOf (a.b0.map (·.k))) k):=
 cF (fy (bJ (C3 h aR (by omega) _) (bJ (.of rfl) cK)) (.of (C8 _ k)))
theorem Xf(q:cG (maskOf (a.b0.map (·.k))) k=true):a.Do tl [jE k me e s kp w] [] a:=g8 rfl λS i g h=>
 rf h (by have:=Dm (k:=k) (me:=me) (e:=e) (s:=s) (kp:=kp) (w:=w) aR hl h;rw[q]at this;exact this) (.of rfl)
include H av
theorem LS{S:bH}(h:dw S i g (a.got k kp w)):aB S (ep (aL (bo (je 12) (aa (ae aH (bf (bY "Asker" "hall") (I 0)) (af (.int 0))) (aa (bo oy (aa (e9 (bf (bY "Asker" "grants") (I 0))) ai)) ai)))) [.v (.ref i),.v (jE k me e s kp w)]) (!fa (maskOf ((a.got k kp w).b0.map (·.k)))):=by
 obtain⟨x,y,d,_,_,b,_⟩:=H.ex;have c:=C3 h (λg h=>by
  rcases alp.mp h with h|h
  .exact aR g h
  .rw[akY.mp h];exact av) (by show(a.b0++[_]).length<=1000;rw[akB];show _+1<=_;omega) [.v (jE k me e s kp w)]
 exact jO (cF (fy (bJ (cz (x:=.v (.t [x,y])) (r:=.v x) rfl (c7 h rfl (by show some a.h=_;rw[d])) (.of rfl)) (bJ c cK)) (.of (b _))))
theorem Xb(q:cG (maskOf (a.b0.map (·.k))) k=false)(bS:fa (maskOf ((a.got k kp w).b0.map (·.k)))=false):a.Do tl [jE k me e s kp w] [] (a.got k kp w):=g8 rfl λS i g h=>
 hA (by have:=Dm (k:=k) (me:=me) (e:=e) (s:=s) (kp:=kp) (w:=w) aR hl h;rw[q]at this;exact this)<|
 LR h (a.got k kp w) rfl (bJ (x:=.v (dQ ⟨k,kp,w⟩)) (.of rfl) cK) rfl rfl (by omega) λS h=>
 rf h (by have:=LS (me:=me) (e:=e) (s:=s) H aR hl av h;rw[bS]at this;exact this) (.of rfl)
theorem Xe{Y:List D}{t:bD}{p:fe}{ps:List fe}(b:(a.got k kp w).b0=p::ps)(c:b6 a.op=.v a.op)(q:cG (maskOf (a.b0.map (·.k))) k=false)(bS:fa (maskOf ((a.got k kp w).b0.map (·.k)))=true)
  (go:(a.got k kp w).Do tj [yV a.op (jA p ps)] Y t):a.Do tl [jE k me e s kp w] Y t:=by
 have hi:=Xz p ps a.op c (by rw[<-b];show(a.b0++[_]).length<64;rw[akB];show _+1 < _;omega);rw[<-b]at hi;exact g8 rfl λS i g h=>
  hA (by have:=Dm (k:=k) (me:=me) (e:=e) (s:=s) (kp:=kp) (w:=w) aR hl h;rw[q]at this;exact this)<|
  LR h (a.got k kp w) rfl (bJ (x:=.v (dQ ⟨k,kp,w⟩)) (.of rfl) cK) rfl rfl (by omega) λS h=>
  hA (by have:=LS (me:=me) (e:=e) (s:=s) H aR hl av h;rw[bS]at this;exact this)<|
  rd (rs:=[.v (yV a.op (jA p ps))]) h go rfl rfl (aB.to (bJ (fy (bJ (Bp h rfl) (bJ (c7 h rfl rfl) cK)) (.of hi)) cK)) rfl
end
structure Told(dC:D)(me n:Int)(df aU:D)(bR:Bool):Prop where
 pK:∃x,p_ [dC,.int me]=pure (.v (.t [x,.int n,df]))
 dT:oB [dC]=pure (.v aU)
 is:mj [dC]=pure (.v (.ax (!eS aU)))
 lX:oEq (.v aU) (.v (.str "over"))=pure (.v (.ax bR))
 ss:b6 aU=.v aU
def bD.gj(a:bD)(n:Int)(df aU:D)(bR:Bool):bD:=
 if(!eS a.dD)=true then(if n=a.wi then a.ends (.t [.str "did",df])else a)
 else if(eS aU)=true then a.ends (.t [.str "saw",.t [.int a.cp,dG a.st,a.dC]])
 else if bR=true then a.ends (.t [.str "saw",.t [.int a.cp,.aI,a.dC]])else a
def TV{a:bD}{n:Int}{df aU:D}(t:Told a.dC a.me n df aU bR):a.uI Ef [] (a.gj n df aU bR):=Cv rfl λS i g h=>by
 obtain⟨⟨x,l⟩,k,p,f,_⟩:=t;have q:aB S (aL (ae hF (bf (bY "Asker" "deed") (I 0)) (af .aI)) [.v (.ref i),.v a.dC,.e]) (!eS a.dD):=cF (cz (wF a.dD) (c7 h rfl rfl) (.of rfl));have is:aB S (ep (aL (bo mj (aa (I 1) ai))) [.v (.ref i),.v a.dC,.e]) (!!eS aU):=jO (cF (fy (rs:=[.v a.dC]) (.of rfl) (.of p)));have dT:aB S (aL (ae oEq (bo oB (aa (I 1) ai)) (af (.str "over"))) [.v (.ref i),.v a.dC,.e]) bR:=cF (cz f (fy (rs:=[.v a.dC]) (.of rfl) (.of k)) (.of rfl));unfold bD.gj;have st:∀{o c},dV S i g (G8 [.v (.ref i),.v a.dC,.e]) o c->dV S i g (G7 [.v (.ref i),.e,.e]) o c:=λq=>yM (h1 (r:=.v a.dC) (c7 h rfl rfl) rfl) q
 cases e:eS a.dD with
 |false=>
  rw[e]at q;rw[if_pos (by rfl)];have pK:∀{m:b2}{o c},dV S i g (m [.v (.ref i),.v a.dC,.v (.t [x,.int n,df])]) o c->dV S i g (bE (b9 (cn 2 (bo p_ (aa (I 1) (aa (bf (bY "Asker" "me") (I 0)) ai))))) m [.v (.ref i),.v a.dC,.e]) o c:=λq=>yM (h1 (r:=.v (.t [x,.int n,df])) (fy (rs:=[.v a.dC,.v (.int a.me)]) (bJ (.of rfl) (bJ (c7 h rfl rfl) cK)) (.of l)) rfl) q
  have eq:aB S (aL (ae oEq (ae aH (I 2) (af (.int 1))) (bf (bY "Asker" "wishes") (I 0))) [.v (.ref i),.v a.dC,.v (.t [x,.int n,df])]) (decide (n=a.wi)):=cF (cz CC (.of rfl) (c7 (d:=.int a.wi) h rfl rfl))
  by_cases c:n=a.wi
  .rw[if_pos c]
   rw[decide_eq_true c]at eq;exact⟨_,st<|sQ q<|pK<|sQ eq<|sC (rs:=[.v (.t [.str "did",df])]) h (yv rfl) rfl rfl (aB.to (.of rfl)) rfl⟩
  .rw[if_neg c]
   rw[decide_eq_false c]at eq;exact⟨_,st<|sQ q<|pK<|pS eq<|ng h (.of rfl)⟩
 |true=>
  rw[e]at q;rw[if_neg (by simp)];have sw:∀{b:bw}{w:D},aB S (b [.v (.ref i),.v a.dC,.e]) (.v w)->dV S i g (iz (d5 "Asker" "end_wish" p6 (I 0) (ez (aa (bO (aa (af (.str "saw")) (aa (bO (aa (bf (bY "Asker" "epoch") (I 0)) (aa b (aa (I 1) ai)))) ai))) ai))) [.v (.ref i),.v a.dC,.e]) (.bu [.v (.ref i),.v a.dC,.e]) (a.ends (.t [.str "saw",.t [.int a.cp,w,a.dC]])):=λ{b w} j=>
   sC (rs:=[.v (.t [.str "saw",.t [.int a.cp,w,a.dC]])]) h (yv rfl) rfl rfl (aB.to (bJ (l' (bJ (.of rfl) (bJ (l' (bJ (c7 h rfl rfl) (bJ j (bJ (.of rfl) cK))) rfl (ale rfl)) cK)) rfl (ale rfl)) cK)) rfl
  cases aF:eS aU with
  |true=>
   rw[aF]at is;rw[if_pos rfl];exact⟨_,st<|pS q<|sQ is<|sw (c7 h rfl rfl)⟩
  |false=>
   rw[aF]at is;rw[if_neg akD]
   cases bR with
   |true=>rw[if_pos rfl];exact⟨_,st<|pS q<|pS is<|sQ dT<|sw (.of rfl)⟩|false=>rw[if_neg akD];exact⟨_,st<|pS q<|pS is<|pS dT<|ng h (.of rfl)⟩
def bD.ot(a:bD):bD:=if(a.bz == "calm")=true then{ a with bR:=true }else{ a with bR:=true,bz:="calm",cw:=.t [.str "over",.aI] }
def Zx{a:bD}(ay:a.j3):a.uI Eh [] a.ot:=Cv rfl λS i g h=>by
 have ne:∀{S},dw S i g { a with bR:=true }->aB S (aL (ae dI (bf (bY "Asker" "standing") (I 0)) (af (.str "calm"))) [.v (.ref i)]) (!(a.bz == "calm")):=λh=>cF (cz (sy ay) (c7 (d:=.str a.bz) h rfl rfl) (.of rfl))
 unfold bD.ot
 by_cases c:(a.bz == "calm")=true
 .rw[if_pos c]
  exact⟨_,iQ h { a with bR:=true } rfl (.of rfl) rfl rfl rfl λS h=>pS (by have:=ne h;rw[c]at this;exact this) (ng h (.of rfl))⟩
 .rw[if_neg c]
  exact⟨_,iQ h { a with bR:=true } rfl (.of rfl) rfl rfl rfl λS h=>sQ (by have:=ne h;rw[show(a.bz == "calm")=false by simpa using c]at this;exact this) (sC (rs:=[.v (.t [.str "over",.aI])]) h (yv rfl) rfl rfl (aB.to (.of rfl)) rfl)⟩
def bD.over(a:bD)(h o:D):bD:={ a with cp:=a.cp+1,h:=h,op:=o }
section
variable{a:bD}(ay:a.j3){cX o:D}(hl:b6 cX=.v cX)(a0:tD [a.dC]=pure (.v o))
include hl a0
theorem Oi{S:bH}(h:dw S i g a)(p:∀S1,dw S1 i g (a.over cX o)->dV S1 i g (G' [.v (.ref i),.v cX]) C c):dV S i g (G_ [.v (.ref i),b6 cX]) C c:=by
 rw[hl];exact iQ h { a with cp:=a.cp+1 } rfl (cz rfl (c7 h rfl rfl) (.of rfl)) rfl rfl rfl λS h=>
  iQ h { a with cp:=a.cp+1,h:=cX } rfl (.of rfl) rfl rfl rfl λS h=>
  iQ h (a.over cX o) rfl (fy (rs:=[.v a.dC]) (bJ (c7 h rfl rfl) cK) (.of a0)) rfl rfl rfl p
include ay
theorem U6(c:a.bz="calm"):a.Do rA [cX] [] (a.over cX o):=g8 rfl λS i g h=>Oi hl a0 h λS h=>
 rf h (cF (cz (by rw[calm_eq ay,c,beq_self_eq_true]) (c7 (d:=.str a.bz) h rfl rfl) (.of rfl))) (.of rfl)
theorem U7(c:a.bz≠"calm"){ms:List Nat}(e:mm [cX]=pure (.fr (ms.map a')))(b:ms.length<=6):a.Do rA [cX] (ms.map (kx a.me (a.cp+1) (a.dh+1,a.me))) (a.over cX o).asks:=g8 rfl λS i g h=>Oi hl a0 h λS h=>
 hA (cF (cz (by rw[calm_eq ay,show(a.bz == "calm")=false by simpa using c]) (c7 (d:=.str a.bz) h rfl rfl) (.of rfl)))<|rd (rs:=[]) h (Bv (a:=a.over cX o) e b) rfl rfl rfl rfl
end
def sG(a:bD)(n:Int)(df aU:D)(bR:Bool):(∃o,(o=.t [.str "did",df]\/∃x y z,o=.t [.str "saw",.t [.int x,y,a.dC]]/\(y=.aI\/y=dG z))/\a.gj n df aU bR=a.ends o)\/a.gj n df aU bR=a:=by
 unfold bD.gj;split
 .split
  .exact .inl ⟨_,.inl rfl,rfl⟩
  .exact .inr rfl
 .split
  .exact .inl ⟨_,.inr ⟨_,_,a.st,rfl,.inr rfl⟩,rfl⟩
  .split
   .exact .inl ⟨_,.inr ⟨_,_,a.st,rfl,.inl rfl⟩,rfl⟩
   .exact .inr rfl
def Lh(a:bD)(n:Int)(df aU:D)(bR:Bool):(a.gj n df aU bR).dC=a.dC:=by rcases sG a n df aU bR with⟨o,_,e⟩|e<;>rw[e]<;>rfl
def TZ(a:bD)(n:Int)(df aU:D)(bR:Bool):(a.gj n df aU bR).cp=a.cp:=by rcases sG a n df aU bR with⟨o,_,e⟩|e<;>rw[e]<;>rfl
def CA(a:bD)(n:Int)(df aU:D)(bR:Bool):(a.gj n df aU bR).wi=a.wi:=by rcases sG a n df aU bR with⟨o,_,e⟩|e<;>rw[e]<;>rfl
def T2{a:bD}(h:a.j3)(n:Int)(df aU:D)(bR:Bool):(a.gj n df aU bR).j3:=by
 rcases sG a n df aU bR with⟨o,_,e⟩|e<;>rw[e]
 .exact .inl rfl
 .exact h
def or_eq(m n:Nat):tP (.v (a' m)) (.v (a' n))=pure (.v (a' (m ||| n))):=by
 rw[gP,gP,gP,<-EX];rfl
def bD.f_(a:bD)(k:Nat):bD:={ a with nx:=a.nx ||| maskOf [k] }
section
variable{a:bD}{ms:List Nat}{fa fk:Nat->Bool}(H:nP a.h ms fa fk){k:Nat}{me e:Int}{s:dW}(av:k<6)
include H av
theorem M1{S:bH}(h:dw S i g (a.f_ k)):aB S (ep (aL (bo (je 12) (aa (ae aH (bf (bY "Asker" "hall") (I 0)) (af (.int 1))) (aa (bf (bY "Asker" "kept_mask") (I 0)) ai)))) [.v (.ref i),.v (g0 k me e s),s2]) (!fk (a.f_ k).nx):=by
 obtain⟨x,y,c,_,_,_,b⟩:=H.ex;exact jO (cF (fy (bJ (cz (x:=.v (.t [x,y])) (r:=.v y) rfl (c7 h rfl (by show some a.h=_;rw[c])) (.of rfl)) (bJ (c7 h rfl rfl) cK)) (.of (b _))))
theorem M3{S:bH}(h:dw S i g a)(p:∀S1,dw S1 i g (a.f_ k)->dV S1 i g (Ha [.v (.ref i),.v (g0 k me e s),.e]) o c):dV S i g (BC [.v (.ref i),.v (g0 k me e s),.e]) o c:=
 iQ h (a.f_ k) rfl (cz (or_eq a.nx (maskOf [k])) (c7 h rfl rfl) (fy (rs:=[.fr [a' k]]) (.of (cons_of (Nz (cons_of (fj rfl rfl rfl) rfl) rfl (ale rfl)) rfl)) (.of (wo [k] λj b=>by rw[akY.mp b];omega)))) rfl rfl rfl p
theorem Xg(q:fk (a.f_ k).nx=false):a.Do rB [g0 k me e s] [] (a.f_ k):=g8 rfl λS i g h=>
 M3 H av h λS h=>rf h (by have:=M1 (me:=me) (e:=e) (s:=s) (s2:=.e) H av h;rw[q]at this;exact this) (.of rfl)
variable{n:Int}{df aU:D}{bR:Bool}(t:Told a.dC a.me n df aU bR)(q:fk (a.f_ k).nx=true)
include t q
theorem DV{S:bH}(h:dw S i g a)(p:∀S1 b,dw S1 i b ((a.f_ k).gj n df aU bR)->dV S1 i b (BD [.v (.ref i),.v (g0 k me e s),.v aU]) o c):dV S i g (BC [.v (.ref i),.v (g0 k me e s),.e]) o c:=
 M3 H av h λS h=>hA (by have:=M1 (me:=me) (e:=e) (s:=s) (s2:=.e) H av h;rw[q]at this;exact this)<|
 C2 (U':=[.v (.ref i),.v (g0 k me e s),.e]) (sC (rs:=[]) h (TV t) rfl rfl rfl rfl) λS g h=>
 yM (h1 (r:=.v aU) (fy (rs:=[.v a.dC]) (bJ (c7 h rfl (by show some ((a.f_ k).gj n df aU bR).dC=_;rw[Lh];rfl)) cK) (.of t.dT)) rfl) (p S g h)
theorem Xj(aA:eS aU=true):a.Do rB [g0 k me e s] [] ((a.f_ k).gj n df aU bR):=g8 rfl λS i g h=>DV H av t q h λS g h=>
 rf h (cF (cz ((s9 aU).trans (by rw[aA])) (.of rfl) (.of rfl))) (.of rfl)
variable(aA:eS aU=false)
include aA
theorem M4{S:bH}(p:dV S i g (Hb [.v (.ref i),.v (g0 k me e s),.v aU]) o c):dV S i g (BD [.v (.ref i),.v (g0 k me e s),.v aU]) o c:=
 hA (cF (cz ((s9 aU).trans (by rw[aA])) (.of rfl) (.of rfl))) p
theorem Xk(ay:a.j3)(b:bR=true):a.Do rB [g0 k me e s] [] ((a.f_ k).gj n df aU bR).ot:=g8 rfl λS i g h=>DV H av t q h λS g h=>M4 H av t q aA<|
 vk (cF (cz (t.lX.trans (by rw[b])) (.of rfl) (.of rfl)))<|C2 (U':=[.v (.ref i),.v (g0 k me e s),.v aU]) (sC (rs:=[]) h (Zx (T2 (a:=a.f_ k) ay _ _ _ _)) rfl rfl rfl rfl) λS g h=>ng h (.of rfl)
theorem Md(b:bR=false)(lo:((a.f_ k).gj n df aU bR).Do rA [aU] Y c):a.Do rB [g0 k me e s] Y c:=g8 rfl λS i g h=>DV H av t q h λS g h=>M4 H av t q aA<|
 k' (cF (cz (t.lX.trans (by rw[b])) (.of rfl) (.of rfl)))<|rd (rs:=[.v aU]) h lo rfl rfl (aB.to (.of rfl)) rfl
end
def Ys(j:Nat)(a:List Nat):kO false (.v (a' j)) (.fr (a.map a'))=pure (.v (.ax (a.contains j))):=Yr j a
def NU{a b:Int}:dI (.v (.int a)) (.v (.int b))=pure (.v (.ax (!decide (a=b)))):=rfl
def bD.now(a:bD)(ms:List Nat)(k:Nat)(e:Int)(s:dW):Bool:=decide (e=a.cp)&&decide (s=a.st)&&ms.contains k
def YE{a:bD}{S:bH}(h:dw S i g a)(H:nP a.h ms fa fk)(w c:D)(k:Nat)(b e:Int)(s:dW):aB S (zz [.ref i,.t [w,a' k,.int b,.int e,dG s,c]]) (.v (.ax (a.now ms k e s))):=by
 refine kd rfl ?_;have d:aB S (aL (ae dI (ae aH (I 1) (af (.int 3))) (bf (bY "Asker" "epoch") (I 0))) [.v (.ref i),.v (.t [w,a' k,.int b,.int e,dG s,c])]) (!decide (e=a.cp)):=cF (cz NU (.of rfl) (c7 h rfl rfl));have f:aB S (aL (ae dI (ae aH (I 1) (af (.int 4))) (bf (bY "Asker" "last_stamp") (I 0))) [.v (.ref i),.v (.t [w,a' k,.int b,.int e,dG s,c])]) (!decide (s=a.st)):=cF (cz (abt s a.st) (.of rfl) (c7 h rfl rfl));unfold bD.now;generalize decide (e=a.cp)=o at *;generalize decide (s=a.st)=C at *
 cases o with
 |false=>exact zh (pZ (DR d) (.of rfl))|true=>
  cases C with
  |false=>exact zh (pZ (nv d f) (.of rfl))|true=>exact zg (l_ (nv d f) (.of rfl)) (iU (cz (Ys k ms) (.of rfl) (fy (bJ (c7 h rfl rfl) cK) (.of H.mem))))
def tT:akW "grant"=true:=by decide +kernel
def N':akW "kept"=true:=by decide +kernel
def ZH:oEq (.v (.str "late")) (.v (.str "late"))=pure (.v (.ax true)):=by rw[jm wM wM,beq_self_eq_true]
def C1:oEq (.v (.str "grant")) (.v (.str "late"))=pure (.v (.ax false)):=by rw[jm tT wM];rfl
def LO:oEq (.v (.str "grant")) (.v (.str "grant"))=pure (.v (.ax true)):=by rw[jm tT tT,beq_self_eq_true]
def U0:oEq (.v (.str "grant")) (.v (.str "kept"))=pure (.v (.ax false)):=by rw[jm tT N'];rfl
def bD.zr(a:bD)(r:Int):bD:={ a with dh:=if r > a.dh then r else a.dh }
section
variable{a:bD}{ms:List Nat}{fa fk:Nat->Bool}{S:bH}{i g:Nat}(H:nP a.h ms fa fk){k:Nat}{e:Int}{s kp:dW}{w:D}
def tX(h:dw S i g a)(x b:D)(k:Nat)(e:Int)(s:dW):aB S (aL (ae dI (ae aH (I 1) (af (.int 2))) (bf (bY "Asker" "me") (I 0))) [.v (.ref i),.v (.t [x,a' k,.int a.me,.int e,dG s,b])]) false:=
 cF (cz (NU.trans (by rw[decide_eq_true rfl];rfl)) (.of rfl) (c7 (d:=.int a.me) h rfl rfl))
theorem Xl(p:dW):a.Do kf [td k a.me e s p] [] (a.zr p.1):=g8 rfl λS i g h=>
 hA (tX h (.str "late") (.t [dG p]) k e s)<|vk (cF (cz ZH (.of rfl) (.of rfl)))<|
 iQ h (a.zr p.1) rfl (rt (r:=.v (.int (a.zr p.1).dh)) rfl (bJ (c7 h rfl rfl) (bJ (.of rfl) cK))) rfl rfl rfl λS h=>ng h (.of rfl)
include H
theorem wG(h:dw S i g a)(x c:D)(k:Nat)(b e:Int)(s:dW):aB S (ep (aL (c0 "Asker" "is_for_now" zz (I 0) (aa (I 1) ai))) [.v (.ref i),.v (.t [x,a' k,.int b,.int e,dG s,c])]) (!a.now ms k e s):=
 jO (cF (iv h.bb (.of rfl) rfl (bJ (.of rfl) cK) (YE h H x c k b e s)))
theorem Me(x b:D)(c:oEq (.v x) (.v (.str "late"))=pure (.v (.ax false)))(q:a.now ms k e s=false):a.Do kf [.t [x,a' k,.int a.me,.int e,dG s,b]] [] a:=g8 rfl λS i g h=>
 hA (tX h x b k e s)<|k' (cF (cz c (.of rfl) (.of rfl)))<|rf h (by have:=wG H h x b k a.me e s;rw[q]at this;exact this) (.of rfl)
variable(ay:a.j3)
include ay
theorem Dd(q:a.now ms k e s=true)(c:a.bz="asking")(g:a.Do tl [jE k a.me e s kp w] Y t):a.Do kf [jE k a.me e s kp w] Y t:=g8 rfl λS i j h=>
 hA (tX h (.str "grant") (.t [dG kp,w]) k e s)<|k' (cF (cz C1 (.of rfl) (.of rfl)))<|
 hA (by have:=wG H h (.str "grant") (.t [dG kp,w]) k a.me e s;rw[q]at this;exact this)<|
 vk (hZ (cF (cz LO (.of rfl) (.of rfl))) (cF (cz (by rw[jm (uc ay) N9,c,beq_self_eq_true]) (c7 h rfl rfl) (.of rfl))))<|
 rd (rs:=[.v (jE k a.me e s kp w)]) h g rfl rfl (aB.to (.of rfl)) rfl
theorem Xc(q:a.now ms k e s=true)(c:a.bz≠"asking"):a.Do kf [jE k a.me e s kp w] [] a:=g8 rfl λS i j h=>
 hA (tX h (.str "grant") (.t [dG kp,w]) k e s)<|k' (cF (cz C1 (.of rfl) (.of rfl)))<|
 hA (by have:=wG H h (.str "grant") (.t [dG kp,w]) k a.me e s;rw[q]at this;exact this)<|
 k' (hZ (cF (cz LO (.of rfl) (.of rfl))) (cF (cz (by rw[jm (uc ay) N9,show(a.bz == "asking")=false by simpa using c]) (c7 h rfl rfl) (.of rfl))))<|
 k' (ll (cF (cz U0 (.of rfl) (.of rfl))))<|ng h (.of rfl)
end
section
variable{a:bD}{ms:List Nat}(hm:mm [a.h]=pure (.fr (ms.map a')))(hl:ms.length<=6)
include hm hl
theorem Sp(ay:a.j3)(c:a.bz≠"calm"):a.Do ti [] (ms.map (kx a.me a.cp (a.dh+1,a.me))) a.asks:=g8 rfl λS i g h=>
 hA (cF (cz (by rw[calm_eq ay,show(a.bz == "calm")=false by simpa using c]) (c7 h rfl rfl) (.of rfl)))<|rd (rs:=[]) h (Bv hm hl) rfl rfl rfl rfl
def bD.pD(a:bD)(d:D):bD:={ a with wi:=a.wi+1,dD:=d,cw:=.aI }
theorem Sl(ay:a.bz="calm")(c:a.bR=false)(hd:b6 d=.v d)(b:d=.aI\/nA [d]=pure (.v (.ax true))):a.Do zy [d] (ms.map (kx a.me a.cp (a.dh+1,a.me))) (a.pD d).asks:=g8 rfl λS i g h=>by
 show dV S i g (G6 [.v (.ref i),b6 d]) _ _;rw[hd];have nn:aB S (aL (ae hF (I 1) (af .aI)) [.v (.ref i),.v d]) (!eS d):=cF (cz (wF d) (.of rfl) (.of rfl));have e:aB S (gr (aL (ae hF (I 1) (af .aI))) (ep (aL (bo nA (aa (I 1) ai)))) [.v (.ref i),.v d]) false:=by
  rcases b with rfl|b
  .exact ll nn
  .cases q:eS d with
   |true=>rw[q]at nn;exact ll nn|false=>rw[q]at nn;exact hZ nn (jO (cF (fy (bJ (x:=.v d) (.of rfl) cK) (.of b))))
 exact hA e<|
  hA (cF (c7 h rfl (by show some (D.ax a.bR)=_;rw[c])))<|
  hA (cF (cz (by rw[sy (a:=a) (.inl ay),ay,beq_self_eq_true];rfl) (c7 h rfl rfl) (.of rfl)))<|
  iQ h { a with wi:=a.wi+1 } rfl (cz rfl (c7 h rfl rfl) (.of rfl)) rfl rfl rfl λS h=>
  iQ h { a with wi:=a.wi+1,dD:=d } rfl (.of rfl) rfl rfl rfl λS h=>
  iQ h (a.pD d) rfl (.of rfl) rfl rfl rfl λS h=>
  rd (rs:=[]) h (Bv (a:=a.pD d) hm hl) rfl rfl rfl rfl
end
def Sm{a:bD}(c:a.bz="calm"):a.Do ti [] [] a:=g8 rfl λS i g h=>
 rf h (cF (cz (by rw[calm_eq (.inl c),c,beq_self_eq_true]) (c7 (d:=.str a.bz) h rfl rfl) (.of rfl))) (.of rfl)
def z8:akW "kept"=true:=by decide +kernel
def DY:oEq (.v (.str "kept")) (.v (.str "late"))=pure (.v (.ax false)):=by rw[jm z8 wM];rfl
def Na:oEq (.v (.str "kept")) (.v (.str "grant"))=pure (.v (.ax false)):=by rw[jm z8 tT];rfl
def Nb:oEq (.v (.str "kept")) (.v (.str "kept"))=pure (.v (.ax true)):=by rw[jm z8 z8,beq_self_eq_true]
section
variable{a:bD}{ms:List Nat}{fa fk:Nat->Bool}(H:nP a.h ms fa fk)(ay:a.j3){k:Nat}{e:Int}{s:dW}
include H ay
theorem vx(q:a.now ms k e s=true)(c:a.bz="telling")(g:a.Do rB [g0 k a.me e s] Y t):a.Do kf [g0 k a.me e s] Y t:=g8 rfl λS i j h=>
 hA (tX h (.str "kept") (.t []) k e s)<|k' (cF (cz DY (.of rfl) (.of rfl)))<|
 hA (by have:=wG H h (.str "kept") (.t []) k a.me e s;rw[q]at this;exact this)<|
 k' (ll (cF (cz Na (.of rfl) (.of rfl))))<|
 vk (hZ (cF (cz Nb (.of rfl) (.of rfl))) (cF (cz (by rw[jm (uc ay) Oa,c,beq_self_eq_true]) (c7 h rfl rfl) (.of rfl))))<|
 rd (rs:=[.v (g0 k a.me e s)]) h g rfl rfl (aB.to (.of rfl)) rfl
theorem Xh(q:a.now ms k e s=true)(c:a.bz≠"telling"):a.Do kf [g0 k a.me e s] [] a:=g8 rfl λS i j h=>
 hA (tX h (.str "kept") (.t []) k e s)<|k' (cF (cz DY (.of rfl) (.of rfl)))<|
 hA (by have:=wG H h (.str "kept") (.t []) k a.me e s;rw[q]at this;exact this)<|
 k' (ll (cF (cz Na (.of rfl) (.of rfl))))<|
 k' (hZ (cF (cz Nb (.of rfl) (.of rfl))) (cF (cz (by rw[jm (uc ay) Oa,show(a.bz == "telling")=false by simpa using c]) (c7 h rfl rfl) (.of rfl))))<|
 ng h (.of rfl)
end
structure c2 where
 as:List bD
 bs:List D
 ls:List D
 rs:List D
structure ig where
 a:Nat
 b:Nat
 l:Nat
 r:Nat
 q:List (Nat×Nat)
def ig.has(p:ig)(i y:Nat):Prop:=y=i\/y∈[p.a,p.b,p.l,p.r]\/∃x∈p.q,y=x.1\/y=x.2
def ig.aW(p:ig):List (Str×D):=[("askers",.ref p.a),("books",.ref p.b),("letters",.ref p.l),("rows",.ref p.r)]
structure eb(S:bH)(i:Nat)(p:ig)(h:c2):Prop where
 bb:S[i]? = some (.bb "House" p.aW)
 al:S[p.a]? = some (.l (p.q.map λx=>.ref x.1))
 bs:S[p.b]? = some (.l h.bs)
 ls:S[p.l]? = some (.l h.ls)
 rs:S[p.r]? = some (.l h.rs)
 len:p.q.length=h.as.length
 as:∀(k:Nat)(x:Nat×Nat)(a:bD),p.q[k]? = some x->h.as[k]? = some a->dw S x.1 x.2 a
 nl:[p.a,p.b,p.l,p.r].Nodup
 tN:∀x∈p.q,x.2∉[p.a,p.b,p.l,p.r]
 fB:∀(j k:Nat)(x y:Nat×Nat),p.q[j]? = some x->p.q[k]? = some y->j≠k->x.1≠y.1/\x.2≠y.2
structure k4(S ao:bH)(i:Nat)(p d3:ig)(h:c2):Prop where
 at':eb ao i d3 h
 fr:∀j o,¬p.has i j->S[j]? = some o->ao[j]? = some o
 nw:∀x,d3.has i x->p.has i x\/S.length<=x
 len:S.length<=ao.length
def c2.Do(h:c2)(mf:dX)(ds:List D)(r:R)(h':c2):Prop:=∀(S:bH)(i:Nat)(p:ig),eb S i p h->∃a b,bC S (mf (.ref i::ds)) r a/\k4 S a i p b h'
def c2.put(h:c2)(k:Nat)(a:bD):c2:={ h with as:=h.as.set k a }
def c2.wr(h:c2)(L:List D):c2:={ h with ls:=h.ls++L }
def c2.row(h:c2)(r:D):c2:={ h with rs:=h.rs++[r] }
def c2.bk(h:c2)(k:Nat)(b:D):c2:={ h with bs:=h.bs.set k b }
def tL{S:bH}{x y:Nat}{o b:fZ}(a:S[x]? = some o)(c:S[y]? = some b)(n:o≠b):x≠y:=λe=>n (by rw[e,c]at a;exact(ak1 a).symm)
section
variable{S S1 a5:bH}{i k:Nat}{p p1 cD:ig}{h ag ah:c2}{x:Nat×Nat}{a b:bD}{U:aJ}
theorem k4.trans(s:k4 S S1 i p p1 ag)(t:k4 S1 a5 i p1 cD ah):k4 S a5 i p cD ah:=
 ⟨t.at',λj o c e=>t.fr j o (λz=>(s.nw j z).elim c λz=>by have:=jd e;omega) (s.fr j o c e),λx z=>(t.nw x z).elim (s.nw x) λz=>.inr (ald s.len z),ald s.len t.len⟩
theorem eb.lt(H:eb S i p h)(d:p.has i y):y<S.length:=by
 rcases d with rfl|z|⟨x,o,z⟩
 .exact jd H.bb
 .simp only[akP,alo,or_false]at z
  rcases z with rfl|rfl|rfl|rfl
  .exact jd H.al
  .exact jd H.bs
  .exact jd H.ls
  .exact jd H.rs
 .obtain⟨k,c⟩:=anW.mp o
  have hl:=(akw.mp c).1;have A:=H.as k x _ c (akJ (by rw[<-H.len];exact hl));rcases z with rfl|rfl
  .exact jd A.bb
  .exact jd A.ls
def eb.ex(H:eb S i p h)(e:h.as[k]? = some a):∃x,p.q[k]? = some x/\dw S x.1 x.2 a:=by
 have hl:k<p.q.length:=by rw[H.len];exact(akw.mp e).1
 exact⟨_,akJ hl,H.as k _ a (akJ hl) e⟩
def eb.step(H:eb S i p h)(t:p.q[k]? = some x)(N:h.as[k]? = some a)(s:ei S S1 x.1 x.2 g' b):k4 S S1 i p { p with q:=p.q.set k (x.1,g') } (h.put k b):=by
 have A:=H.as k x a t N;have I:=(akw.mp t).1;have u:=ak7 t;have keep:∀y o,S[y]? = some o->y≠x.1->y≠x.2->S1[y]? = some o:=λy o e g f=>s.fr y o (by simp[g,f]) e
 have K:∀y xs,y∈[p.a,p.b,p.l,p.r]->S[y]? = some (.l xs)->S1[y]? = some (.l xs):=λy xs F e=>keep y _ e (tL e A.bb (by intro z;cases z)) λz=>H.tN x u (z▸F)
 have br:(p.q.set k (x.1,g')).map (λx=>aE.D.ref x.1)=p.q.map λx=>aE.D.ref x.1:=by
  rw[List.map_set];refine aoE λj=>?_
  by_cases c:k=j
  .subst c
   rw[akU (by rw[akz];exact I),akN,t];rfl
  .rw[akF c]
 have L:g'∉[p.a,p.b,p.l,p.r]:=by
  rcases s.nw with z|z
  .rw[z];exact H.tN x u
  .intro O
   have:=H.lt (.inr (.inl O));omega
 refine⟨⟨keep i _ H.bb (tL H.bb A.bb (by intro z;injection z with z _;exact absurd z (by decide))) (tL H.bb A.ls (by intro z;cases z)),by rw[br];exact K _ _ (by simp) H.al,K _ _ (by simp) H.bs,K _ _ (by simp) H.ls,K _ _ (by simp) H.rs,by rw[ak8];unfold c2.put;rw[ak8];exact H.len,λj y c d E=>?_,H.nl,λy F=>?_,λj l y z n el ne=>?_⟩,
  λj o M e=>s.fr j o (by
   simp only[akP,alo,or_false,not_or];exact⟨λz=>M (.inr (.inr ⟨x,u,.inl z⟩)),λz=>M (.inr (.inr ⟨x,u,.inr z⟩))⟩) e,λy F=>?_,s.len⟩
 .have d:(p.q.set k (x.1,g'))[j]? = some y:=d
  have E:(h.as.set k b)[j]? = some c:=E
  by_cases q:k=j
  .subst q
   rw[akU I]at d;rw[akU (akw.mp N).1]at E;cases d;cases E;exact s.at'
  .rw[akF q]at d E
   have B:=H.as j y c d E;obtain⟨g,f⟩:=H.fB j k y x d t (am9 q);exact⟨keep _ _ B.bb g (tL B.bb A.ls (by intro z;cases z)),keep _ _ B.ls (tL B.ls A.bb (by intro z;cases z)) f⟩
 .rcases anp F with z|rfl
  .exact H.tN y z
  .exact L
 .have n:(p.q.set k (x.1,g'))[j]? = some y:=n
  have el:(p.q.set k (x.1,g'))[l]? = some z:=el;have G:∀m w,k≠m->p.q[m]? = some w->x.1≠w.1/\g'≠w.2:=λm w Q P=>by
   obtain⟨g,f⟩:=H.fB k m x w t P Q;refine⟨g,?_⟩;rcases s.nw with z|z
   .rw[z];exact f
   .intro O
    have:=H.lt (.inr (.inr ⟨w,ak7 P,.inr rfl⟩));omega
  by_cases bf:k=j
  .subst bf
   rw[akU I]at n;rw[akF ne]at el;cases n;exact G l z ne el
  .rw[akF bf]at n
   by_cases ae:k=l
   .subst ae
    rw[akU I]at el;cases el;obtain⟨g,f⟩:=G j y (am9 ne) n;exact⟨g.symm,f.symm⟩
   .rw[akF ae]at el
    exact H.fB j l y z n el ne
 .rcases F with z|z|⟨w,hw,z⟩
  .exact .inl (.inl z)
  .exact .inl (.inr (.inl z))
  .rcases anp hw with v|rfl
   .exact .inl (.inr (.inr ⟨w,v,z⟩))
   .rcases z with z|z
    .exact .inl (.inr (.inr ⟨x,u,.inl z⟩))
    .rcases s.nw with v|v
     .exact .inl (.inr (.inr ⟨x,u,.inr (z.trans v)⟩))
     .exact .inr (by rw[z];exact v)
theorem eb.E7{h':c2}(H:eb S i p h)(d:c∈[p.b,p.l,p.r])(g:h'.as=h.as)(au:(S.set c o)[p.b]? = some (.l h'.bs))(aF:(S.set c o)[p.l]? = some (.l h'.ls))(cO:(S.set c o)[p.r]? = some (.l h'.rs)):k4 S (S.set c o) i p p h':=by
 have hl:∃xs,S[c]? = some (.l xs):=by
  simp only[akP,alo,or_false]at d;rcases d with rfl|rfl|rfl
  .exact⟨_,H.bs⟩
  .exact⟨_,H.ls⟩
  .exact⟨_,H.rs⟩
 obtain⟨xs,hl⟩:=hl;have m:c∈[p.a,p.b,p.l,p.r]:=akL _ d;have nb:∀{y:Nat}{cl:Str}{aW:List (Str×aE.D)},S[y]? = some (fZ.bb cl aW)->(S.set c o)[y]? = some (fZ.bb cl aW):=λe=>by rw[akF (tL hl e (by intro z;cases z))];exact e
 have na:c≠p.a:=λz=>(alx.mp H.nl).1 (z▸d)
 refine⟨⟨nb H.bb,by rw[akF na];exact H.al,au,aF,cO,by rw[g];exact H.len,λk x a f he=>?_,H.nl,H.tN,H.fB⟩,λj q n e=>?_,λ_ z=>.inl z,by rw[ak8];exact akE _⟩
 .rw[g]at he
  have A:=H.as k x a f he;exact⟨nb A.bb,by rw[akF λz:c=x.2=>H.tN x (ak7 f) (z▸m)];exact A.ls⟩
 .rw[akF λz:c=j=>n (z▸.inr (.inl m))];exact e
def eb.ns(H:eb S i p h):p.b≠p.l/\p.b≠p.r/\p.l≠p.r:=by
 have:=H.nl;simp only[alx,akP,alo,or_false,not_or]at this;exact⟨this.2.1.1,this.2.1.2,this.2.2.1⟩
def eb.wr(H:eb S i p h)(L:List D):k4 S (S.set p.l (.l (h.ls++L))) i p p (h.wr L):=by
 obtain⟨c,e,d⟩:=H.ns;exact H.E7 (by simp) rfl (by rw[akF c.symm];exact H.bs) (get_set H.ls) (by rw[akF d];exact H.rs)
def eb.row(H:eb S i p h)(r:D):k4 S (S.set p.r (.l (h.rs++[r]))) i p p (h.row r):=by
 obtain⟨e,c,d⟩:=H.ns;exact H.E7 (by simp) rfl (by rw[akF c.symm];exact H.bs) (by rw[akF d.symm];exact H.ls) (get_set H.rs)
def eb.bk(H:eb S i p h)(j:Nat)(b:D):k4 S (S.set p.b (.l (h.bs.set j b))) i p p (h.bk j b):=by
 obtain⟨d,c,e⟩:=H.ns;exact H.E7 (by simp) rfl (get_set H.bs) (by rw[akF d];exact H.ls) (by rw[akF c];exact H.rs)
def DO{f g:R->R->M R}{a b c:bw}{x y w r:R}(ag:aB S (a U) x)(ah:aB S (b U) y)(e:f x y=pure (.v (.ax true)))(d:aB S (c U) w)(aF:g y w=pure r):aB S (eI f g a b c U) r:=
 ag.bind (ah.bind ((aB.of e).bind ((aB.of (m:=R.oX (.v (.ax true))) (a:=true) rfl).bind (d.bind (.of aF)))))
def YY{n N:Nat}{b:aP}{ds xs:List D}(h:ds.length=n)(e:aB S (b (ds.map b6++akI (N-n) .e)) (.cx (.fr xs))):aB S (fnOf n N b ds) (.fr xs):=by
 rw[yr,if_pos h];exact e.bind (.of rfl)
def rr{i:Int}{v:D}(e:dY xs i=some v):aH (.mv xs) (.v (.int i))=pure (.v v):=by
 show(match dY xs i with|some d=>pure (R.v d)|none=>bad)=_;rw[e]
def YX{ms:c6}{a b:Int}(h:aB S (ms U) [.v (.int a),.v (.int b)])(e:vT [.v (.int a),.v (.int b)]=pure (.fr ys)):aB S (ye ms U) (.fr ys):=h.bind (.of e)
theorem ag5{mo:bw}{ms:c6}{xs ys:List D}{r:R}(ag:aB S (mo U) (.v (.ref i)))(ah:aB S (ms U) [r])(c:r.ft=some ys)(h:S[i]? = some (.l xs))(z:xs.length+ys.length<=akA):bC S (kX xe mo ms U) (.bu U) (S.set i (.l (xs++ys))):=
 ag.to.bind (ah.to.bind ((om h).to.bind ((aB.to (a:=(R.v .aI,xs++ys)) (.of (by show(match r.ft with|some ys=>_|none=>_)=_;rw[c];show(hx (xs.length+ys.length<=akA) >>= _)=_;rw[I8 z];rfl))).bind rfl)))
def Qb{mo mk:bw}{mv:d1}{xs:List D}{r:R}{d:D}{j:Nat}(c:bC S (mv U) r S1)(e:r.dat=pure d)(ag:aB S1 (mo U) (.v (.ref i)))(ah:aB S1 (mk U) (.v (.int j)))(h:S1[i]? = some (.l xs))(f:j<xs.length):bC S (uy mo mk mv U) (.bu U) (S1.set i (.l (xs.set j d))):=
 c.bind ((aB.of e).to.bind (ag.to.bind (ah.to.bind ((om h).to.bind (by show bC S1 (if 0<=(j:Int)/\(j:Int)<xs.length then _ else _) _ _;rw[if_pos ⟨by omega,by omega⟩];rfl)))))
def F8{mf:dX}{mo:bw}{ms:j4}{aW:List (Str×D)}{rs:List R}{r:R}(h:S[i]? = some (.bb c aW))(ag:aB S (mo U) (.v (.ref i)))(aA:aW.lookup m=none)(ah:bC S (ms U) rs S1)(ay:rs.all R.iW=true)(e:bC S1 (mf (.ref i::rs.map R.arg)) r a5):bC S (d5 c m mf mo ms U) r a5:=ag.to.bind ((om h).to.bind (by show bC S (if c=c/\aW.lookup m=none then _ else _) _ _;rw[if_pos ⟨rfl,aA⟩];exact ah.bind (by rw[if_pos ay];exact e)))
def F_{m:d1}{r:R}(h:bC S (m U) r S1):bC S (ux m ai U) [r] S1:=h.bind rfl
def l7(H:eb S i p h)(c:I k U=pure (.v (.ref i)))(e:p.aW.lookup f=some d):aB S (bf (bY "House" f) (I k) U) (.v d):=MW H.bb (.of c) e
def Z2(H:eb S i p h):aB S (kJ [.ref i]) (.v (.int h.ls.length)):=kd rfl (iU (rt rfl (bJ (jN H.ls (l7 H rfl rfl)) cK)))
def p0(H:eb S i p h)(c:I k U=pure (.v (.ref i))):aB S (c0 "House" "many" kJ (I k) ai U) (.v (.int h.ls.length)):=iv H.bb (.of c) rfl cK (Z2 H)
def D9(H:eb S i p h)(e:h.ls[k]? = some d):aB S (vZ [.ref i,.int k]) (.v d):=by
 have c:=(akw.mp e).1;exact kd rfl (zg (l_ (nv (jO (cF (fy (rs:=[.v (.int k)]) (.of rfl) (.of (o8 _))))) (jO (cF (DO (y:=.v (.int k)) (.of rfl) (.of rfl) (by show pure (R.v (.ax (decide ((0:Int)<=k))))=_;rw[decide_eq_true (by omega)]) (p0 H rfl) (r:=.v (.ax true)) (by show pure (R.v (.ax (decide ((k:Int)<h.ls.length))))=_;rw[decide_eq_true (by omega)]))))) (.of rfl))
  (iU (cz (rr (i7 k e)) (jN H.ls (l7 H rfl rfl)) (.of rfl))))
def Rl(H:eb S i p h)(e:p.q[k]? = some x):aB S (ow [.ref i,.int k]) (.v (.ref x.1)):=by
 have c:=(akw.mp e).1;exact kd rfl (zg (l_ (nv (jO (cF (fy (rs:=[.v (.int k)]) (.of rfl) (.of (o8 _))))) (jO (cF (DO (y:=.v (.int k)) (.of rfl) (.of rfl) (by show pure (R.v (.ax (decide ((0:Int)<=k))))=_;rw[decide_eq_true (by omega)]) (rt rfl (bJ (jN H.al (l7 H rfl rfl)) cK)) (r:=.v (.ax true)) (by show pure (R.v (.ax (decide ((k:Int)<((p.q.map λx=>aE.D.ref x.1).length:Nat)))))=_;rw[akz,decide_eq_true (by omega)]))))) (.of rfl))
  (iU (cz (rr (i7 k (by rw[akN,e];rfl))) (jN H.al (l7 H rfl rfl)) (.of rfl))))
def s'(H:eb S i p h)(e:p.q[k]? = some x)(c:I j U=pure (.v (.ref i)))(hl:I l U=pure (.v (.int k))):aB S (c0 "House" "asker_of" ow (I j) (aa (I l) ai) U) (.v (.ref x.1)):=iv H.bb (.of c) rfl (bJ (.of hl) cK) (Rl H e)
def Oh(A:dw S j g a):aB S (zB [.ref j]) (.v a.cw):=kd rfl (iU (c7 A rfl rfl))
def N2(A:dw S j g a):aB S (zA [.ref j]) (.v (.int a.wi)):=kd rfl (iU (c7 A rfl rfl))
def FE(A:dw S j g a):aB S (tm [.ref j]) (.v (.str a.bz)):=kd rfl (iU (c7 A rfl rfl))
def adH(A:dw S j g a):aB S (Ei [.ref j]) (.v (.t [.int a.cp,a.h,a.op])):=kd rfl (iU (l' (bJ (c7 A rfl rfl) (bJ (c7 A rfl rfl) (bJ (c7 A rfl rfl) cK))) rfl (ale rfl)))
def Zc(A:dw S j g a):aB S (Eg [.ref j]) (.v (.ax a.bR)):=kd rfl (iU (c7 A rfl rfl))
def vO{mf:bp}{r:R}(A:dw S j g a)(c:I l U=pure (.v (.ref j)))(aA:(a.aW g).lookup m=none)(e:aB S (mf [.ref j]) r):aB S (c0 "Asker" m mf (I l) ai U) r:=iv A.bb (.of c) aA cK e
theorem X6(H:eb S i p h)(e:h.as[k]? = some a):aB S (mh [.ref i,.int k]) (.v (.str a.bz)):=by
 obtain⟨x,ex,A⟩:=H.ex e;exact kd rfl (iU (iv A.bb (s' H ex rfl rfl) rfl cK (FE A)))
theorem X5(H:eb S i p h)(e:h.as[k]? = some a):aB S (v3 [.ref i,.int k]) (.v (.t [.int a.cp,a.h,a.op])):=by
 obtain⟨x,ex,A⟩:=H.ex e;exact kd rfl (iU (iv A.bb (s' H ex rfl rfl) rfl cK (adH A)))
theorem X3(H:eb S i p h)(e:h.as[k]? = some a):aB S (zD [.ref i,.int k]) (.v (.ax a.bR)):=by
 obtain⟨x,ex,A⟩:=H.ex e;exact kd rfl (iU (iv A.bb (s' H ex rfl rfl) rfl cK (Zc A)))
end
variable{S:bH}{i:Nat}{p:ig}{h:c2}
def XD(H:eb S i p h):aB S (Ek [.ref i]) (.fr h.rs):=YY rfl (zf (rt rfl (bJ (jN H.rs (l7 H rfl rfl)) cK)))
end dR
namespace dR
open PySem PySem.Spec aC aE i3 gf jt
section
variable{h h':c2}{k:Nat}{a b:bD}{Y:List D}{d:D}
def AU(h:c2)(L:List D)(hz:h.ls.length+L.length<=1000000):h.Do tn [.l L] (.fr (en h.ls.length L.length)) (h.wr L):=λS i p H=>by
 have W:=H.wr L;have j:(1000000:Int)<2 ^ 62:=by decide
 have g:1000000<=2 ^ 24:=by decide
 have c:∀n,n<=1000000->n<=akA:=λn aA=>by rw[ak2];omega
 have f:vT [.v (.int (h.ls.length:Nat)),.v (.int ((h.wr L).ls.length:Nat))]=pure (.fr (en h.ls.length L.length)):=by
  have e:(h.wr L).ls.length=h.ls.length+L.length:=akB;rw[TS,e,show(((h.ls.length+L.length:Nat):Int)-(h.ls.length:Nat)).toNat=L.length by omega,if_pos ⟨⟨by omega,by omega,by omega,by omega⟩,by omega,c _ (by omega)⟩];rfl
 exact⟨_,p,uz rfl<|dd (aB.to (h1 (p0 H rfl) rfl))<|dd (ag5 (l7 H rfl rfl) (bJ (x:=.bU L) (.of rfl) cK) rfl H.ls (c _ hz))<|aB.to (zf (YX (bJ (.of rfl) (bJ (p0 W.at' rfl) cK)) f)),W⟩
def Sn(e:h.as[k]? = some a)(g:a.Do ti [] Y b)(hz:h.ls.length+Y.length<=1000000):h.Do zC [.int k] (.fr (en h.ls.length Y.length)) ((h.put k b).wr Y):=λS i p H=>by
 obtain⟨x,ex,A⟩:=H.ex e;obtain⟨S1,n,m,l⟩:=g S x.1 x.2 A;have c:=H.step ex e l;obtain⟨f,cD,j,s2⟩:=AU (h.put k b) Y hz S1 i _ c.at';exact⟨f,cD,uz rfl (xr (F8 (rs:=[.fr Y]) H.bb (.of rfl) rfl (F_ (lE (rs:=[]) A.bb (s' H ex rfl rfl) rfl rfl rfl m)) rfl j)),c.trans s2⟩
def XZ(e:h.as[k]? = some a)(hd:b6 d=.v d)(g:a.Do zy [d] Y b)(hz:h.ls.length+Y.length<=1000000)(aD:h.rs.length<=100000) :
  h.Do p7 [.int k,d] (.fr (en h.ls.length Y.length)) (((h.put k b).row (.t [.str "begin",.int k,.int b.wi,d,.int h.ls.length])).wr Y):=λS i p H=>by
 obtain⟨x,ex,A⟩:=H.ex e;obtain⟨S1,r,m,j⟩:=g S x.1 x.2 A;have c:=H.step ex e j;have f:=c.at'.row (.t [.str "begin",.int k,.int b.wi,d,.int h.ls.length]);obtain⟨cI,q,n,s3⟩:=AU ((h.put k b).row _) Y hz _ i _ f.at';refine⟨cI,q,uz rfl ?_,(c.trans f).trans s3⟩;show bC S (He [.v (.ref i),.v (.int k),b6 d,.e,.e]) _ _;rw[hd];refine dd (U':=[.v (.ref i),.v (.int k),.v d,.v (.ref x.1),.e]) (aB.to (h1 (s' H ex rfl rfl) rfl)) ?_;refine dd (U':=[.v (.ref i),.v (.int k),.v d,.v (.ref x.1),.v (.l Y)]) (xu (lE (rs:=[.v d]) A.bb (.of rfl) rfl (aB.to (.of rfl)) rfl m) rfl) ?_;refine dd (xp (l7 c.at' rfl rfl) (bJ (l' (bJ (.of rfl) (bJ (.of rfl) (bJ (vO j.at' rfl rfl (N2 j.at')) (bJ (x:=.v d) (.of rfl) (bJ (p0 c.at' rfl) cK))))) rfl (ale rfl)) cK) c.at'.rs (by show h.rs.length < _;rw[ak2];omega)) ?_;exact xr (lE (rs:=[.v (.l Y)]) f.at'.bb (.of rfl) rfl (aB.to (.of rfl)) rfl n)
theorem afS{w x f b c y e s:D}(l:h.bs[k]? = some b)(g:mi [b,.t [w,x,.int k,e,s,f]]=pure (.v (.t [c,y]))) :
  h.Do vY [.t [w,x,.int k,e,s,f]] (.fr [y]) (h.bk k c):=λS i p H=>
 ⟨_,p,uz rfl<|dd (U':=[.v (.ref i),.v (.t [w,x,.int k,e,s,f]),.v (.t [c,y])]) (aB.to (h1 (fy (rs:=[.v b,.v (.t [w,x,.int k,e,s,f])]) (bJ (cz (rr (i7 k l)) (jN H.bs (l7 H rfl rfl)) (.of rfl)) (bJ (.of rfl) cK)) (.of g)) rfl))<|
  dd (Qb (j:=k) (aB.to (a:=.v c) (.of rfl)) rfl (l7 H rfl rfl) (.of rfl) H.bs (akw.mp l).1) (aB.to (.of rfl)),H.bk k c⟩
def afQ{w x f e s:D}(n:h.as[k]? = some a)(ay:a.j3)(F:b.j3)(g:a.Do kf [.t [w,x,.int k,e,s,f]] Y b)(aD:h.rs.length<=100000) :
  h.Do rC [.t [w,x,.int k,e,s,f]] (.v (.l Y)) (if(!(a.bz == "calm")&&(b.bz == "calm"))=true then(h.put k b).row (.t [.str "end",.int k,.int b.wi,b.cw,.int h.ls.length])else h.put k b):=λS i p H=>by
 obtain⟨q,ex,A⟩:=H.ex n;obtain⟨S1,G,E,r⟩:=g S q.1 q.2 A;have j:=H.step ex n r;have B:=r.at';have pre:∀{m:bH},bC S1 (Hg [.v (.ref i),.v (.t [w,x,.int k,e,s,f]),.v (.ref q.1),.v (.str a.bz),.v (.l Y)]) (.cx (.v (.l Y))) m->bC S (rC [.ref i,.t [w,x,.int k,e,s,f]]) (.v (.l Y)) m:=λt=>by
  refine r7 rfl ?_;refine dd (U':=[.v (.ref i),.v (.t [w,x,.int k,e,s,f]),.v (.ref q.1),.e,.e]) (aB.to (h1 (cz (rr (i7 k (by rw[akN,ex];rfl))) (jN H.al (l7 H rfl rfl)) (.of rfl)) rfl)) ?_;refine dd (U':=[.v (.ref i),.v (.t [w,x,.int k,e,s,f]),.v (.ref q.1),.v (.str a.bz),.e]) (aB.to (h1 (vO A rfl rfl (FE A)) rfl)) ?_;exact dd (U':=[.v (.ref i),.v (.t [w,x,.int k,e,s,f]),.v (.ref q.1),.v (.str a.bz),.v (.l Y)]) (xu (lE (rs:=[.v (.t [w,x,.int k,e,s,f])]) A.bb (.of rfl) rfl (aB.to (.of rfl)) rfl E) rfl) t
 have bf:aB S1 (aL (ae dI (I 3) (af (.str "calm"))) [.v (.ref i),.v (.t [w,x,.int k,e,s,f]),.v (.ref q.1),.v (.str a.bz),.v (.l Y)]) (!(a.bz == "calm")):=cF (cz (sy ay) (.of rfl) (.of rfl));have ae:aB S1 (aL (ae oEq (c0 "Asker" "stand" tm (I 2) ai) (af (.str "calm"))) [.v (.ref i),.v (.t [w,x,.int k,e,s,f]),.v (.ref q.1),.v (.str a.bz),.v (.l Y)]) (b.bz == "calm"):=cF (cz (calm_eq F) (vO B rfl rfl (FE B)) (.of rfl));have no:(!(a.bz == "calm")&&(b.bz == "calm"))=false->∃m y,bC S (rC [.ref i,.t [w,x,.int k,e,s,f]]) (.v (.l Y)) m/\k4 S m i p y (h.put k b):=λz=>by
  refine⟨_,_,pre (dd (mD (aB.to (a:=false) ?_) rfl) (aB.to (.of rfl))),j⟩
  cases au:(!(a.bz == "calm"))with
  |false=>rw[au]at bf;exact ll bf|true=>rw[au]at bf z;rw[Bool.true_and]at z;rw[z]at ae;exact hZ bf ae
 by_cases c:(!(a.bz == "calm")&&(b.bz == "calm"))=true
 .rw[if_pos c]
  rw[ak0]at c;rw[c.1]at bf;rw[c.2]at ae;have u:=j.at'.row (.t [.str "end",.int k,.int b.wi,b.cw,.int h.ls.length]);exact⟨_,_,pre (dd (mE (aB.to (hZ bf ae)) (xp (l7 j.at' rfl rfl) (bJ (l' (bJ (.of rfl) (bJ (.of rfl) (bJ (vO B rfl rfl (N2 B)) (bJ (vO B rfl rfl (Oh B)) (bJ (p0 j.at' rfl) cK))))) rfl (ale rfl)) cK) j.at'.rs (by show h.rs.length < _;rw[ak2];omega))) (aB.to (.of rfl))),j.trans u⟩
 .rw[if_neg c]
  exact no (by simpa using c)
def IY{S c:bH}(H:eb S i p h)(e:h.ls[k]? = some d)(t:bC S (Hf [.v (.ref i),.v (.int k),.v d]) (.cx (.fr Z)) c):bC S (p8 [.ref i,.int k]) (.fr Z) c:=
 uz rfl (dd (U':=[.v (.ref i),.v (.int k),.v d]) (aB.to (h1 (iv H.bb (.of rfl) rfl (bJ (x:=.v (.int k)) (.of rfl) cK) (D9 H e)) rfl)) t)
def SF(e:h.ls[k]? = some d)(q:ox [d]=pure (.v (.ax true)))(g:h.Do vY [d] (.fr Y) h')(hl:h'.ls=h.ls)(hz:h.ls.length+Y.length<=1000000):h.Do p8 [.int k] (.fr (en h.ls.length Y.length)) (h'.wr Y):=λS i p H=>by
 obtain⟨S1,p1,l,c⟩:=g S i p H;have w:=AU h' Y (by rw[hl];exact hz);rw[hl]at w;obtain⟨f,cD,j,s2⟩:=w S1 i p1 c.at';exact⟨f,cD,IY H e (xt (mE (aB.to (cF (fy (rs:=[.v d]) (.of rfl) (.of q)))) (xr (F8 (rs:=[.fr Y]) H.bb (.of rfl) rfl (F_ (lE (rs:=[.v d]) H.bb (.of rfl) rfl (aB.to (.of rfl)) rfl l)) rfl j)))),c.trans s2⟩
def SE(e:h.ls[k]? = some d)(q:ox [d]=pure (.v (.ax false)))(g:h.Do rC [d] (.v (.l Y)) h')(hl:h'.ls=h.ls)(hz:h.ls.length+Y.length<=1000000):h.Do p8 [.int k] (.fr (en h.ls.length Y.length)) (h'.wr Y):=λS i p H=>by
 obtain⟨S1,p1,m,c⟩:=g S i p H;have w:=AU h' Y (by rw[hl];exact hz);rw[hl]at w;obtain⟨f,cD,j,s2⟩:=w S1 i p1 c.at';exact⟨f,cD,IY H e (Ga (aB.to (cF (fy (rs:=[.v d]) (.of rfl) (.of q)))) (xr (F8 (rs:=[.v (.l Y)]) H.bb (.of rfl) rfl (F_ (lE (rs:=[.v d]) H.bb (.of rfl) rfl (aB.to (.of rfl)) rfl m)) rfl j))),c.trans s2⟩
end
def kN(n:Nat)(a:D):c2:=⟨(akR n).map λ(i:Nat)=>tM (i:Int) a,akI 6 (.t []),[],[]⟩
def iV(T n:Nat):List (Nat×Nat):=(akR n).map λj=>(T+2*j,T+2*j+1)
def wV(e:(iV T n)[k]? = some x):k<n/\x=(T+2*k,T+2*k+1):=by
 unfold iV at e;rw[akN]at e
 by_cases a:k<n
 .rw[amc a]at e;cases e;exact⟨a,rfl⟩
 .rw[List.getElem?_eq_none (by simpa using a)]at e;cases e
theorem NM(cX:b6 hall=.v hall):∀(n m:Nat)(T:bH),∃a,bC T (AX (o_ "Asker" th (ez (aa (I 0) (aa (I 1) ai)))) [.e,.v hall] ((List.range' m n).map λ(i:Nat)=>D.int (i:Int))) ((iV T.length n).map λx=>.ref x.1) a/\Fr [] T a/\a.length=T.length+2*n/\
  ∀j,j<n->dw a (T.length+2*j) (T.length+2*j+1) (tM ((m+j:Nat):Int) hall)
 |0,m,T=>⟨T,rfl,.refl,rfl,λj d=>absurd d (al2 _)⟩
 |n+1,m,T=>by
  obtain⟨c,l,A,f,k⟩:=Yu T (m:Int) hall cX;obtain⟨g,h,b,p,B⟩:=NM cX n (m+1) c;have mk:bC T (o_ "Asker" th (ez (aa (I 0) (aa (I 1) ai))) [.v (.int m),.v hall]) (.v (.ref T.length)) c:=Qc (rs:=[.v (.int m),.v hall]) (.of rfl) rfl l;have eq:iV T.length (n+1)=(T.length,T.length+1)::iV c.length n:=by
   unfold iV;rw[List.range_succ_eq_map,akO,amq,f];refine List.cons_eq_cons.mpr ⟨rfl,anj λj _=>?_⟩;show(T.length+2*(j+1),T.length+2*(j+1)+1)=_;rw[show T.length+2*(j+1)=T.length+2+2*j by omega]
  refine⟨g,?_,k.trans b,by omega,λj d=>?_⟩
  .rw[eq,List.range'_succ]
   exact mk.bind (h.bind rfl)
  .cases j with
   |zero=>exact⟨b _ _ alo A.bb,b _ _ alo A.ls⟩|succ j=>
    have:=B j (by omega);rw[f,show m+1+j=m+(j+1)by omega,show T.length+2+2*j=T.length+2*(j+1)by omega]at this;exact this
def Ae{σ a:bH}{aW:List (Str×D)}{m:d1}(g:bC σ (m U) (.fr xs) a)(hi:a[i]? = some (.bb "House" aW))(d:I 0 U=pure (.v (.ref i)))(hl:aW.length<1000):∃b,bC σ (dP "House" f (I 0) (jU m) U) (.bu U) b/\b[i]? = some (.bb "House" (h5 f (.ref a.length) aW))/\b[a.length]? = some (.l xs)/\(∀y o,y≠i->a[y]? = some o->b[y]? = some o)/\b.length=a.length+1:=by
 have c:(a++[fZ.l xs])[i]? = some (.bb "House" aW):=Fr.app (W:=[]) _ _ alo hi;have aA:bC σ (jU m U) (.v (.ref a.length)) (a++[fZ.l xs]):=bC.bind g (show bC a (do let S <-yJ;putN (S++[fZ.l xs]);pure (R.v (D.ref S.length))) _ _ from rfl);refine⟨_,x_at aA rfl (.of d) c hl,get_set c,?_,λy o h e=>?_,by rw[ak8,akB];rfl⟩
 .rw[akF (alc (jd hi)),yK]
 .rw[akF (am9 h)]
  exact Fr.app (W:=[]) _ _ alo e
def X2(S:bH){n:Nat}(ag:1<=n)(gM:n<=6){b:D}(cX:b6 b=.v b)(q:qa [b]=pure (.v (.ax true))):∃d p,bC (S++[.bb "House" []]) (Ej [.ref S.length,b,.int n]) (.v .aI) d/\eb d S.length p (kN n b)/\Fr [] S d/\S.length<=d.length/\∀y,p.has S.length y->S.length<=y:=by
 have y_:(S++[fZ.bb "House" []])[S.length]? = some (.bb "House" []):=yK;have ru:(S++[fZ.bb "House" []]).length=S.length+1:=by rw[akB];rfl
 obtain⟨h,K,N,bP,A⟩:=NM cX n 0 (S++[.bb "House" []]);rw[ru]at K bP A;have bf:bC (S++[fZ.bb "House" []]) (xm 1 [1] (iu (aa (I 2) ai)) (o_ "Asker" th (ez (aa (I 0) (aa (I 1) ai)))) [.v (.ref S.length),.v b,.v (.int n)]) (.fr ((iV (S.length+1) n).map λx=>.ref x.1)) h:=by
  have V:-4611686018427387904<=(n:Int)/\(n:Int)<4611686018427387904:=by omega
  have iO:((List.range' 0 n).map λ(i:Nat)=>D.int (i:Int))=en 0 n:=by
   rw[<-List.range_eq_range'];exact anj λi _=>by rw[Int.zero_add]
  rw[iO]at K;refine bC.bind (a:=en 0 n) (aB.to (.of (by simp[V]))) ?_;rw[if_pos (by rw[ql,ak2];omega)];exact K.bind rfl
 obtain⟨G,eo,eY,a2,d2,cj⟩:=Ae (f:="askers") bf (N _ _ alo y_) rfl (md rfl);have eI:aB G (fl 1 [] (iu (aa (af (.int 6)) ai)) fJ (bO ai) [.v (.ref S.length),.v b,.v (.int n)]) (.fr (akI 6 (.t []))):=.of (ym (ds:=en 0 6) rfl (by rw[ql,ak2];omega) rfl);obtain⟨u,t3,Q,fE,P,J⟩:=Ae (f:="books") (m:=dr (fl 1 [] (iu (aa (af (.int 6)) ai)) fJ (bO ai))) eI.to eY rfl (md rfl);obtain⟨L,T,X,iJ,H,ajZ⟩:=Ae (σ:=u) (U:=[.v (.ref S.length),.v b,.v (.int n)]) (f:="letters") (m:=dr (eu ai)) (xs:=[]) rfl Q rfl (md rfl);obtain⟨M,w,Y,jy,s,C⟩:=Ae (σ:=L) (U:=[.v (.ref S.length),.v b,.v (.int n)]) (f:="rows") (m:=dr (eu ai)) (xs:=[]) rfl X rfl (md rfl);have up:∀y o,y≠S.length->h[y]? = some o->M[y]? = some o:=λy o l e=>s y o l (H y o l (P y o l (d2 y o l e)))
 have F:h.length≠S.length:=by omega
 have O:G.length≠S.length:=by omega
 have kL:u.length≠S.length:=by omega
 refine⟨M,⟨h.length,G.length,u.length,L.length,iV (S.length+1) n⟩,F7 (U':=[.v (.ref S.length),.v b,.v (.int n)]) rfl ?_,⟨Y,s _ _ F (H _ _ F (P _ _ F a2)),s _ _ O (H _ _ O fE),s _ _ kL iJ,jy,?_,λk x a ex g=>?_,?_,λx E=>?_,λj k x y jC ip ne=>?_⟩,λj o a_ e=>up j o (by have:=jd e;omega) (N _ _ alo (Fr.app (W:=[]) _ _ alo e)),by omega,λy Z=>?_⟩
 .show bC _ (Hd [.v (.ref S.length),b6 b,.v (.int n)]) _ _
  rw[cX];refine Gb (jO (cF (fy (rs:=[.v b]) (.of rfl) (.of q)))) ?_;refine Gb (nv (jO (cF (fy (rs:=[.v (.int n)]) (.of rfl) (.of (o8 _))))) (jO (cF (DO (y:=.v (.int n)) (.of rfl) (.of rfl) (by show pure (R.v (.ax (decide ((1:Int)<=n))))=_;rw[decide_eq_true (by omega)]) (.of rfl) (r:=.v (.ax true)) (by show pure (R.v (.ax (decide ((n:Int)<=6))))=_;rw[decide_eq_true (by omega)]))))) ?_;exact dd eo (dd t3 (dd T w))
 .unfold iV kN;simp
 .obtain⟨c,rfl⟩:=wV ex
  have g:((akR n).map λ(i:Nat)=>tM (i:Int) b)[k]? = some a:=g;rw[akN,amc c]at g;cases g;have B:=A k c;rw[amQ]at B;exact⟨up _ _ (by show _+1+2*k≠_;omega) B.bb,up _ _ (by show _+1+2*k+1≠_;omega) B.ls⟩
 .simp only[alx,akP,alo,or_false,not_or,not_false_eq_true,aoj,and_true]
  omega
 .obtain⟨k,c⟩:=anW.mp E
  obtain⟨c,rfl⟩:=wV c;simp only[akP,alo,or_false,not_or];omega
 .obtain⟨_,rfl⟩:=wV jC
  obtain⟨_,rfl⟩:=wV ip;constructor<;>dsimp only<;>omega
 .rcases Z with z|z|⟨x,E,z⟩
  .omega
  .simp only[akP,alo,or_false]at z
   omega
  .obtain⟨k,c⟩:=anW.mp E
   obtain⟨c,rfl⟩:=wV c;rcases z with z|z<;>rw[z]<;>dsimp only<;>omega
abbrev mS:=fs.κ.toKeyOrd
structure c9 where
 cs:si
 ds:List (Int×D)
 f:Int
 t:D
 aU:D
def c9.D(s:c9):aE.D:=.t [.t (s.cs.map (·.2)),.t (s.ds.map (·.2)),.t [.int s.f,s.t],s.aU]
inductive cN where
 |put (a:List Nat) (n:Int)|add (a:List Nat) (n:Int)|swap (a:List Nat) (o n:Int)|take (g:Int)|renew (g:Int)|free (g:Int)|sure (g:Int) (a:List Nat) (n:Int)|move (h:D)|fin
def cN.D:cN->aE.D
 |.put a n=>.t [.str "put",.str (bg a),.int n]|.add a n=>.t [.str "add",.str (bg a),.int n]|.swap a o n=>.t [.str "swap",.str (bg a),.int o,.int n]|.take g=>.t [.str "take",.int g]|.renew g=>.t [.str "renew",.int g]|.free g=>.t [.str "free",.int g]|.sure g a n=>.t [.str "sure",.int g,.str (bg a),.int n]|.move h=>.t [.str "move",h]|.fin=>.t [.str "end"]
def dp:Option cN->aE.D
 |none=>.aI|some d=>d.D
def c9.cell(s:c9)(a:List Nat):Int:=k9 (fo (Q:=e7) s.cs a)
def c9.put(s:c9)(a:List Nat)(n:Int):c9:={ s with cs:=kU s.cs a n }
def c9.tF(s:c9)(g i:Int):Bool:=s.f==g&&eT s.t (.int i)
def eG(s:c9)(i:Int):cN->c9×aE.D
 |.put a n=>(s.put a n,.int (s.cell a))
 |.add a n=>(s.put a (s.cell a+n),.int (s.cell a+n))
 |.swap a o n=>if s.cell a=o then(s.put a n,.int 1)else(s,.int 0)
 |.take g=>if s.f=g then({ s with f:=g+1,t:=.int i },.t [.int 1,.int (g+1),.int i])else(s,.t [.int 0,.int s.f,s.t])
 |.renew g=>if s.tF g i=true then({ s with f:=g+1,t:=.int i },.t [.int 1,.int (g+1),.int i])else(s,.t [.int 0,.int s.f,s.t])
 |.free g=>if s.tF g i=true then({ s with f:=g+1,t:=.aI },.t [.int 1,.int (g+1),.aI])else(s,.t [.int 0,.int s.f,s.t])
 |.sure g a n=>if s.tF g i=true then(s.put a n,.int 1)else(s,.int 0)
 |.move h=>({ s with aU:=h },.int 1)
 |.fin=>({ s with aU:=.str "over" },.int 1)
structure fP(G:aE.D->Prop)(W:List (List Nat))(s:c9):Prop where
 row:∀x∈s.cs,lH x
 rise:k5 e7 s.cs
 nm:∀x∈s.cs,x.1∈W
 num:∀x∈s.ds,qG x
 n4:k5 mS s.ds
 b_:∀x∈s.ds,0<=x.1/\x.1<6
 ew:s.t=.aI\/∃i:Int,s.t=.int i
 aU:s.aU=.aI\/s.aU=.str "over"\/(∃xs,s.aU=.t xs)/\G s.aU
 q0:∀x∈s.ds,aE.Ok 2 x.2
def jr(G:aE.D->Prop)(W:List (List Nat)):cN->Prop
 |.put a _=>lN a/\a∈W|.add a _=>lN a/\a∈W|.swap a _ _=>lN a/\a∈W|.sure _ a _=>lN a/\a∈W|.move h=>(∃xs,h=.t xs)/\G h|_=>True
def aeL{z:Int}(b:0<=z)(a:z<6):z∈([0,1,2,3,4,5]:List Int):=by
 have e:z=0\/z=1\/z=2\/z=3\/z=4\/z=5:=by omega
 rcases e with e|e|e|e|e|e<;>rw[e]<;>simp
section
variable{G:aE.D->Prop}{W:List (List Nat)}{s:c9}(h:fP G W s)
include h
theorem fP.cl:s.cs.length<=W.length:=by
 have:=al3 (l₂:=W) h.rise.nodup λx b=>by
  obtain⟨y,a,rfl⟩:=ak5.mp b;exact h.nm y a
 rwa[akz]at this
theorem fP.dl:s.ds.length<=6:=by
 have:=al3 (l₂:=([0,1,2,3,4,5]:List Int)) h.n4.nodup λx b=>by
  obtain⟨y,a,rfl⟩:=ak5.mp b;exact aeL (h.b_ y a).1 (h.b_ y a).2
 rw[akz]at this;exact this
theorem fP.cg:s.t.b3 63=true:=by rcases h.ew with e|⟨i,e⟩<;>rw[e]<;>rfl
theorem fP.ss:b6 s.aU=.v s.aU:=by rcases h.aU with e|e|⟨⟨xs,e⟩,_⟩<;>rw[e]<;>rfl
theorem acC(b:W.length<63)(i:Int)(hd:jr G W d):e_ [s.D,.int i,d.D]=pure (.v (.t [(eG s i d).1.D,(eG s i d).2])):=by
 have hl:s.cs.length<63:=by have:=h.cl;omega
 have cg:=h.cg;obtain⟨cs,ds,f,t,aU⟩:=s
 cases d with
 |put a n=>exact acR h.row h.rise hl _ _ _ hd.1 n i|add a n=>exact acN h.row h.rise hl _ _ _ hd.1 n i|swap a o n=>
  refine(acU h.row h.rise hl _ _ _ hd.1 n i o).trans ?_;unfold eG c9.cell;dsimp only
  by_cases c:k9 (fo (Q:=e7) cs a)=o
  .rw[if_pos c,if_pos c];rfl
  .rw[if_neg c,if_neg c];rfl
 |take g=>
  refine(acV _ _ _ i f g t).trans ?_;unfold eG;dsimp only
  by_cases c:f=g
  .rw[if_pos c,if_pos c];rfl
  .rw[if_neg c,if_neg c];rfl
 |renew g=>
  refine(acS _ _ _ i f g t cg).trans ?_;unfold eG c9.tF;dsimp only
  by_cases c:(f==g&&eT t (.int i))=true
  .rw[if_pos c,if_pos c];rfl
  .rw[if_neg c,if_neg c];rfl
 |free g=>
  refine(acP _ _ _ i f g t cg).trans ?_;unfold eG c9.tF;dsimp only
  by_cases c:(f==g&&eT t (.int i))=true
  .rw[if_pos c,if_pos c];rfl
  .rw[if_neg c,if_neg c];rfl
 |sure g a n=>
  refine(acT h.row h.rise hl _ _ hd.1 n i f g t cg).trans ?_;unfold eG c9.tF;dsimp only
  by_cases c:(f==g&&eT t (.int i))=true
  .rw[if_pos c,if_pos c];rfl
  .rw[if_neg c,if_neg c];rfl
 |move z=>
  obtain⟨⟨xs,rfl⟩,_⟩:=hd;exact acQ _ _ _ _ i _ rfl
 |fin=>exact acO _ _ _ _ i
end
def c9.last(s:c9)(i:Int):Int:=rF (fo (Q:=mS) s.ds i)
def pL(s:c9)(i n:Int):Option cN->c9
 |none=>s|some d=>if(eS s.aU)=true/\s.last i<n then{ (eG s i d).1 with ds:=kj (Q:=mS) s.ds (i,.t [.int i,.int n,(eG s i d).2]) }else s
def acA(s:c9)(i:Int)(d:cN):(eG s i d).1.ds=s.ds:=by
 cases d<;>unfold eG<;>first|rfl|(dsimp only;split<;>rfl)
section
variable{G:aE.D->Prop}{W:List (List Nat)}{s:c9}(h:fP G W s)
include h
theorem acI(i:Int)(d:cN):b6 (eG s i d).2=.v (eG s i d).2:=by
 cases d<;>unfold eG<;>first|rfl|(dsimp only;split<;>rfl)
theorem TN(q:W.length<63)(i n:Int)(hd:∀x,d=some x->jr G W x):nz [s.D,.int i,.int n,dp d]=pure (.v (pL s i n d).D):=by
 cases d with
 |none=>exact K6 h.num _ _ _ i n .aI rfl (.inl rfl)|some d=>
  have hd:=hd d rfl;unfold pL;dsimp only;have qZ:∃xs,d.D=.t xs:=by cases d<;>exact⟨_,rfl⟩
  obtain⟨xs,qZ⟩:=qZ
  by_cases c:(eS s.aU)=true/\s.last i<n
  .rw[if_pos c]
   have a:=acC h q i hd;have b:=acA s i d;have os:=acI h i d;have g:s.aU=.aI:=by
    rcases h.aU with e|e|⟨⟨xs,e⟩,_⟩
    .exact e
    .rw[e]at c;cases c.1
    .rw[e]at c;cases c.1
   have r:=h.dl;have k:=h.n4.nodup;have l:=h.num;generalize eG s i d=o at *;obtain⟨⟨j,m,p,t',sh'⟩,v⟩:=o;obtain⟨cs,ds,f,t,aU⟩:=s;dsimp only at b os g a r ⊢;subst b g;show nz [_,_,_,d.D]=_;unfold c9.D at a ⊢;dsimp only at a ⊢;rw[qZ]at a ⊢;have au:=TM l (.t (cs.map (·.2))) (.t [.int f,t]) i n xs c.2 (show m.length<63 by omega) k (c':=.t (j.map (·.2))) (le':=.t [.int p,t']) (sh':=sh') (v:=v);exact au a os
  .rw[if_neg c]
   show nz [_,_,_,d.D]=_;rw[qZ];refine K6 h.num _ _ _ i n (.t xs) rfl (.inr ⟨⟨_,rfl⟩,?_⟩);rcases h.aU with e|e|⟨⟨zs,e⟩,_⟩
   .refine .inr (.inr ⟨e,?_⟩)
    rw[e]at c;have:¬s.last i<n:=λz=>c ⟨rfl,z⟩
    unfold c9.last at this;omega
   .exact .inl e
   .exact .inr (.inl ⟨zs,e⟩)
end
section
variable{G:aE.D->Prop}{W:List (List Nat)}{s:c9}(h:fP G W s)
include h
theorem fP.put(c:lN a)(hw:a∈W)(n:Int):fP G W (s.put a n) where
 row:=agj h.row c n
 rise:=agi h.rise a n
 nm:=λx b=>by
  have b:x∈kU s.cs a n:=b;unfold kU at b;split at b
  .exact h.nm x ((va (Q:=e7)).mp b).1
  .rcases(t2 (Q:=e7)).mp b with⟨b,_⟩|rfl
   .exact h.nm x b
   .exact hw
 num:=h.num
 n4:=h.n4
 b_:=h.b_
 ew:=h.ew
 aU:=h.aU
 q0:=h.q0
theorem fP.lease(f:Int)(a:t=.aI\/∃i:Int,t=.int i):fP G W { s with f:=f,t:=t }:=⟨h.row,h.rise,h.nm,h.num,h.n4,h.b_,a,h.aU,h.q0⟩
theorem fP.shut{z:aE.D}(hz:z=.aI\/z=.str "over"\/(∃xs,z=.t xs)/\G z):fP G W { s with aU:=z }:=⟨h.row,h.rise,h.nm,h.num,h.n4,h.b_,h.ew,hz,h.q0⟩
theorem acF(i:Int)(hd:jr G W d):fP G W (eG s i d).1:=by
 cases d with
 |put a n=>exact h.put hd.1 hd.2 n|add a n=>exact h.put hd.1 hd.2 _|swap a o n=>
  unfold eG;dsimp only;split
  .exact h.put hd.1 hd.2 n
  .exact h
 |take g=>
  unfold eG;dsimp only;split
  .exact h.lease _ (.inr ⟨_,rfl⟩)
  .exact h
 |renew g=>
  unfold eG;dsimp only;split
  .exact h.lease _ (.inr ⟨_,rfl⟩)
  .exact h
 |free g=>
  unfold eG;dsimp only;split
  .exact h.lease _ (.inl rfl)
  .exact h
 |sure g a n=>
  unfold eG;dsimp only;split
  .exact h.put hd.1 hd.2 n
  .exact h
 |move z=>exact h.shut (.inr (.inr hd))|fin=>exact h.shut (.inr (.inl rfl))
theorem acz(i:Int)(d:cN):aE.Ok 1 (eG s i d).2:=by
 have b:aE.Ok 0 s.t:=by
  rcases h.ew with e|⟨i,e⟩
  .rw[e];exact oK
  .rw[e];exact dS
 cases d with
 |put a n=>exact dS|add a n=>exact dS|swap a o n=>
  unfold eG;dsimp only;split<;>exact dS
 |take g=>
  unfold eG;dsimp only;split
  .exact nE dS dS dS
  .exact nE dS dS b
 |renew g=>
  unfold eG;dsimp only;split
  .exact nE dS dS dS
  .exact nE dS dS b
 |free g=>
  unfold eG;dsimp only;split
  .exact nE dS dS oK
  .exact nE dS dS b
 |sure g a n=>
  unfold eG;dsimp only;split<;>exact dS
 |move z=>exact dS|fin=>exact dS
theorem K5{i:Int}(c:0<=i)(b:i<6)(n:Int)(hd:∀x,d=some x->jr G W x):fP G W (pL s i n d):=by
 cases d with
 |none=>exact h|some d=>
  have o:=acF h i (hd d rfl);unfold pL;dsimp only;split
  .refine⟨o.row,o.rise,o.nm,?_,?_,?_,o.ew,o.aU,?_⟩
   .exact abV h.num i n _
   .exact E_ _ h.n4.nodup
   .intro x a
    rcases(t2 (Q:=mS)).mp a with⟨a,_⟩|rfl
    .exact h.b_ x a
    .exact⟨c,b⟩
   .intro x a
    rcases(t2 (Q:=mS)).mp a with⟨a,_⟩|rfl
    .exact h.q0 x a
    .exact nE dS dS (acz h i d)
  .exact h
def c9.df(s:c9)(i:Int):aE.D:=match fo (Q:=mS) s.ds i with
 |some (.t [_,_,z])=>z|_=>.aI
def c9.jg(s:c9):Bool:=match s.aU with
 |.str _=>true|_=>false
theorem TL(i:Int):p_ [s.D,.int i]=pure (.v (.t [.int i,.int (s.last i),s.df i])):=by
 have e:=Cu (λx a=>(h.num x a).pK) (.t (s.cs.map (·.2))) (.t [.int s.f,s.t]) s.aU i;refine e.trans ?_;unfold c9.last c9.df
 cases q:fo (Q:=fs.κ.toKeyOrd) s.ds i with
 |none=>rfl|some d=>
  obtain⟨n,z,e⟩:=h.num _ (vj q);have e:d=.t [.int i,.int n,z]:=e;subst e;rfl
omit h in
theorem aeK(s:c9):oB [s.D]=pure (.v s.aU):=by unfold c9.D;simp[oB,BW]
omit h in
theorem MM(s:c9):mj [s.D]=pure (.v (.ax (!eS s.aU))):=by
 have:=vL (.t (s.cs.map (·.2))) (.t (s.ds.map (·.2))) (.t [.int s.f,s.t]) s.aU;exact this.trans (wF s.aU)
def c9.kh(s:c9):c9:={ s with aU:=.aI }
omit h in
theorem acu(s:c9):tD [s.D]=pure (.v s.kh.D):=by
 have:=F2 (.t (s.cs.map (·.2))) (.t (s.ds.map (·.2))) (.t [.int s.f,s.t]) s.aU .aI rfl;unfold c9.D c9.kh;simp[tD,Iv,this]
theorem fP.kh:fP G W s.kh:=h.shut (.inl rfl)
theorem fP.ok(f:W.length<=1000)(c:∀z,G z->aE.Ok 9 z):aE.Ok 10 s.D:=by
 have d:=h.cl;have hd:=h.dl;refine ET (n:=9) (rM (n:=3) (rN (n:=2) (by rw[akz];omega) λx b=>?_) (by decide)) (rM (n:=3) (rN (n:=2) (by rw[akz];omega) λx b=>?_) (by decide)) (rM (n:=1) (mr dS ?_) (by decide)) ?_
 .obtain⟨y,a,rfl⟩:=ak5.mp b
  obtain⟨w,n,_,e⟩:=h.row y a;rw[e];exact rM (n:=1) (mr (hH w.1) dS) (by decide)
 .obtain⟨y,a,rfl⟩:=ak5.mp b
  exact h.q0 y a
 .rcases h.ew with e|⟨i,e⟩
  .rw[e];exact oK
  .rw[e];exact dS
 .rcases h.aU with e|e|⟨_,g⟩
  .rw[e];exact oK
  .rw[e];exact hH (by decide +kernel)
  .exact c _ g
end
end dR
namespace dR
open PySem PySem.Spec aC aE
def Oo(bk:List dq)(e:Int):wk [.t (bk.map dF),.int e]=pure (.v (.t [bK (e' bk e).p1 (e' bk e).cD,bK (e' bk e).ej (e' bk e).d2,(e' bk e).ba])):=by
 have cut:∀g:dq,oJ (.v (dF g)) (some 1) none=pure (.v (.t [bK g.p1 g.cD,bK g.ej g.d2,g.ba])):=λg=>by
  unfold dF;rw[Lb,if_neg (by simp only[alb,alQ];decide)];rfl
 have L:=sL (b:=λd U=>zp (U.set 2 (.v d))) dF (λg=>g.e==e) (λg=>.v (.t [bK g.p1 g.cD,bK g.ej g.d2,g.ba])) (λU=>∃s2,U=[.v (.t (bk.map dF)),.v (.int e),s2]) bk [.v (.t (bk.map dF)),.v (.int e),.e] ⟨_,rfl⟩
  (λg U _ ⟨s2,a⟩=>by
   subst a;have eZ:aH (.v (dF g)) (.v (.int 0))=pure (.v (.int g.e)):=by unfold dF;simp
   refine⟨λh=>?_,λh=>⟨[.v (.t (bk.map dF)),.v (.int e),.v (dF g)],?_,_,rfl⟩⟩
   .simp only[zp]
    simp[eZ,cut,eq_of_beq h]
   .have h':¬g.e=e:=by simpa using h
    simp only[zp];simp[eZ,h'])
 simp only[wk,Iw,Iy];unfold e'
 cases h:bk.find? (λg=>g.e==e)with
 |some g=>
  have:=L.1 g h;simp[this]
 |none=>
  obtain⟨U',c,s2,rfl⟩:=L.2 h;simp[c,blank,bK]
def Zl(g:dq):fnOf 1 1 (aY (ae aH (I 0) (af (.int 0)))) [dF g]=pure (.v (.int g.e)):=by
 unfold dF;simp
def P5{bk:List dq}(g:dq)(aA:(bk.map dq.e).Nodup)(hl:bk.length<63)(ay:b6 g.ba=.v g.ba):wm [.t (bk.map dF),.int g.e,bK g.p1 g.cD,bK g.ej g.d2,g.ba]=pure (.v (.t (oQ (putL bk g)))):=by
 have c:gn (aL (ae dI (ae aH (I 0) (af (.int 0))) (I 1))) (I 0) [.e,.v (.int g.e)] (bk.map dF)=pure ((bk.filter λh=>!(h.e==g.e)).map dF):=
  n2 dF (λh=>!(h.e==g.e)) dF bk (λh _=>by
   have eZ:aH (.v (dF h)) (.v (.int 0))=pure (.v (.int h.e)):=by unfold dF;simp
   simp[eZ]) λh _ _=>by simp
 have i:bk.length<akA:=fU (by omega);have k:=aml (λh:dq=>!(h.e==g.e)) bk;have f:(bk.filter λh=>!(h.e==g.e)).length<akA:=fU (by omega);have pl:=OM bk g;have dT:n8 fs (fnOf 1 1 (aY (ae aH (I 0) (af (.int 0))))) (.mv ((bk.filter λh=>!(h.e==g.e)).map dF++[dF g]))=pure (.fr (oQ (putL bk g))):=
  aeW Zl (by show some _=some _;unfold putL;rw[al1];rfl) (ON aA) (by omega)
 have d:dF g=.t [.int g.e,bK g.p1 g.cD,bK g.ej g.d2,g.ba]:=rfl;have j:∀a b,b6 (bK a b)=.v (bK a b):=λ_ _=>rfl
 simp only[wm,BZ,IH,II];rw[d]at dT;simp[j,ay,c,i,f,dT]
def xZ(w:Str)(a b e s l:D)(d:D)(c:D)(f:b6 d=.v d)(g:b6 c=.v c):v7 [.t [.str w,a,b,e,s,l],d,c]=pure (.v (.t [d,b,a,e,s,c])):=by
 exact hR rfl (jj (by simp[f,g]))
def Xn{bk:List dq}(aD:lM bk)(hl:bk.length<63)(j:∀g∈bk,b6 g.ba=.v g.ba)(e b s2:Int)(a k:D)(l:D) :
  mi [.t (bk.map dF),.t [.str "ask",a,k,.int e,bK b s2,l]]=pure (.v (if lexLe [b,s2] [(e' bk e).p1,(e' bk e).cD]=true then .t [.t (bk.map dF),.t [.str "late",k,a,.int e,bK b s2,.t [bK (e' bk e).p1 (e' bk e).cD]]]
   else .t [.t (oQ (putL bk ⟨e,b,s2,(e' bk e).ej,(e' bk e).d2,(e' bk e).ba⟩)),.t [.str "grant",k,a,.int e,bK b s2,.t [bK (e' bk e).ej (e' bk e).d2,(e' bk e).ba]]])):=by
 have kQ:=Oo bk e;have c:b6 (e' bk e).ba=.v (e' bk e).ba:=by
  unfold e'
  cases q:bk.find? (λx=>x.e==e)with
  |none=>rfl|some g=>exact j g (find_eq q).2
 generalize e' bk e=g at kQ c ⊢;have m:=P5 (bk:=bk) ⟨e,b,s2,g.ej,g.d2,g.ba⟩ aD.nodup hl c;have cut:oJ (.v (.t [bK g.p1 g.cD,bK g.ej g.d2,g.ba])) (some 1) none=pure (.v (.t [bK g.ej g.d2,g.ba])):=by
  rw[Lb,if_neg (by simp only[alb,alQ];decide)];rfl
 have f:=xZ "ask" a k (.int e) (bK b s2) l (.str "late") (.t [bK g.p1 g.cD]) rfl rfl;have i:=xZ "ask" a k (.int e) (bK b s2) l (.str "grant") (.t [bK g.ej g.d2,g.ba]) rfl rfl;have br:oEq (.v (.str "ask")) (.v (.str "ask"))=pure (.v (.ax true)):=eq_str (by decide +kernel);have pre:∀{d},Hy [.v (.t (bk.map dF)),.v (.t [.str "ask",a,k,.int e,bK b s2,l]),.v (bK b s2),.v (.t [bK g.p1 g.cD,bK g.ej g.d2,g.ba])]=pure (.cx (.v d))->mi [.t (bk.map dF),.t [.str "ask",a,k,.int e,bK b s2,l]]=pure (.v d):=λh=>
  hR rfl (st (iL (fj br rfl rfl)) (jj (call_of rfl (hR rfl (cR rfl (cR (km (call_of rfl kQ)) h))))))
 cases hle:lexLe [b,s2] [g.p1,g.cD]with
 |true=>exact pre (st (congrArg pure hle) (jj (call_of rfl (hR rfl (jj (r0 rfl (call_of rfl f)))))))|false=>exact pre (fC (congrArg pure hle) (jj (r0 (call_of rfl m) (call_of (cons_of rfl (cons_of rfl (cons_of cut rfl))) i))))
end dR
namespace dR
open PySem PySem.Spec aC aE i3 gf jt
structure gI(h:aE.D):Prop where
 ex:∃ms fa fk,nP h ms fa fk
 no:oEq (.v h) (.v (.str "over"))=pure (.v (.ax false))
 ok:aE.Ok 9 h
structure e4 where
 W:List (List Nat)
 na:Nat
 mV:Int->Int->Option cN->Prop
 E:Int->c9->Prop
structure e4.Ok(Γ:e4):Prop where
 w:Γ.W.length<63
 n:Γ.na<=6
 done:∀{e s i n d},fP gI Γ.W s->Γ.E e s->Γ.mV i n d->Γ.E e (pL s i n d)
 kh:∀{e s},fP gI Γ.W s->Γ.E e s->(∃xs,s.aU=.t xs)->Γ.E (e+1) s.kh
 hv:∀{e s},Γ.E e s->0<=e/\e<=60
 ix:∀{i n d x},Γ.mV i n d->d=some x->jr gI Γ.W x
def e4.S(Γ:e4)(e:Int)(w:aE.D):Prop:=∃s,fP gI Γ.W s/\Γ.E e s/\w=s.D
def c9.slot(s:c9):b6 s.D=.v s.D:=rfl
def PW(d:Option cN):b6 (dp d)=.v (dp d):=by
 cases d with
 |none=>rfl|some d=>cases d<;>rfl
structure fv(Γ:e4)(a:bD)(k:Nat):Prop where
 me:a.me=k
 lt:k < Γ.na
 bz:a.j3
 hl:gI a.h
 op:Γ.S a.cp a.op
 dD:∃d,a.dD=dp d/\(a.bz≠"calm"->Γ.mV k a.wi d)
 b0:a.bz="asking"->(∀g∈a.b0,g.k<6/\(g.s=(0,0)\/Γ.S a.cp g.w)/\b6 g.w=.v g.w)/\(a.b0.map (·.k)).Nodup
 dC:a.bz="telling"->Γ.S a.cp a.dC
 cw:a.bz≠"calm"->a.cw=.aI
def jX(a b:bD):Prop:=a.bz≠"calm"->b.bz="calm"->eS b.cw=false/\aE.Ok 12 b.cw
def jX.same{a b:bD}(e:b.bz=a.bz):jX a b:=λn c=>absurd (e.symm.trans c) n
def GV:¬("asking":Str)="calm":=by decide
inductive j0(Γ:e4):aE.D->Prop
 |ask {me k:Nat}{e:Int}{s:dW}(ag:me < Γ.na) (ah:k<6) (bI:0<=e/\e<=60):j0 Γ (kx me e s k)
 |tell {me k:Nat}{e:Int}{s p:dW}{n:Int}{d:Option cN}{w:aE.D}(ag:me < Γ.na) (ah:k<6) (bI:Γ.S e w) (cW:∀x,d=some x->jr gI Γ.W x):j0 Γ (qn me e s (.t [dG p,.int n,dp d,w]) k)
 |grant {k a:Nat}{e:Int}{s kp:dW}{w:aE.D}(ag:a < Γ.na) (ah:k<6) (bI:kp=(0,0)\/Γ.S e w) (cW:b6 w=.v w) (eW:aE.Ok 10 w):j0 Γ (jE k a e s kp w)
 |kept {k a:Nat}{e:Int}{s:dW}(ag:a < Γ.na) (ah:k<6):j0 Γ (g0 k a e s)
 |late {k a:Nat}{e:Int}{s p:dW}(ag:a < Γ.na) (ah:k<6):j0 Γ (td k a e s p)
def Gr(k:Nat)(y:aE.D):Prop:=(∃e s j,y=kx k e s j)\/∃e s l j,y=qn k e s l j
structure lO(Γ:e4)(k:Nat)(Y:List aE.D):Prop where
 ok:∀y∈Y,j0 Γ y
 fr:∀y∈Y,Gr k y
 len:Y.length<=6
def lO.nil:lO Γ k []:=⟨by simp,by simp,by simp⟩
section
variable{Γ:e4}(O:Γ.Ok){a:bD}{k:Nat}(h:fv Γ a k)
include O h
theorem F3{ms:List Nat}{e:Int}{s:dW}(H:nP cX ms fa fk)(he:0<=e/\e<=60):lO Γ k (ms.map (kx a.me e s)):=by
 rw[h.me];refine⟨λy b=>?_,λy b=>?_,by rw[akz];exact H.len⟩
 .obtain⟨j,c,rfl⟩:=ak5.mp b
  exact .ask h.lt (H.lt j c) he
 .obtain⟨j,c,rfl⟩:=ak5.mp b
  exact .inl ⟨_,_,_,rfl⟩
theorem GW(c:∃d,a.dD=dp d/\Γ.mV k a.wi d)(b:a.cw=.aI):fv Γ a.asks k where
 me:=h.me
 lt:=h.lt
 bz:=.inr (.inl rfl)
 hl:=h.hl
 op:=h.op
 dD:=by obtain⟨d,au,aF⟩:=c;exact⟨d,au,λ_=>aF⟩
 b0:=λ_=>⟨λg e=>(nomatch e),aoj⟩
 dC:=λz=>by cases z
 cw:=λ_=>b
theorem So:∃Y b,a.Do ti [] Y b/\fv Γ b k/\lO Γ k Y/\b.wi=a.wi/\jX a b:=by
 obtain⟨ms,fa,fk,H⟩:=h.hl.ex
 by_cases c:a.bz="calm"
 .exact⟨_,a,Sm c,h,.nil,rfl,.same rfl⟩
 .obtain⟨d,au,aF⟩:=h.dD
  obtain⟨s,_,s2,_⟩:=h.op;exact⟨_,_,Sp H.mem H.len h.bz c,GW O h ⟨d,au,aF c⟩ (h.cw c),F3 O h H (O.hv s2),rfl,λ_ z=>absurd z GV⟩
theorem Zo(r:Int):fv Γ (a.zr r) k:=⟨h.me,h.lt,h.bz,h.hl,h.op,h.dD,h.b0,h.dC,h.cw⟩
end
def ab8(n:Nat)(s:dW):aE.Ok (n+1) (dG s):=mr dS dS
def Pk{Γ:e4}(O:Γ.Ok){s:c9}(h:fP gI Γ.W s){x:Int}{y:aE.D}{z:dW}(a:y=.aI\/y=dG z):aE.Ok 12 (.t [.str "saw",.t [.int x,y,s.D]]):=
 mr (hH (by decide +kernel)) (nE dS (by rcases a with rfl|rfl;exact oK;exact ab8 _ z) (h.ok (by have:=O.w;omega) λz hz=>hz.ok))
def Rg{s:c9}(h:fP gI W s)(i:Int):aE.Ok 11 (s.df i):=by
 unfold c9.df;split
 .rename_i a b z e
  have:=h.q0 _ (vj e);have w:=this.2;have w:(decide ([a,b,z].length<=1000)&&mB [a,b,z])=true:=w;rw[ak0]at w;exact rM (n:=1) ⟨pR.mp this.1 z (by simp),xk.mp w.2 z (by simp)⟩ (by decide)
 .exact oK
def sx:¬("calm":Str)="asking":=by decide
def sz:¬("calm":Str)="telling":=by decide
def afM:¬("telling":Str)="asking":=by decide
def afN:¬("telling":Str)="calm":=by decide
def Sv{a:List Nat}(c:∀k∈a,k<6)(b:j<6):cG (maskOf a) j=a.contains j:=by
 rw[zP a c];exact zU _ j b
def SI(p:fe):∀(ps:List fe),jA p ps∈p::ps:=by
 have key:∀(ps:List fe)(b:fe),jA b ps=b\/jA b ps∈ps:=by
  intro ps
  induction ps with
  |nil=>intro b;exact .inl rfl|cons q ps a=>
   intro b;have e:jA b (q::ps)=jA (wx b q) ps:=rfl;rw[e];rcases a (wx b q)with z|z
   .rw[z]
    unfold wx;split
    .exact .inr akS
    .exact .inl rfl
   .exact .inr (akL _ z)
 intro ps;rcases key ps p with z|z
 .rw[z];exact akS
 .exact akL _ z
section
variable{Γ:e4}(O:Γ.Ok){a:bD}{k:Nat}(h:fv Γ a k)
include O h
theorem U3(H:nP a.h ms fa fk)(c:a.bz="asking")(Q:a.b0=p::ps){s2:dW}(hw:Γ.S a.cp w) :
  ∃Y b,a.Do tj [.t [dG s2,w]] Y b/\fv Γ b k/\lO Γ k Y/\b.wi=a.wi/\jX a b:=by
 obtain⟨s,m,L,rfl⟩:=hw;obtain⟨d,l,f⟩:=h.dD;have K:a.bz≠"calm":=by rw[c];decide
 have f:=f K;have G:=h.b0 c;have T:a.b0.length<=6:=by
  have:=al3 (l₂:=akR 6) G.2 λx e=>by
   obtain⟨g,F,rfl⟩:=ak5.mp e;exact ali.mpr (G.1 g F).1
  rw[akz,alZ]at this;exact this
 have r:a.xU s.D (!!eS s.aU&&(a.b0.all λg=>decide (g.s=p.s))&&fk (maskOf (a.b0.map (·.k)))):=λS i g A=>aeG H A Q (λg F=>(G.1 g F).1) (by omega) s.slot (MM s)
 generalize R:(!!eS s.aU&&(a.b0.all λg=>decide (g.s=p.s))&&fk (maskOf (a.b0.map (·.k))))=b at r
 by_cases q:d=none/\b=true
 .obtain⟨rfl,rfl⟩:=q
  refine⟨_,_,U4 l r,?_,.nil,rfl,λ_ _=>⟨rfl,Pk O m (.inr rfl)⟩⟩;exact⟨h.me,h.lt,.inl rfl,h.hl,h.op,⟨none,l,λz=>absurd rfl z⟩,(λz=>absurd z sx),(λz=>absurd z sz),λz=>absurd rfl z⟩
 .have P:=TN m O.w a.me a.wi (d:=d) λx e=>O.ix f e
  have hd:eS a.dD=false\/a.xU s.D false:=by
   cases d with
   |some x=>left;rw[l];cases x<;>rfl
   |none=>
    right;have:b=false:=by cases b with|false=>rfl|true=>exact absurd ⟨rfl,rfl⟩ q
    rw[this]at r;exact r
  have M:=l;refine⟨_,_,U5 H.mem H.len hd (by rw[l];exact P),?_,?_,rfl,λ_ z=>absurd z afN⟩
  .have N:=h.lt
   have aA:=O.n;have ok:=K5 m (i:=a.me) (by rw[h.me];omega) (by rw[h.me];omega) a.wi (d:=d) λx e=>O.ix f e
   have u:Γ.E a.cp (pL s a.me a.wi d):=O.done m L (by rw[h.me];exact f);exact⟨h.me,h.lt,.inr (.inr rfl),h.hl,h.op,⟨d,l,λ_=>f⟩,(λz=>absurd z afM),(λ_=>⟨_,ok,u,rfl⟩),λ_=>h.cw K⟩
  .have N:=h.lt
   have aA:=O.n;have ok:=K5 m (i:=a.me) (by rw[h.me];omega) (by rw[h.me];omega) a.wi (d:=d) λx e=>O.ix f e
   have u:Γ.E a.cp (pL s a.me a.wi d):=O.done m L (by rw[h.me];exact f);refine⟨λy B=>?_,λy B=>?_,by rw[akz];exact H.len⟩
   .obtain⟨j,I,rfl⟩:=ak5.mp B
    rw[h.me,l];rw[h.me]at ok u;exact .tell h.lt (H.lt j I) ⟨_,ok,u,rfl⟩ λx e=>O.ix f e
   .obtain⟨j,I,rfl⟩:=ak5.mp B
    rw[h.me];exact .inr ⟨_,_,_,_,rfl⟩
end
section
variable{Γ:e4}(O:Γ.Ok){a:bD}{k:Nat}(h:fv Γ a k)
include O h
theorem Xd{e:Int}{s kp:dW}(i:j<6)(A:kp=(0,0)\/Γ.S e w)(hw:b6 w=.v w) :
  ∃Y b,a.Do kf [jE j k e s kp w] Y b/\fv Γ b k/\lO Γ k Y/\b.wi=a.wi/\jX a b:=by
 rw[<-h.me];obtain⟨ms,fa,fk,H⟩:=h.hl.ex
 cases q:a.now ms j e s with
 |false=>exact⟨_,a,Me H (.str "grant") (.t [dG kp,w]) C1 q,h,.nil,rfl,.same rfl⟩|true=>
  by_cases c:a.bz="asking"
  .have l:=h.b0 c
   have k_:∀g∈a.b0,g.k<6:=λg d=>(l.1 g d).1
   have E:a.b0.length<=6:=by
    have:=al3 (l₂:=akR 6) l.2 λx f=>by
     obtain⟨g,d,rfl⟩:=ak5.mp f;exact ali.mpr (k_ g d)
    rw[akz,alZ]at this;exact this
   have D:∀x∈a.b0.map (·.k),x<6:=λx f=>by
    obtain⟨g,d,rfl⟩:=ak5.mp f;exact k_ g d
   cases bS:cG (maskOf (a.b0.map (·.k))) j with
   | true=>exact⟨_,a,Dd H h.bz q c (Xf k_ (by omega) bS),h,.nil,rfl,.same rfl⟩|false=>
    have n:j∉a.b0.map (·.k):=λz=>by
     rw[Sv D i,List.contains_iff_mem.mpr z]at bS;cases bS
    have he:e=a.cp:=by
     unfold bD.now at q;rw[ak0,ak0]at q;exact of_decide_eq_true q.1.1
    have r:fv Γ (a.got j kp w) k:=by
     refine⟨h.me,h.lt,h.bz,h.hl,h.op,h.dD,λz=>⟨λg d=>?_,?_⟩,h.dC,h.cw⟩
     .rcases alp.mp d with d|d
      .exact l.1 g d
      .rw[akY]at d
       subst d;subst he;exact⟨i,A,hw⟩
     .unfold bD.got
      dsimp only;rw[al1];refine anA.mpr ⟨l.2,by simp,λx f y m=>?_⟩;have m:y=j:=by simpa using m
      subst m;rintro rfl;exact n f
    cases o:fa (maskOf ((a.got j kp w).b0.map (·.k)))with
    | false=>exact⟨_,_,Dd H h.bz q c (Xb H k_ (by omega) i bS o),r,.nil,rfl,.same rfl⟩|true=>
     have ne:(a.got j kp w).b0≠[]:=by unfold bD.got;simp
     obtain⟨p,ps,u⟩:=List.exists_cons_of_ne_nil ne;have bm:=SI p ps;rw[<-u]at bm;have B:Γ.S (a.got j kp w).cp (if(jA p ps).s=(0,0)then a.op else(jA p ps).w):=by
      split
      .exact h.op
      .rename_i z
       exact((r.b0 c).1 _ bm).2.1.resolve_left z
     obtain⟨Y,b,au,aF,cO,eJ,i8⟩:=U3 O r (ms:=ms) (fa:=fa) (fk:=fk) H c u (s2:=(jA p ps).s) B;obtain⟨dT,_,_,lX⟩:=h.op;exact⟨Y,b,Dd H h.bz q c (Xe H k_ (by omega) i u (by rw[lX];rfl) bS o au),aF,cO,eJ,i8⟩
  .exact⟨_,a,Xc H h.bz q c,h,.nil,rfl,.same rfl⟩
end
def acW:oEq (.v (.str "over")) (.v (.str "over"))=pure (.v (.ax true)):=by rw[jm (by decide +kernel) (by decide +kernel),beq_self_eq_true]
def Zy(a:bD):a.ot.wi=a.wi:=by unfold bD.ot;split<;>rfl
def afV{Γ:e4}{s:c9}(h:fP gI Γ.W s)(i:Int):Told s.D i (s.last i) (s.df i) s.aU s.jg:=by
 refine⟨⟨_,TL h i⟩,aeK s,MM s,?_,h.ss⟩;unfold c9.jg;rcases h.aU with e|e|⟨⟨xs,e⟩,g⟩
 .rw[e,pN (x:=.v .aI) (y:=.v (.str "over")) rfl (by decide +kernel)];rfl
 .rw[e];exact acW
 .have:=g.no
  rw[e]at this ⊢;exact this
def Cz{Γ:e4}(O:Γ.Ok){ba:c9}(b:fP gI Γ.W ba){a:bD}(c:a.dC=ba.D)(j:Nat)(n:Int)(aU:aE.D)(bR:Bool):jX a ((a.f_ j).gj n (ba.df a.me) aU bR):=by
 rcases sG (a.f_ j) n (ba.df a.me) aU bR with⟨o,z,e⟩|e<;>rw[e]
 .intro _ _
  show eS o=false/\aE.Ok 12 o;rcases z with rfl|⟨x,y,z,rfl,C⟩
  .exact⟨rfl,mr (hH (by decide +kernel)) (Rg b _)⟩
  .refine⟨rfl,?_⟩
   rw[show(a.f_ j).dC=ba.D from c];exact Pk O b C
 .exact .same rfl
def TX{a b:bD}(e:jX a b):jX a b.ot:=λn _=>by
 unfold bD.ot;split
 .rename_i c
  exact e n (by simpa using c)
 .exact⟨rfl,rM (n:=1) (mr (hH (by decide +kernel)) oK) (by decide)⟩
section
variable{Γ:e4}(O:Γ.Ok){a:bD}{k:Nat}(h:fv Γ a k)
include O h
theorem Ze(j:Nat):fv Γ (a.f_ j) k:=⟨h.me,h.lt,h.bz,h.hl,h.op,h.dD,h.b0,h.dC,h.cw⟩
theorem TY(o:aE.D):fv Γ (a.ends o) k:=by
 obtain⟨d,b,_⟩:=h.dD;exact⟨h.me,h.lt,.inl rfl,h.hl,h.op,⟨d,b,λz=>absurd rfl z⟩,(λz=>absurd z sx),(λz=>absurd z sz),λz=>absurd rfl z⟩
theorem T1(n:Int)(df aU:aE.D)(bR:Bool):fv Γ (a.gj n df aU bR) k:=by
 rcases sG a n df aU bR with⟨o,_,e⟩|e<;>rw[e]
 .exact TY O h o
 .exact h
theorem Zw:fv Γ a.ot k:=by
 unfold bD.ot;split
 .exact⟨h.me,h.lt,h.bz,h.hl,h.op,h.dD,h.b0,h.dC,h.cw⟩
 .obtain⟨d,b,_⟩:=h.dD
  exact⟨h.me,h.lt,.inl rfl,h.hl,h.op,⟨d,b,λz=>absurd rfl z⟩,(λz=>absurd z sx),(λz=>absurd z sz),λz=>absurd rfl z⟩
theorem Xi{e:Int}{s:dW}(l:j<6) :
  ∃Y b,a.Do kf [g0 j k e s] Y b/\fv Γ b k/\lO Γ k Y/\b.wi=a.wi/\jX a b:=by
 rw[<-h.me];obtain⟨ms,fa,fk,H⟩:=h.hl.ex
 cases q:a.now ms j e s with
 |false=>exact⟨_,a,Me H (.str "kept") (.t []) DY q,h,.nil,rfl,.same rfl⟩|true=>
  by_cases c:a.bz="telling"
  .obtain⟨ba,i,E,n⟩:=h.dC c
   have T:Told a.dC a.me (ba.last a.me) (ba.df a.me) ba.aU ba.jg:=by rw[n];exact afV i a.me
   have y:=Ze O h j;have f:=T1 O y (ba.last a.me) (ba.df a.me) ba.aU ba.jg
   cases bS:fk (a.nx ||| maskOf [j])with
   |false=>exact⟨_,_,vx H h.bz q c (Xg H l bS),y,.nil,rfl,.same rfl⟩|true=>
    cases o:eS ba.aU with
    |true=>exact⟨_,_,vx H h.bz q c (Xj H l T bS o),f,.nil,CA _ _ _ _ _,Cz O i n _ _ _ _⟩|false=>
     cases C:ba.jg with
     |true=>
      refine⟨_,_,vx H h.bz q c (Xk H l T bS o h.bz C),?_,.nil,(Zy _).trans (CA _ _ _ _ _),TX (Cz O i n _ _ _ _)⟩;exact Zw O f
     |false=>
      have m:(∃xs,ba.aU=.t xs)/\gI ba.aU:=by
       rcases i.aU with e|e|e
       .rw[e]at o;cases o
       .unfold c9.jg at C;rw[e]at C;cases C
       .exact e
      obtain⟨P,I,K,H'⟩:=m.2.ex;have F:((a.f_ j).gj (ba.last a.me) (ba.df a.me) ba.aU ba.jg).dC=ba.D:=(Lh _ _ _ _ _).trans n;have x:tD [((a.f_ j).gj (ba.last a.me) (ba.df a.me) ba.aU ba.jg).dC]=pure (.v ba.kh.D):=by rw[F];exact acu ba
      have r:((a.f_ j).gj (ba.last a.me) (ba.df a.me) ba.aU ba.jg).cp=a.cp:=TZ _ _ _ _ _;have w:Γ.S (((a.f_ j).gj (ba.last a.me) (ba.df a.me) ba.aU ba.jg).cp+1) ba.kh.D:=by rw[r];exact⟨_,i.kh,O.kh i E m.1,rfl⟩
      have Q:fv Γ (((a.f_ j).gj (ba.last a.me) (ba.df a.me) ba.aU ba.jg)) k:=f;have N:=Cz O i n j (ba.last a.me) ba.aU ba.jg;have u:((a.f_ j).gj (ba.last a.me) (ba.df a.me) ba.aU ba.jg).wi=a.wi:=CA _ _ _ _ _;generalize B:(a.f_ j).gj (ba.last a.me) (ba.df a.me) ba.aU ba.jg=A at *
      by_cases ae:A.bz="calm"
      .have g:=U6 f.bz i.ss x ae
       have lo:((a.f_ j).gj (ba.last a.me) (ba.df a.me) ba.aU ba.jg).Do rA [ba.aU] [] (A.over ba.aU ba.kh.D):=by rw[B];exact g
       refine⟨_,_,vx H h.bz q c (Md H l T bS o C lo),?_,.nil,u,N⟩;obtain⟨d,p,_⟩:=f.dD;refine⟨f.me,f.lt,f.bz,m.2,w,⟨d,p,λz=>absurd ae z⟩,λz=>?_,λz=>?_,λz=>absurd ae z⟩
       .have z:A.bz="asking":=z
        rw[ae]at z;exact absurd z sx
       .have z:A.bz="telling":=z
        rw[ae]at z;exact absurd z sz
      .have g:=U7 f.bz i.ss x ae H'.mem H'.len
       have lo:((a.f_ j).gj (ba.last a.me) (ba.df a.me) ba.aU ba.jg).Do rA [ba.aU] (P.map (kx A.me (A.cp+1) (A.dh+1,A.me))) (A.over ba.aU ba.kh.D).asks:=by rw[B];exact g
       obtain⟨d,p,L⟩:=f.dD;have M:=O.hv (O.kh i E m.1);refine⟨_,_,vx H h.bz q c (Md H l T bS o C lo),?_,F3 O f H' (by rw[r];exact M),u,λ_ z=>absurd z GV⟩;exact⟨f.me,f.lt,.inr (.inl rfl),m.2,w,⟨d,p,λ_=>L ae⟩,λ_=>⟨λg G=>(nomatch G),aoj⟩,(λz=>by cases z),λ_=>f.cw ae⟩
  .exact⟨_,a,Xh H h.bz q c,h,.nil,rfl,.same rfl⟩
theorem Xm{e:Int}{s p:dW}:∃Y b,a.Do kf [td j k e s p] Y b/\fv Γ b k/\lO Γ k Y/\b.wi=a.wi/\jX a b:=by
 rw[<-h.me];exact⟨_,_,Xl p,Zo O h p.1,.nil,rfl,.same rfl⟩
end
end dR
namespace dR
open PySem PySem.Spec aC aE
def afL:oEq (.v (.str "tell")) (.v (.str "ask"))=pure (.v (.ax false)):=by
 have a:akW "tell"=true:=by decide +kernel
 have b:akW "ask"=true:=by decide +kernel
 have c:(("tell":Str) == "ask")=false:=by decide +kernel
 rw[pN (x:=.v (.str "tell")) (y:=.v (.str "ask")) a b];show pure (R.v (D.ax (("tell":Str) == "ask")))=_;rw[c]
def Xp{bk:List dq}(aD:lM bk)(hl:bk.length<63)(e b s2:Int)(a k i c f x:D)(m:b6 x=.v x) :
  mi [.t (bk.map dF),.t [.str "tell",a,k,.int e,bK b s2,.t [i,c,f,x]]]=pure (.v (if aC.lexLt [b,s2] [(e' bk e).p1,(e' bk e).cD]=true then .t [.t (bk.map dF),.t [.str "late",k,a,.int e,bK b s2,.t [bK (e' bk e).p1 (e' bk e).cD]]]
   else .t [.t (oQ (putL bk ⟨e,b,s2,b,s2,x⟩)),.t [.str "kept",k,a,.int e,bK b s2,.t []]])):=by
 have kQ:=Oo bk e;generalize e' bk e=g at kQ ⊢;have n:=P5 (bk:=bk) ⟨e,b,s2,b,s2,x⟩ aD.nodup hl m;have j:=xZ "tell" a k (.int e) (bK b s2) (.t [i,c,f,x]) (.str "late") (.t [bK g.p1 g.cD]) rfl rfl;have l:=xZ "tell" a k (.int e) (bK b s2) (.t [i,c,f,x]) (.str "kept") (.t []) rfl rfl;have pre:∀{d},Hz [.v (.t (bk.map dF)),.v (.t [.str "tell",a,k,.int e,bK b s2,.t [i,c,f,x]]),.v (bK b s2),.v (bK g.p1 g.cD)]=pure (.cx (.v d))->mi [.t (bk.map dF),.t [.str "tell",a,k,.int e,bK b s2,.t [i,c,f,x]]]=pure (.v d):=λh=>
  hR rfl (fC (iL (fj afL rfl rfl)) (jj (call_of rfl (hR rfl (cR rfl (cR (km (fj rfl (call_of rfl kQ) rfl)) h))))))
 cases hle:aC.lexLt [b,s2] [g.p1,g.cD]with
 |true=>exact pre (st (congrArg pure hle) (jj (call_of rfl (hR rfl (jj (r0 rfl (call_of rfl j)))))))|false=>exact pre (fC (congrArg pure hle) (jj (r0 (call_of rfl n) (call_of rfl l))))
end dR
namespace dR
open PySem PySem.Spec aC aE i3 gf jt
structure sf(Γ:e4)(g:dq):Prop where
 e:0<=g.e/\g.e<=60
 s:(g.ej,g.d2)=((0,0):dW)\/Γ.S g.e g.ba
 ba:b6 g.ba=.v g.ba
 ok:aE.Ok 10 g.ba
def ph(Γ:e4)(b:aE.D):Prop:=∃bk:List dq,b=.t (bk.map dF)/\lM bk/\∀g∈bk,sf Γ g
def Sw{bk:List dq}(aD:lM bk)(h:∀g∈bk,sf Γ g):bk.length<63:=by
 have:=al3 (l₂:=(akR 61).map λ(i:Nat)=>(i:Int)) aD.nodup λx b=>by
  obtain⟨g,a,rfl⟩:=ak5.mp b;have:=(h g a).e;exact ak5.mpr ⟨g.e.toNat,ali.mpr (by omega),by omega⟩
 rw[akz,akz,alZ]at this;omega
def acZ{bk:List dq}(h:∀g∈bk,sf Γ g){e:Int}(he:0<=e/\e<=60):sf Γ (e' bk e):=by
 unfold e'
 cases q:bk.find? (λx=>x.e==e)with
 |none=>exact⟨he,.inl rfl,rfl,oK⟩|some g=>exact h g (find_eq q).2
def OP{bk:List dq}(aD:lM bk)(h:∀g∈bk,sf Γ g)(a:sf Γ g):ph Γ (.t (oQ (putL bk g))):=by
 obtain⟨f,d,c,e,_⟩:=adY aD g;refine⟨f,by rw[c],d,λx b=>?_⟩;rcases adX ((e x).mp b)with z|rfl
 .exact h x z
 .exact a
def Xo(O:Γ.Ok)(H:ph Γ b){e:Int}{s:dW}(K:j0 Γ L)(u:L=kx me e s j\/∃l,L=qn me e s l j) :
  ∃A y,mi [b,L]=pure (.v (.t [A,y]))/\ph Γ A/\j0 Γ y:=by
 obtain⟨bk,rfl,aD,f⟩:=H;have hl:=Sw aD f
 cases K with
 |@ask r m c a i k x=>
  have h:=acZ f x;have B:=Om bk c;have eq:=Xn aD hl (λg G=>(f g G).ba) c a.1 a.2 (.int r) (a' m) (.t []);have eq:mi [.t (bk.map dF),kx r c a m]=_:=eq;generalize e' bk c=g at *
  cases q:lexLe [a.1,a.2] [g.p1,g.cD]with
  |true=>
   rw[if_pos q]at eq;exact⟨_,_,eq,⟨bk,rfl,aD,f⟩,.late (p:=(g.p1,g.cD)) i k⟩
  |false=>
   rw[if_neg (by rw[q];decide)]at eq;subst B;exact⟨_,_,eq,OP aD f ⟨h.e,h.s,h.ba,h.ok⟩,.grant (kp:=(g.ej,g.d2)) i k h.s h.ba h.ok⟩
 |@tell r m c a p n d w i k x M=>
  obtain⟨ba,F,E,rfl⟩:=x;have I:=O.hv E;have B:=Om bk c;have eq:=Xp aD hl c a.1 a.2 (.int r) (a' m) (dG p) (.int n) (dp d) ba.D rfl;have eq:mi [.t (bk.map dF),qn r c a (.t [dG p,.int n,dp d,ba.D]) m]=_:=eq;generalize e' bk c=g at *
  cases q:aC.lexLt [a.1,a.2] [g.p1,g.cD]with
  |true=>
   rw[if_pos q]at eq;exact⟨_,_,eq,⟨bk,rfl,aD,f⟩,.late (p:=(g.p1,g.cD)) i k⟩
  |false=>
   rw[if_neg (by rw[q];decide)]at eq;exact⟨_,_,eq,OP aD f ⟨I,.inr ⟨ba,F,E,rfl⟩,rfl,F.ok (by have:=O.w;omega) λz hz=>hz.ok⟩,.kept i k⟩
 |grant _ _ _ _ _=>rcases u with z|⟨l,z⟩<;>exact absurd z (by unfold jE;intro z;injection z with z;injection z with z _;injection z with z;exact absurd z (by decide))
 |kept _ _=>rcases u with z|⟨l,z⟩<;>exact absurd z (by unfold g0;intro z;injection z with z;injection z with z _;injection z with z;exact absurd z (by decide))
 |late _ _=>rcases u with z|⟨l,z⟩<;>exact absurd z (by unfold td;intro z;injection z with z;injection z with z _;injection z with z;exact absurd z (by decide))
def Yt(w:Str)(hw:akW w=true):kO false (.v (.str w)) (.v (.t [.str "ask",.str "tell"]))=pure (.v (.ax (w == "ask" || w == "tell"))):=by
 have fa:([D.str "ask",D.str "tell"]).all D.flat=true:=by decide +kernel
 have b:(D.str w).flat=true:=by simpa[D.flat]using hw
 show(if(D.str w).flat=true/\([D.str "ask",D.str "tell"]).all D.flat=true then pure (R.v (D.ax (if false=true then !inD (D.str w) [D.str "ask",D.str "tell"]else inD (D.str w) [D.str "ask",D.str "tell"])))else bad)=_;rw[if_pos ⟨b,fa⟩,if_neg akD]
 congr 3
 show(eT (D.str "ask") (D.str w)||(eT (D.str "tell") (D.str w)||false))=_;rw[Bool.or_false,show eT (D.str "ask") (D.str w)=(("ask":Str)==w)from rfl,show eT (D.str "tell") (D.str w)=(("tell":Str)==w)from rfl,BEq.comm (a:=("ask":Str)),BEq.comm (a:=("tell":Str))]
def U8(w:Str)(hw:akW w=true)(ds:List aE.D):ox [.t (.str w::ds)]=pure (.v (.ax (w == "ask" || w == "tell"))):=by
 have e:=Yt w hw;have a:dY (D.str w::ds) 0=some (.str w):=mZ _ _;simp only[ox,Hv];generalize kO=F at *;simp[e,a]
structure ff(Γ:e4)(h:c2):Prop where
 na:h.as.length=Γ.na
 as:∀(k:Nat)(a:bD),h.as[k]? = some a->fv Γ a k
 nb:h.bs.length=6
 bs:∀b∈h.bs,ph Γ b
 ls:∀l∈h.ls,j0 Γ l
def ab7:akW "ask"=true:=by decide +kernel
def ab9:akW "tell"=true:=by decide +kernel
def c2.j2(h h':c2):Prop:=∀i:Nat,(h'.as[i]?).map bD.wi=(h.as[i]?).map bD.wi
def E'{h:c2}{a b:bD}(d:h.as[k]? = some a)(e:b.wi=a.wi):h.j2 (h.put k b):=λi=>by
 unfold c2.put;dsimp only
 by_cases c:k=i
 .subst c
  rw[akU (akw.mp d).1,d];exact congrArg some e
 .rw[akF c]
inductive qB(h:c2)(L:aE.D)(Y:List aE.D)(h':c2):Prop
 |keeper {me j:Nat}{e:Int}{s:dW}{b fi y:aE.D}(f7:L=kx me e s j\/∃l,L=qn me e s l j) (a_:j<6) (cB:h.bs[j]? = some b) (g:mi [b,L]=pure (.v (.t [fi,y]))) (TQ:Y=[y]) (bL:h'.bs=h.bs.set j fi) (cS:h'.as=h.as) (iO:h'.rs=h.rs):qB h L Y h'
 |asker {a j:Nat}{e:Int}{s:dW}{A b:bD}(f7:(∃kp w,L=jE j a e s kp w)\/L=g0 j a e s\/∃p,L=td j a e s p) (fr:∀y∈Y,Gr a y) (bL:h'.bs=h.bs) (fm:h.as[a]? = some A) (cS:h'.as=h.as.set a b) (iO:h'.rs=if(!(A.bz == "calm")&&(b.bz == "calm"))=true then h.rs++[.t [.str "end",.int a,.int b.wi,b.cw,.int h.ls.length]]else h.rs) (g9:b.wi=A.wi) (pO:jX A b):qB h L Y h'
section
variable{Γ:e4}{h:c2}(H:ff Γ h)
include H
theorem ff.wr(a:∀y∈Y,j0 Γ y):ff Γ (h.wr Y):=⟨H.na,H.as,H.nb,H.bs,λl hl=>(alp.mp hl).elim (H.ls l) (a l)⟩
theorem ff.put(f:k<h.as.length)(d:fv Γ b k):ff Γ (h.put k b):=by
 refine⟨by unfold c2.put;dsimp only;rw[ak8];exact H.na,λi a e=>?_,H.nb,H.bs,H.ls⟩;have e:(h.as.set k b)[i]? = some a:=e
 by_cases c:k=i
 .subst c
  rw[akU f]at e;cases e;exact d
 .rw[akF c]at e
  exact H.as i a e
theorem ff.row(r:aE.D):ff Γ (h.row r):=⟨H.na,H.as,H.nb,H.bs,H.ls⟩
theorem ff.bk(a:ph Γ b):ff Γ (h.bk k b):=by
 refine⟨H.na,H.as,by unfold c2.bk;dsimp only;rw[ak8];exact H.nb,λx c=>?_,H.ls⟩;rcases anp c with z|rfl
 .exact H.bs x z
 .exact a
theorem ff.asker{k:Nat}(b:k < Γ.na):∃a,h.as[k]? = some a/\fv Γ a k:=by
 have e:h.as[k]? = some (h.as[k]'(by rw[H.na];exact b)):=akJ _;exact⟨_,e,H.as k _ e⟩
theorem afR(O:Γ.Ok){k:Nat}(j:k < Γ.na){L w x e s m:aE.D}(n:L=.t [w,x,.int k,e,s,m])(aD:h.rs.length<=100000)
  (g:∀a,fv Γ a k->∃Y b,a.Do kf [L] Y b/\fv Γ b k/\lO Γ k Y/\b.wi=a.wi/\jX a b) :
  ∃Y h',h.Do rC [L] (.v (.l Y)) h'/\ff Γ h'/\lO Γ k Y/\h'.ls=h.ls/\h'.bs=h.bs/\h'.rs.length<=h.rs.length+1/\h.j2 h'/\∃A b,h.as[k]? = some A/\h'.as=h.as.set k b/\(h'.rs=if(!(A.bz == "calm")&&(b.bz == "calm"))=true then h.rs++[.t [.str "end",.int k,.int b.wi,b.cw,.int h.ls.length]]else h.rs)/\b.wi=A.wi/\jX A b:=by
 obtain⟨a,c,f⟩:=H.asker j;obtain⟨Y,b,au,aF,cO,d,p⟩:=g a f;subst n;have i:k<h.as.length:=(akw.mp c).1;have eJ:=afQ c f.bz aF.bz au aD;refine⟨Y,_,eJ,?_,cO,?_,?_,?_,?_,a,b,c,?_,?_,d,p⟩
 .split
  .exact(H.put i aF).row _
  .exact H.put i aF
 .split<;>rfl
 .split<;>rfl
 .split
  .unfold c2.row c2.put;dsimp only;rw[akB];exact akE _
  .exact aom _
 .split
  .exact E' c d
  .exact E' c d
 .split<;>rfl
 .split<;>rfl
theorem vm(hw:akW w=true)(a:(w == "ask" || w == "tell")=b):ox [.t (.str w::ds)]=pure (.v (.ax b)):=by rw[U8 w hw,a]
theorem SH(O:Γ.Ok)(Q:k<h.ls.length)(hz:h.ls.length<=900000)(aD:h.rs.length<=100000) :
  ∃Y h',h.Do p8 [.int k] (.fr (en h.ls.length Y.length)) h'/\ff Γ h'/\h'.ls=h.ls++Y/\Y.length<=6/\h'.rs.length<=h.rs.length+1/\h.j2 h'/\qB h h.ls[k] Y h':=by
 have e:h.ls[k]? = some h.ls[k]:=akJ _;have G:=H.ls _ (ami Q);generalize h.ls[k]=L at *;have key:∀(me j:Nat)(c:Int)(s:dW),j<6->(L=kx me c s j\/∃l,L=qn me c s l j)->b6 L=.v L->ox [L]=pure (.v (.ax true))->(∃w x e s q,L=.t [w,x,.int j,e,s,q])->
   ∃Y h',h.Do p8 [.int k] (.fr (en h.ls.length Y.length)) h'/\ff Γ h'/\h'.ls=h.ls++Y/\Y.length<=6/\h'.rs.length<=h.rs.length+1/\h.j2 h'/\qB h L Y h':=λme j c s r E ba go ⟨w,x,J,ss,q,D⟩=>by
  have F:h.bs[j]? = some (h.bs[j]'(by rw[H.nb];exact r)):=akJ _;have M:=H.bs _ (ami (by rw[H.nb];exact r:j<h.bs.length));generalize h.bs[j]'(by rw[H.nb];exact r)=b at *;obtain⟨X,y,g,C,K⟩:=Xo O M G E;have yG:=g;have tk:h.Do vY [L] (.fr [y]) (h.bk j X):=by rw[D]at g ⊢;exact afS F g
  refine⟨[y],_,SF e go tk rfl (by simp;omega),(H.bk C).wr (by intro z hz;rw[akY]at hz;subst hz;exact K),rfl,by simp,aom _,(λ_=>rfl),.keeper E r F g rfl rfl rfl rfl⟩
 have u:∀(a:Nat),a < Γ.na->(∃(j:Nat)(e:Int)(s:dW),(∃kp w,L=jE j a e s kp w)\/L=g0 j a e s\/∃p,L=td j a e s p)->b6 L=.v L->ox [L]=pure (.v (.ax false))->(∃w x e s q,L=.t [w,x,.int a,e,s,q])->(∀A,fv Γ A a->∃Y b,A.Do kf [L] Y b/\fv Γ b a/\lO Γ a Y/\b.wi=A.wi/\jX A b)->
   ∃Y h',h.Do p8 [.int k] (.fr (en h.ls.length Y.length)) h'/\ff Γ h'/\h'.ls=h.ls++Y/\Y.length<=6/\h'.rs.length<=h.rs.length+1/\h.j2 h'/\qB h L Y h':=λa P ⟨N,vb,Pf,I⟩ ba go ⟨w,x,J,ss,q,D⟩ g=>by
  obtain⟨Y,h',au,aF,cO,eJ,i8,n5,U,A,b,Z,S,T,W,V⟩:=afR H O P D aD g;have o:=cO.len;refine⟨Y,_,SE e go au eJ (by omega),aF.wr cO.ok,?_,o,n5,U,.asker I cO.fr i8 Z S T W V⟩;unfold c2.wr;dsimp only;rw[eJ]
 cases G with
 |@ask me j c s i f B=>exact key me j c s f (.inl rfl) rfl (vm H ab7 rfl) ⟨_,_,_,_,_,rfl⟩|@tell me j c s p n d w i f B _=>exact key me j c s f (.inr ⟨_,rfl⟩) rfl (vm H ab9 rfl) ⟨_,_,_,_,_,rfl⟩|@grant j a c s kp w i f B R _=>exact u a i ⟨_,_,_,.inl ⟨_,_,rfl⟩⟩ rfl (vm H tT rfl) ⟨_,_,_,_,_,rfl⟩ λA m=>Xd O m f B R
 |@kept j a c s i f=>exact u a i ⟨_,_,_,.inr (.inl rfl)⟩ rfl (vm H N' rfl) ⟨_,_,_,_,_,rfl⟩ λA m=>Xi O m f
 |@late j a c s p i f=>exact u a i ⟨_,_,_,.inr (.inr ⟨_,rfl⟩)⟩ rfl (vm H wM rfl) ⟨_,_,_,_,_,rfl⟩ λA m=>Xm O m
end
structure e4.Bd(Γ mH:e4):Prop where
 w:mH.W=Γ.W
 n:mH.na=Γ.na
 wi:∀{i n d},Γ.mV i n d->mH.mV i n d
 e:∀{e s},Γ.E e s->mH.E e s
section
variable{Γ mH:e4}(le:Γ.Bd mH)
include le
theorem e4.Bd.s{e:Int}{w:aE.D}(h:Γ.S e w):mH.S e w:=by
 obtain⟨s,a,b,c⟩:=h;exact⟨s,by rw[le.w];exact a,le.e b,c⟩
theorem fv.mono(h:fv Γ a k):fv mH a k:=by
 refine⟨h.me,by rw[le.n];exact h.lt,h.bz,h.hl,le.s h.op,?_,λc=>⟨λg b=>?_,(h.b0 c).2⟩,λc=>le.s (h.dC c),h.cw⟩
 .obtain⟨d,f,e⟩:=h.dD
  exact⟨d,f,λz=>le.wi (e z)⟩
 .obtain⟨x,y,z⟩:=(h.b0 c).1 g b
  exact⟨x,y.imp id le.s,z⟩
theorem j0.mono(h:j0 Γ l):j0 mH l:=by
 cases h with
 |ask a b c=>exact .ask (by rw[le.n];exact a) b c| tell a b c d=>exact .tell (by rw[le.n];exact a) b (le.s c) λx e=>by have:=d x e;rw[le.w];exact this
 |grant a b c d f=>exact .grant (by rw[le.n];exact a) b (c.imp id le.s) d f| kept a b=>exact .kept (by rw[le.n];exact a) b| late a b=>exact .late (by rw[le.n];exact a) b
theorem ph.mono(h:ph Γ b):ph mH b:=by
 obtain⟨bk,e,r,p⟩:=h;exact⟨bk,e,r,λg a=>⟨(p g a).e,(p g a).s.imp id le.s,(p g a).ba,(p g a).ok⟩⟩
theorem ff.mono(H:ff Γ h):ff mH h:=⟨by rw[le.n];exact H.na,λk a e=>(H.as k a e).mono le,H.nb,λb c=>(H.bs b c).mono le,λl hl=>(H.ls l hl).mono le⟩
end
section
variable{Γ:e4}(O:Γ.Ok){h:c2}(H:ff Γ h)
include O H
theorem X1(e:k < Γ.na)(hz:h.ls.length<=900000):∃Y h',h.Do zC [.int k] (.fr (en h.ls.length Y.length)) h'/\ff Γ h'/\h'.ls=h.ls++Y/\Y.length<=6/\h'.rs=h.rs/\h.j2 h':=by
 obtain⟨a,c,d⟩:=H.asker e;have g:k<h.as.length:=(akw.mp c).1;obtain⟨Y,b,au,aF,cO,f,_⟩:=So O d;have i:=cO.len;exact⟨Y,_,Sn c au (by omega),(H.put g aF).wr cO.ok,rfl,i,rfl,E' c f⟩
theorem X0{k:Nat}{a:bD}(e:h.as[k]? = some a)(ay:a.bz="calm")(g:a.bR=false){d:Option cN}(hd:d=none\/nA [dp d]=pure (.v (.ax true)))(hw:Γ.mV k (a.wi+1) d)(hz:h.ls.length<=900000)(aD:h.rs.length<=100000) :
  ∃Y h',h.Do p7 [.int k,dp d] (.fr (en h.ls.length Y.length)) h'/\ff Γ h'/\h'.ls=h.ls++Y/\Y.length<=6/\h'.rs=h.rs++[.t [.str "begin",.int k,.int (a.wi+1),dp d,.int h.ls.length]]/\h'.as=h.as.set k (a.pD (dp d)).asks/\Y≠[]:=by
 have b:=H.as k a e;have m:k<h.as.length:=(akw.mp e).1;obtain⟨ms,fa,fk,c⟩:=b.hl.ex;have i:dp d=.aI\/nA [dp d]=pure (.v (.ax true)):=hd.imp (λz=>by rw[z];rfl) id;have au:=Sl (a:=a) c.mem c.len ay g (PW d) i;obtain⟨dT,p,s2,s3⟩:=b.op;have j:fv Γ (a.pD (dp d)) k:=⟨b.me,b.lt,b.bz,b.hl,b.op,⟨d,rfl,λ_=>hw⟩,(λz=>by rw[show(a.pD (dp d)).bz=a.bz from rfl,ay]at z;exact absurd z sx),(λz=>by rw[show(a.pD (dp d)).bz=a.bz from rfl,ay]at z;exact absurd z sz),λ_=>rfl⟩;have l:=GW O j ⟨d,rfl,hw⟩ rfl;have f:=F3 O b (s:=(a.dh+1,a.me)) c (O.hv s2);have n:=f.len;refine⟨_,_,XZ e (PW d) au (by omega) aD,((H.put m l).row _).wr f.ok,rfl,n,rfl,rfl,λz=>c.ne (List.map_eq_nil_iff.mp z)⟩
end
def s8:Option cN->Bool
 |some (.move _)=>true|_=>false
def hD(l:List (Option cN))(n:Nat):Nat:=((l.take n).filter s8).length
def tJ(l:List (Option cN))(n:Nat):hD l n<=l.length:=ald (aml _ _) (by rw[alT];omega)
def aah(l:List (Option cN))(h:m<=n):hD l m<=hD l n:=by
 unfold hD;have:l.take m=(l.take n).take m:=by rw[List.take_take,ano h]
 rw[this];exact((List.take_sublist m (l.take n)).filter s8).length_le
def aai{l:List (Option cN)}(e:l[n]? = some d):hD l (n+1)=hD l n+if s8 d=true then 1 else 0:=by
 unfold hD;rw[aoD,e,List.filter_append,akB];cases q:s8 d<;>simp[q]
def mu(w:Nat->List (Option cN))(s:c9):Nat:=hD (w 0) (s.last (0:Nat)).toNat+hD (w 1) (s.last (1:Nat)).toNat+hD (w 2) (s.last (2:Nat)).toNat+hD (w 3) (s.last (3:Nat)).toNat+hD (w 4) (s.last (4:Nat)).toNat+hD (w 5) (s.last (5:Nat)).toNat
def FU:aE.D->Bool
 |.t _=>true|_=>false
def many(w:Nat->List (Option cN)):Nat:=(w 0).length+(w 1).length+(w 2).length+(w 3).length+(w 4).length+(w 5).length
def g_(W:List (List Nat))(na:Nat)(w:Nat->List (Option cN)):e4 where
 W:=W
 na:=na
 mV:=λi n d=>∃(k m:Nat),k<6/\i=k/\n=(m:Int)+1/\(w k)[m]? = some d
 E:=λe s=>0<=e/\e.toNat+(if FU s.aU=true then 1 else 0)<=mu w s
def Zn{G:aE.D->Prop}{s:c9}(h:fP G W s)(t:c9)(i n:Int)(v:aE.D)(a:t.ds=kj (Q:=mS) s.ds (i,.t [.int i,.int n,v]))(j:Int):t.last j=if j=i then n else s.last j:=by
 unfold c9.last;rw[a,UT (Q:=mS) _ h.n4.nodup j]
 by_cases c:j=i
 .rw[if_pos c,if_pos c];rfl
 .rw[if_neg c,if_neg c]
def acM{s:c9}(ay:s.aU=.aI)(i:Int)(x:cN):FU (eG s i x).1.aU=true->s8 (some x)=true:=by
 cases x<;>unfold eG<;>dsimp only<;>(try split)<;>(try unfold c9.put)<;>(try dsimp only)<;>(try rw[ay])<;>intro z<;>first|rfl|cases z
def adM{w:Nat->List (Option cN)}{s t:c9}(d:k<6)(a:∀j:Nat,j≠k->t.last (j:Nat)=s.last (j:Nat))(ay:hD (w k) (s.last (k:Nat)).toNat+c<=hD (w k) (t.last (k:Nat)).toNat):mu w s+c<=mu w t:=by
 have key:∀j:Nat,j≠k->hD (w j) (t.last (j:Nat)).toNat=hD (w j) (s.last (j:Nat)).toNat:=λj b=>by rw[a j b]
 unfold mu;have e:k=0\/k=1\/k=2\/k=3\/k=4\/k=5:=by omega
 rcases e with rfl|rfl|rfl|rfl|rfl|rfl
 .rw[key 1 (by decide),key 2 (by decide),key 3 (by decide),key 4 (by decide),key 5 (by decide)];omega
 .rw[key 0 (by decide),key 2 (by decide),key 3 (by decide),key 4 (by decide),key 5 (by decide)];omega
 .rw[key 0 (by decide),key 1 (by decide),key 3 (by decide),key 4 (by decide),key 5 (by decide)];omega
 .rw[key 0 (by decide),key 1 (by decide),key 2 (by decide),key 4 (by decide),key 5 (by decide)];omega
 .rw[key 0 (by decide),key 1 (by decide),key 2 (by decide),key 3 (by decide),key 5 (by decide)];omega
 .rw[key 0 (by decide),key 1 (by decide),key 2 (by decide),key 3 (by decide),key 4 (by decide)];omega
def yL{W:List (List Nat)}{w:Nat->List (Option cN)}(D:W.length<63)(aA:na<=6)(G:many w<=60)(hd:∀(k:Nat)(d:Option cN)(x:cN),d∈w k->d=some x->jr gI W x):(g_ W na w).Ok where
 w:=D
 n:=aA
 done:=λ{e s i n d} h a hw=>by
  obtain⟨k,m,y,rfl,rfl,g⟩:=hw
  cases d with
  |none=>exact a|some x=>
   unfold pL;dsimp only
   by_cases c:(eS s.aU)=true/\s.last (k:Nat)<(m:Int)+1
   .rw[if_pos c]
    have q:s.aU=.aI:=by
     rcases h.aU with e|e|⟨⟨xs,e⟩,_⟩
     .exact e
     .rw[e]at c;cases c.1
     .rw[e]at c;cases c.1
    have l:=Zn h { (eG s (k:Nat) x).1 with ds:=kj (Q:=mS) s.ds ((k:Nat),.t [.int (k:Nat),.int ((m:Int)+1),(eG s (k:Nat) x).2]) } (k:Nat) ((m:Int)+1) _ rfl;have A:=acM q (k:Nat) x;refine⟨a.1,?_⟩;have b:=a.2;rw[q]at b;have b:e.toNat<=mu w s:=b;generalize B:({ (eG s (k:Nat) x).1 with ds:=kj (Q:=mS) s.ds ((k:Nat),.t [.int (k:Nat),.int ((m:Int)+1),(eG s (k:Nat) x).2]) }:c9)=T at l ⊢;have u:T.aU=(eG s (k:Nat) x).1.aU:=by rw[<-B]
    have r:=l (k:Nat);rw[if_pos rfl]at r;have st:=aai g;have mo:=aah (w k) (m:=(s.last (k:Nat)).toNat) (n:=m) (by omega);have ew:(T.last (k:Nat)).toNat=m+1:=by rw[r];omega
    have ps:=adM (w:=w) (s:=s) (t:=T) (c:=if s8 (some x)=true then 1 else 0) y (λj F=>by rw[l (j:Nat),if_neg (by omega)]) (by rw[ew,st];omega);rw[u]
    by_cases z:FU (eG s (k:Nat) x).1.aU=true
    .rw[if_pos z]
     rw[if_pos (A z)]at ps;omega
    .rw[if_neg z]
     omega
   .rw[if_neg c];exact a
 kh:=λ{e s} h a ⟨xs,f⟩=>by
  have b:=a.2;rw[f]at b;have b:e.toNat+1<=mu w s:=b;have p:=a.1;refine⟨by omega,?_⟩;show(e+1).toNat+0<=mu w s;omega
 hv:=λ{e s} a=>by
  have b:=a.2;have p:=a.1;have E:mu w s<=many w:=by
   unfold mu many;have H:=tJ (w 0) (s.last (0:Nat)).toNat;have a1:=tJ (w 1) (s.last (1:Nat)).toNat;have a2:=tJ (w 2) (s.last (2:Nat)).toNat;have fE:=tJ (w 3) (s.last (3:Nat)).toNat;have iJ:=tJ (w 4) (s.last (4:Nat)).toNat;have jy:=tJ (w 5) (s.last (5:Nat)).toNat;omega
  refine⟨p,?_⟩;have:e.toNat<=mu w s:=ald (amT _ _) b;omega
 ix:=λ{i n d x} ⟨k,m,_,_,_,g⟩ f=>hd k d x (ak7 g) f
def tK(h:l <+: o)(n:Nat):hD l n<=hD o n:=by
 obtain⟨r,rfl⟩:=h;unfold hD;rw[List.take_append,List.filter_append,akB];omega
def UY{w g:Nat->List (Option cN)}(h:∀k,w k <+: g k):(g_ W na w).Bd (g_ W na g) where
 w:=rfl
 n:=rfl
 wi:=λ{i n d} ⟨k,m,a,b,c,e⟩=>⟨k,m,a,b,c,by
  obtain⟨r,aD⟩:=h k;rw[<-aD,akV (akw.mp e).1];exact e⟩
 e:=λ{e s} f=>⟨f.1,ald f.2 (by
  unfold mu;have j:=tK (h 0) (s.last (0:Nat)).toNat;have a1:=tK (h 1) (s.last (1:Nat)).toNat;have a2:=tK (h 2) (s.last (2:Nat)).toNat;have fE:=tK (h 3) (s.last (3:Nat)).toNat;have iJ:=tK (h 4) (s.last (4:Nat)).toNat;have jy:=tK (h 5) (s.last (5:Nat)).toNat;omega)⟩
def addW(w:Nat->List (Option cN))(k:Nat)(d:Option cN):Nat->List (Option cN):=λj=>if j=k then w k++[d]else w j
def Q6(w:Nat->List (Option cN))(k:Nat)(d:Option cN)(j:Nat):w j <+: addW w k d j:=by
 unfold addW;split
 .rename_i e;subst e;exact anu _ _
 .exact anN _
def Q4(a:k<6)(d:Option cN):many (addW w k d)=many w+1:=by
 unfold many addW;have e:k=0\/k=1\/k=2\/k=3\/k=4\/k=5:=by omega
 rcases e with rfl|rfl|rfl|rfl|rfl|rfl<;>simp<;>omega
def Q5{w:Nat->List (Option cN)}(a:k<6)(d:Option cN):(g_ W na (addW w k d)).mV k ((w k).length+1) d:=
 ⟨k,(w k).length,a,rfl,rfl,by unfold addW;rw[if_pos rfl];simp⟩
def lS:c9:=⟨[],[],0,.aI,.aI⟩
def Sx:lS.D=B1:=rfl
def Sy(G:aE.D->Prop)(W:List (List Nat)):fP G W lS:=⟨by simp[lS],.nil,by simp[lS],by simp[lS],.nil,by simp[lS],.inl rfl,.inl rfl,by simp[lS]⟩
def abK{Γ:e4}(b:Γ.E 0 lS)(a:k < Γ.na)(cX:gI hall):fv Γ (tM k hall) k:=
 ⟨rfl,a,.inl rfl,cX,⟨lS,Sy _ _,b,Sx.symm⟩,⟨none,rfl,λz=>absurd rfl z⟩,(λz=>absurd z sx),(λz=>absurd z sz),λz=>absurd rfl z⟩
def UZ(W:List (List Nat))(na:Nat)(w:Nat->List (Option cN)):(g_ W na w).E 0 lS:=⟨Int.le_refl _,alh _⟩
def abH{Γ:e4}(h:Γ.E 0 lS)(cX:gI hall):ff Γ (kN Γ.na hall) where
 na:=by unfold kN;simp
 as:=λk a e=>by
  unfold kN at e;dsimp only at e;rw[akN]at e
  by_cases c:k < Γ.na
  .rw[amc c]at e
   cases e;exact abK h c cX
  .rw[List.getElem?_eq_none (by simpa using c)]at e
   cases e
 nb:=by unfold kN;simp
 bs:=λb f=>by
  have:b=.t []:=by
   have:=List.eq_of_mem_replicate f;exact this
  subst this;exact⟨[],rfl,.nil,λg d=>(nomatch d)⟩
 ls:=λl hl=>nomatch hl
def AH{α:Type}(xs:List α):lT (xs.map λ_=>.ax true)=some (xs.map λ_=>true)/\(xs.map λ_=>true).all id=true:=⟨yb (λ_=>true) xs,alg.mpr λx h=>by obtain⟨_,_,rfl⟩:=ak5.mp h;rfl⟩
def Rb{α:Type}(xs:List α):n7 [.fr (xs.map λ_=>.ax true)]=pure (.v (.ax true)):=by
 show(match lT (xs.map λ_=>D.ax true)with|some bs=>pure (R.v (.ax (bs.all id)))|none=>bad)=_;rw[(AH xs).1];show pure (R.v (.ax ((xs.map λ_=>true).all id)))=_;rw[(AH xs).2]
def Y3{k:Nat}(h:k<6):wb [.int (k:Nat)]=pure (.v (.ax true)):=by
 have:(k:Int)<=5:=by omega
 simp[wb,HL,o8,this]
def Y4(xs:List D):wb [.t xs]=pure (.v (.ax false)):=by kernel_rfl
def Oq(x y:D):zG [.t [x,y]]=pure (.v (.ax true)):=by kernel_rfl
def Th{k:Nat}{ps:List D}(a:1<=k)(b:k<=ps.length)(c:ps.length<=6):Em [.t [.int (k:Nat),.t ps]]=pure (.v (.ax true)):=by
 refine hR rfl ((oO (oh ((wN (zY (iL (Oq (.int (k:Nat)) (.t ps))))).trans ((wN (zY (iL (o8 k)))).trans rfl)))).trans ((oO (U':=[.v (.t [.int (k:Nat),.t ps]),.v (.int ps.length)]) rfl).trans ?_));have:(1:Int)<=k:=by omega
 have:(k:Int)<=ps.length:=by omega
 have:(ps.length:Int)<=6:=by omega
 unfold HD;simp[*]
theorem I0:∀(n m:Nat)(r:a8),m<n->r.deep<=m->r.wf->rD n [enc r,.int (m:Nat)]=pure (.v (.ax true))
 |0,m,r,h,_,_=>absurd h (al2 _)| n+1,m,.kp k,_,_,hw=>by rw[sF];exact hR rfl (Fw ((sZ (iL (Y3 hw))).trans rfl))|n+1,0,.ch k ps,_,hd,_=>absurd hd (Nat.not_succ_le_zero _)|n+1,m+1,.ch k ps,h,hd,hw=>by
  have au:((m+1:Nat):Int)-1=(m:Nat):=by omega
  have dl:=pJ (ps:=ps) (n:=m+1) hd;rw[q6];refine hR rfl ((oO (oh (iL (Y4 [.int (k:Nat),.t (ps.map enc)])))).trans ((oO (oh ((wN (iL rfl)).trans (zY (iL (Th hw.1 (by rw[akz];exact hw.2.1) (by rw[akz];exact hw.2.2.1))))))).trans (jj (m4 (Rb ps) (cons_of (ym rfl (by rw[akz];exact fU (by have:=hw.2.2.1;omega)) (qV enc _ ps λq a=>TG (call_of (rs:=[.v (enc q),.v (.int (((m+1:Nat):Int)-1))]) rfl ?_))) rfl)))));show rD n [enc q,.int (((m+1:Nat):Int)-1)]=_;rw[au];exact I0 n m q (Nat.lt_of_succ_lt_succ h) (Nat.le_of_lt_succ (dl q a)) (uw.mp hw.2.2.2 q a)
theorem NR:∀(n:Nat)(r:a8),r.deep<n->r.names.length<=12->mn n [enc r]=pure (.fr (r.names.map a'))
 |0,r,h,_=>absurd h (al2 _)| n+1,.kp k,_,_=>by rw[sF];exact CO rfl (Fw ((sZ (iL (o8 k))).trans rfl))|n+1,.ch k ps,h,aA=>by
  have dl:=pJ (ps:=ps) (n:=n) (Nat.lt_of_succ_lt_succ h);have aA:(a8.eM ps).length<=12:=aA;rw[q6];obtain⟨U',e,s,rfl⟩:=sM (b:=λd U=>vR (mn n) (U.set 2 (.v d))) (ds:=ps.map enc) (U:=[.v (.t [.int (k:Nat),.t (ps.map enc)]),.d9 false [],.e]) (λi U=>∃s,U=[.v (.t [.int (k:Nat),.t (ps.map enc)]),.d9 false ((a8.eM (ps.take i)).map a'),s]) ⟨_,rfl⟩ (λi d U hd ⟨s,g⟩=>by
   subst g;obtain⟨q,a,rfl⟩:=zO hd;have c:a8.eM (ps.take (i+1))=a8.eM (ps.take i)++q.names:=by rw[take_snoc a,wz];exact congrArg _ (alO _)
   have hl:(a8.eM (ps.take (i+1))).length<=12:=by
    have:=congrArg (λz=>(a8.eM z).length) (List.take_append_drop (i+1) ps);simp only[wz,akB]at this;omega
   rw[c,akB]at hl;have f:=NR n q (dl q (ak7 a)) (by omega);refine⟨_,.inl (?_:_=pure (fY.bu [.v (.t [.int (k:Nat),.t (ps.map enc)]),.d9 false ((a8.eM (ps.take (i+1))).map a'),.v (enc q)])),_,rfl⟩;rw[c,al1];have z:(a8.eM (ps.take i)).length+q.names.length<=akA:=ame (fU (by omega));unfold vR;simp[f,z])
  rw[akz,anP]at e;exact CO rfl ((oO (oh (iL (F1 [.int (k:Nat),.t (ps.map enc)])))).trans ((oO (acX (U:=[.v (.t [.int (k:Nat),.t (ps.map enc)]),.e,.e]))).trans ((oO (LA (it:=lj (ae aH (I 0) (af (.int 1)))) rfl e)).trans rfl)))
def Pe{r:a8}(h:Good r):wg [enc r]=pure (.v (.ax true)):=by
 have a:rD 12 [enc r,.int 4]=_:=I0 12 4 r (by decide) h.2.1 h.1;have aA:=NR 12 r (by have:=h.2.1;omega) h.2.2;have aF:(r.names.length:Int)<=12:=by have:=h.2.2;omega
 simp only[wg,HQ];simp[a,aA,aF]
def yu:Option Nat->D
 |some o=>a' o|none=>.aI
def Ui(m:Nat)(os:List Nat):wa [a' m,.l (os.map a')]=pure (.v (yu (os.find? (lP m)))):=by
 have step:∀(o:Nat)(s2:Slot),zm [.v (a' m),.bU (os.map a'),.v (a' o)]=if lP m o=true then pure (.cx (.v (a' o)))else pure (.bu [.v (a' m),.bU (os.map a'),.v (a' o)]):=λo s2=>by
  have e:(((m&&& o:Nat):Int)==0)=lP m o:=by
   unfold lP;rw[ama,beq_iff_eq,beq_iff_eq];omega
  have a:m&&& o=0↔lP m o=true:=by unfold lP;rw[beq_iff_eq]
  simp only[zm,gP];simp only[b8,aL,ae,I,TR];simp[Rd,a]
 have L:=sL (b:=λd U=>zm (U.set 2 (.v d))) a' (lP m) (λo=>.v (a' o)) (λU=>∃s2,U=[.v (a' m),.bU (os.map a'),s2]) os [.v (a' m),.bU (os.map a'),.e] ⟨_,rfl⟩
  (λo U _ ⟨s2,c⟩=>by
   subst c;refine⟨λh=>?_,λh=>⟨[.v (a' m),.bU (os.map a'),.v (a' o)],?_,_,rfl⟩⟩
   .have:=step o s2
    rw[if_pos h]at this;exact this
   .have:=step o s2
    rw[if_neg (by rw[h];exact akD)]at this;exact this)
 simp only[wa,Hs,Ht];simp only[gP m]at L ⊢
 cases e:os.find? (lP m)with
 |some o=>
  have:=L.1 o e;simp[this,yu]
 |none=>
  obtain⟨U',a,s2,rfl⟩:=L.2 e;simp[a,yu]
def q5(k:a8):Option Nat->D
 |some m=>.t [a' m,a' (((least k).find? (lP m)).getD 0)]|none=>.aI
def ac0(g:Good a)(i:Good k):zL [enc a,enc k]=pure (.v (q5 k ((least a).find? (j' k)))):=by
 have j:=Nr (r:=a) g.1 (by have:=g.2.1;omega) (by have:=g.2.2;omega);have n:=Nr (r:=k) i.1 (by have:=i.2.1;omega) (by have:=i.2.2;omega);have step:∀(m:Nat)(c:Slot),zq [.v (enc a),.v (enc k),.v (.l ((least k).map a')),.v (a' m),c]=if j' k m=true then pure (.cx (.v (q5 k (some m))))else pure (.bu [.v (enc a),.v (enc k),.v (.l ((least k).map a')),.v (a' m),.v .aI]):=λm c=>by
  have f:=Ui m (least k);unfold j';simp only[zq]
  cases e:(least k).find? (lP m)with
  |none=>
   rw[e]at f;simp[f,yu]
  |some o=>
   rw[e]at f;have f:wa [a' m,.l ((least k).map a')]=pure (.v (a' o)):=f;simp only[gP o]at f;simp[f,q5,e,gP o]
 have L:=sL (b:=λd U=>zq (U.set 3 (.v d))) a' (j' k) (λm=>.v (q5 k (some m))) (λU=>∃s3 c,U=[.v (enc a),.v (enc k),.v (.l ((least k).map a')),s3,c]) (least a) [.v (enc a),.v (enc k),.v (.l ((least k).map a')),.e,.e] ⟨_,_,rfl⟩
  (λm U _ ⟨s3,c,p⟩=>by
   subst p;refine⟨λh=>?_,λh=>⟨[.v (enc a),.v (enc k),.v (.l ((least k).map a')),.v (a' m),.v .aI],?_,_,_,rfl⟩⟩
   .have:=step m c
    rw[if_pos h]at this;exact this
   .have:=step m c
    rw[if_neg (by rw[h];exact akD)]at this;exact this)
 simp only[zL,Iz,IA,IB]
 cases e:(least a).find? (j' k)with
 |some m=>
  have:=L.1 m e;simp[j,n,this,q5]
 |none=>
  obtain⟨U',q,s3,c,rfl⟩:=L.2 e;simp[j,n,q,q5]
def Vo{a k:a8}(b:Good a)(c:Good k)(e:(least a).find? (j' k)=none):qa [.t [enc a,enc k]]=pure (.v (.ax true)):=by
 have pt:=ac0 b c;rw[e]at pt;simp only[qa,HJ,HK];simp[Oq,Pe b,Pe c,pt,q5]
def ov(c:Nat):Bool:=decide (97<=c/\c<=122)
def Bo:("abcdefghijklmnopqrstuvwxyz":Str).cps.toList=(akR 26).map λk=>97+k:=by decide +kernel
def Yq{c:Nat}(h:ov c=true):um (ch c) "abcdefghijklmnopqrstuvwxyz"=true:=by
 unfold um;have h:=of_decide_eq_true h;rw[show ch c=⟨#[c]⟩from rfl,StrLaws.found_one,Bo,decide_eq_true_eq];simp only[ak5,ali];exact⟨c-97,by omega,by omega⟩
def Ap{n:Nat}(h:n<=1000):n<=akA:=by rw[ak2];omega
def aao{l:List Nat}(f:1<=l.length)(d:l.length<=8)(b:l.all ov=true):wd [.str (bg l)]=pure (.v (.ax true)):=by
 have a:gn fJ (ae (rK false) (I 0) (af (.str "abcdefghijklmnopqrstuvwxyz"))) [.e] (l.map λc=>D.str (ch c))=pure (l.map λ_=>D.ax true):=
  qV (λc=>D.str (ch c)) (λ_=>D.ax true) l λc a=>by simp[Yq (alg.mp b c a)]
 have h:yl (bg l)=l.map λc=>D.str (ch c):=rfl
 obtain⟨j,g⟩:=AH l;have z:=Ap (n:=l.length) (by omega);have i:l.length<akA:=fU (by omega);have:(1:Int)<=l.length:=by omega
 have:(l.length:Int)<=8:=by omega
 simp only[wd,HN,HO];simp[*,oY]
def N3{n:Int}(b:-1000000000000000000000<n)(a:n<10000000000000000000000000000000000000000):we [.int n]=pure (.v (.ax true)):=by
 have e:(if n<0 then -n else n)<1000000000000000000000000000000000000000000000000000000000000:=by split<;>omega
 simp only[we,HP];simp[o8,e]
def Ue{n:Int}(a:0<=n)(b:n<4):zF [.int n]=pure (.v (.ax true)):=by
 simp only[zF,HI];simp[N3 (show -1000000000000000000000<n by omega) (by omega),a]
def e6(k:Str)(d:D):Prop:=oz [.str k,d]=pure (.v (.ax true))
def j7(a b:Str)(c:Bool):Prop:=oEq (.v (.str a)) (.v (.str b))=pure (.v (.ax c))
def yq:j7 "name" "name" true/\j7 "number" "name" false/\j7 "number" "number" true/\j7 "fence" "name" false/\j7 "fence" "number" false/\j7 "fence" "fence" true/\j7 "hall" "name" false/\j7 "hall" "number" false/\j7 "hall" "fence" false:=by
 unfold j7;exact⟨by kernel_rfl,by kernel_rfl,by kernel_rfl,by kernel_rfl,by kernel_rfl,by kernel_rfl,by kernel_rfl,by kernel_rfl,by kernel_rfl⟩
def adW{a:List Nat}(h:wd [.str (bg a)]=pure (.v (.ax true))):e6 "name" (.str (bg a)):=by
 have q:=yq.1;unfold j7 at q;simp only[e6,oz,uV,uW,uX,uY];simp[q,h]
def E6{n:Int}(b:-1000000000000000000000<n)(a:n<10000000000000000000000000000000000000000):e6 "number" (.int n):=by
 obtain⟨_,br,bS,_⟩:=yq;unfold j7 at *;simp only[e6,oz,uV,uW,uX,uY];simp[br,bS,N3 b a]
def adU{n:Int}(c:0<=n)(a:n<4):e6 "fence" (.int n):=by
 obtain⟨_,_,_,br,bS,b,_⟩:=yq;unfold j7 at *;simp only[e6,oz,uV,uW,uX,uY];simp[br,bS,b,Ue c a]
def adV{xs:List D}(h:qa [.t xs]=pure (.v (.ax true))):e6 "hall" (.t xs):=by
 obtain⟨_,_,_,_,_,_,br,bS,a⟩:=yq;unfold j7 at *;simp only[e6,oz,uV,uW,uX,uY];simp[br,bS,a,h]
theorem Je{el:bw}{U:aJ}:∀xs:List (D×D),(∀x∈xs,(el ((U.set 0 (.v x.1)).set 1 (.v x.2)) >>= R.dat)=pure (.ax true))->pY fJ el U xs=pure (xs.map λ_=>.ax true)
 |[],_=>rfl|x::xs,h=>by
  unfold pY;show(pure true >>= _)=_;rw[pure_bind,if_pos rfl,<-bind_assoc,h x akS,pure_bind,Je xs λy a=>h y (akL _ a),pure_bind];rfl
def Tx(x:D)(ps:List D):cutD (x::ps) (some 1) none=ps:=Tz (x::ps) 1
def n3{w:Str}{s:List Str}{ps:List D}(f:zj.lookup w=some (.t (s.map .str)))(c:ps.length=s.length)(s3:s.length<=3)(d:∀x∈s.zip ps,e6 x.1 x.2):nA [.t (.str w::ps)]=pure (.v (.ax true)):=by
 have ne:¬((s.length:Int)+1=0):=by omega
 have h:pY fJ (bo oz (aa (I 0) (aa (I 1) ai))) [.e,.e] ((s.map D.str).zip ps)=pure (((s.map D.str).zip ps).map λ_=>.ax true):=Je _ λx a=>by
  rw[List.zip_map_left]at a;obtain⟨y,b,rfl⟩:=ak5.mp a;have e:oz [.str y.1,y.2]=_:=d y b;simp[e]
 obtain⟨i,g⟩:=AH ((s.map D.str).zip ps);have uE:s.length<akA:=fU (by omega);simp only[nA,HE,HF,HG,HH,El,Hu];simp[f,c,Tx,h,i,g,uE,xw,R.walk,ne]
theorem yH:∀(m:Nat)(r:a8),r.deep<m->∀n,2*r.deep<=n->(enc r).b3 n=true
 |0,r,h,_,_=>absurd h (al2 _)| m+1,.kp k,_,n,_=>by rw[sF];cases n<;>rfl
 |m+1,.ch k ps,h,n,aA=>by
  simp only[a8.deep]at h aA;have dl:=pJ (ps:=ps) (n:=a8.lW ps+1) (by omega);rw[q6];obtain⟨a,rfl⟩:∃a,n=a+2:=⟨n-2,by omega⟩;have hz:hy (ps.map enc) a=true:=pR.mpr λp c=>by
   obtain⟨q,b,rfl⟩:=ak5.mp c;have:=dl q b;exact yH m q (by omega) a (by omega)
  simp[D.b3,hy,hz]
theorem P4:∀(m:Nat)(r:a8),r.deep<m->r.wf->(enc r).AR=true
 |0,r,h,_=>absurd h (al2 _)| m+1,.kp k,_,_=>by rw[sF];rfl|m+1,.ch k ps,h,hw=>by
  simp only[a8.deep]at h;have dl:=pJ (ps:=ps) (n:=a8.lW ps+1) (by omega);rw[q6];have hl:ps.length<=6:=hw.2.2.1;have hz:mB (ps.map enc)=true:=xk.mpr λp b=>by
   obtain⟨q,a,rfl⟩:=ak5.mp b;have:=dl q a;exact P4 m q (by omega) (uw.mp hw.2.2.2 q a)
  show(decide (2<=1000)&&(true&&((decide ((ps.map enc).length<=1000)&&mB (ps.map enc))&&true)))=true;rw[hz,akz,decide_eq_true (show ps.length<=1000 by omega)];rfl
def Lf{r:a8}(h:Good r):aE.Ok 8 (enc r):=⟨yH 12 r (by have:=h.2.1;omega) 8 (by have:=h.2.1;omega),P4 12 r (by have:=h.2.1;omega) h.1⟩
theorem NO:∀(m:Nat)(r:a8),r.deep<m->r.wf->∃j∈r.names,j<6
 |0,_,h,_=>absurd h (al2 _)|m+1,.kp k,_,hw=>⟨k,akY.mpr rfl,hw⟩
 |m+1,.ch k [],_,hw=>by
  have c:1<=k:=hw.1;have d:k<=0:=hw.2.1;omega
 |m+1,.ch k (p::ps),h,hw=>by
  simp only[a8.deep]at h;have dl:=pJ (ps:=p::ps) (n:=a8.lW (p::ps)+1) (by omega) p akS;obtain⟨j,a,b⟩:=NO m p (by omega) (uw.mp hw.2.2.2 p akS);exact⟨j,alp.mpr (.inl a),b⟩
def Lg(r:a8):b6 (enc r)=.v (enc r):=by cases r<;>rfl
def LP(b:Good a)(c:Good k):gI (iq a k) where
 ex:=⟨_,λm=>a.fills (cG m),λm=>k.fills (cG m),Z' b c,(by
   have:=aml (λj=>(a.names++k.names).contains j) (akR 6);rw[alZ]at this;exact this),(λj d=>ali.mp (alN.mp d).1),(by
   obtain⟨j,d,e⟩:=NO 12 a (by have:=b.2.1;omega) b.1;intro z;have:=List.filter_eq_nil_iff.mp z j (ali.mpr e);exact this (by simpa using amw d)),enc a,enc k,rfl,Lg a,Lg k,
   (λm=>yz m 12 a (by have:=b.2.1;omega) b.1),λm=>yz m 12 k (by have:=c.2.1;omega) c.1⟩
 no:=by
  have ga:=yH 12 a (by have:=b.2.1;omega) 63 (by have:=b.2.1;omega);have k_:=yH 12 k (by have:=c.2.1;omega) 63 (by have:=c.2.1;omega);unfold iq;rw[pN (x:=.v (.t [enc a,enc k])) (y:=.v (.str "over")) (pR.mpr (by simp only[aln];exact⟨ga,k_,λ_ h=>nomatch h⟩)) (by decide +kernel)];rfl
 ok:=mr (Lf b) (Lf c)
def mN:cN->Prop
 |.put a n=>e6 "name" (.str (bg a))/\e6 "number" (.int n)|.add a n=>e6 "name" (.str (bg a))/\e6 "number" (.int n)|.swap a o n=>e6 "name" (.str (bg a))/\e6 "number" (.int o)/\e6 "number" (.int n)|.take g=>e6 "fence" (.int g)|.renew g=>e6 "fence" (.int g)|.free g=>e6 "fence" (.int g)|.sure g a n=>e6 "fence" (.int g)/\e6 "name" (.str (bg a))/\e6 "number" (.int n)|.move h=>e6 "hall" h|.fin=>True
def YD{d:cN}(h:mN d):nA [d.D]=pure (.v (.ax true)):=by
 cases d with
 |put a n=>exact n3 (s:=["name","number"]) (by kernel_rfl) rfl (by decide) (by simpa[mN]using h)| add a n=>exact n3 (s:=["name","number"]) (by kernel_rfl) rfl (by decide) (by simpa[mN]using h)| swap a o n=>exact n3 (s:=["name","number","number"]) (by kernel_rfl) rfl (by decide) (by simpa[mN]using h)| take g=>exact n3 (s:=["fence"]) (by kernel_rfl) rfl (by decide) (by simpa[mN]using h)| renew g=>exact n3 (s:=["fence"]) (by kernel_rfl) rfl (by decide) (by simpa[mN]using h)| free g=>exact n3 (s:=["fence"]) (by kernel_rfl) rfl (by decide) (by simpa[mN]using h)| sure g a n=>exact n3 (s:=["fence","name","number"]) (by kernel_rfl) rfl (by decide) (by simpa[mN]using h)| move z=>exact n3 (s:=["hall"]) (by kernel_rfl) rfl (by decide) (by simpa[mN]using h)| fin=>exact n3 (s:=[]) (by kernel_rfl) rfl (by decide) (by simp)
def kS(s n:Nat):List Nat:=(akR n).map λk=>(s+k) % 6
def nH(s n:Nat):List D:=(kS s n).map a'
def nL(q s n:Nat):a8:=.ch q ((kS s n).map .kp)
theorem Jc(p:Nat->Bool):∀a:List Nat,a8.cnt p (a.map .kp)=(a.filter p).length
 |[]=>rfl|k::a=>by
  show(if p k then 1 else 0)+a8.cnt p (a.map .kp)=_;rw[Jc p a,anO];cases p k<;>simp<;>omega
theorem NP:∀a:List Nat,a8.eM (a.map .kp)=a
 |[]=>rfl| k::a=>by show[k]++a8.eM (a.map .kp)=_;rw[NP a];rfl
theorem K0:∀a:List Nat,a8.lW (a.map .kp)=0
 |[]=>rfl| k::a=>by show max 0 (a8.lW (a.map .kp))=0;rw[K0 a];rfl
def AE{q s n:Nat}(a:1<=q)(c:q<=n)(d:n<=6):Good (nL q s n):=by
 have hl:((kS s n).map a8.kp).length=n:=by simp[kS]
 refine⟨⟨a,by omega,by omega,uw.mpr λr aD=>?_⟩,?_,?_⟩
 .obtain⟨k,b,rfl⟩:=ak5.mp aD
  obtain⟨j,_,rfl⟩:=ak5.mp b;exact Nat.mod_lt _ (by decide)
 .show a8.lW _+1<=4;rw[K0];omega
 .show(a8.eM _).length<=12
  rw[NP];simp[kS];omega
def PG(q s n:Nat):enc (nL q s n)=.t [.int (q:Nat),.t (nH s n)]:=by
 unfold nL nH;rw[q6,amq];rfl
theorem Lv(p:Nat->Bool):∀a:List Nat,(a.filter p).length+(a.filter λk=>!p k).length=a.length
 |[]=>rfl|k::a=>by
  have:=Lv p a;rw[anO,anO,alb];cases p k<;>simp<;>omega
def afO(p:Nat->Bool)(q s n:Nat):(nL q s n).fills p=decide (q<=((kS s n).filter p).length):=by
 show decide (q<=a8.cnt p _)=_;rw[Jc]
def Vp{q r s n:Nat}(j:1<=q)(l:q<=n)(t:1<=r)(u:r<=n)(b:n<=6)(w:n<q+r):(least (nL q s n)).find? (j' (nL r s n))=none:=by
 have ga:=AE (s:=s) j l b;have k_:=AE (s:=s) t u b;have c:(kS s n).length=n:=by simp[kS]
 cases C:(least (nL q s n)).find? (j' (nL r s n))with
 |none=>rfl|some m=>
  have h:=amm C;have d:=anm C;obtain⟨i,mf,_⟩:=zt _ ga.1 h;unfold j' at d;obtain⟨o,lX⟩:=aoR.mp d;obtain⟨a,of,_⟩:=zt _ k_.1 (amm lX);have f:=anm lX;have g:=(Rh i a).mp f;rw[afO,decide_eq_true_eq]at mf of;have sp:=Lv (cG m) (kS s n);have le:((kS s n).filter (cG o)).length<=((kS s n).filter λk=>!cG m k).length:=by
   rw[<-aol,<-aol];refine List.countP_mono_left λk _ p=>?_
   cases e:cG m k with
   |false=>rfl|true=>exact(g k e p).elim
  omega
structure Bf(a k:a8):Prop where
 ga:Good a
 k_:Good k
 is:qa [iq a k]=pure (.v (.ax true))
def wL(b:Good a)(c:Good k)(h:(least a).find? (j' k)=none):Bf a k:=⟨b,c,Vo b c h⟩
def Pd(n d:Int)(m:Nat)(hd:pj n d):gn fJ (ae oMod (ae eN (ae e0 (I 1) (af (.int d))) (I 0)) (af (.int 6))) [.e,.v (.int n)] (en 0 m)=pure (nH (n / d % 6).toNat m):=by
 rw[Fn];have e:nH (n / d % 6).toNat m=(akR m).map λk=>a' (((n / d % 6).toNat+k) % 6):=by
  unfold nH kS;rw[amq];rfl
 rw[e];refine qV a' (λk=>a' (((n / d % 6).toNat+k) % 6)) (akR m) λk _=>?_
 have:(n / d+(k:Nat)) % 6=(((((n / d % 6).toNat+k) % 6:Nat)):Int):=by
  have:=mod_lt (a:=n / d) (b:=6) (by decide);omega
 rw[gP,gP];generalize(((n / d % 6).toNat+k) % 6:Nat)=z at *;simp[this,hd]
def ZC(s m:Nat):(nH s m).length=m:=by simp[nH,kS]
def Zs(c:Int):∃a k,Es [.int c]=pure (.v (iq a k))/\Bf a k:=by
 obtain⟨m,x,D,i⟩:∃m:Nat,1+c % 4+c / 4 % 2*(c / 8 % 3)=(m:Nat)/\1<=m/\m<=6:=by
  have B:=mod_lt (a:=c) (b:=4) (by decide);have A:=mod_lt (a:=c / 8) (b:=3) (by decide);have g:c / 4 % 2=0\/c / 4 % 2=1:=by omega
  rcases g with g|g<;>rw[g]
  .exact⟨(1+c % 4).toNat,by omega,by omega,by omega⟩
  .exact⟨(1+c % 4+c / 8 % 3).toNat,by omega,by omega,by omega⟩
 have mp:(0:Int)<(m:Int):=by omega
 obtain⟨q,eq,br,bS⟩:∃q:Nat,1+c / 144 % (m:Int)=(q:Nat)/\1<=q/\q<=m:=⟨(1+c / 144 % (m:Int)).toNat,by have:=mod_lt (a:=c / 144) mp;omega,by have:=mod_lt (a:=c / 144) mp;omega,by have:=mod_lt (a:=c / 144) mp;omega⟩;have f:(0:Int)<(q:Int):=by omega
 obtain⟨r,z,l,j,y⟩:∃r:Nat,(m:Int)+1-(q:Int)+c / 864 % (q:Int)=(r:Nat)/\1<=r/\r<=m/\m<q+r:=⟨((m:Int)+1-(q:Int)+c / 864 % (q:Int)).toNat,by have:=mod_lt (a:=c / 864) f;omega,by have:=mod_lt (a:=c / 864) f;omega,by have:=mod_lt (a:=c / 864) f;omega,by have:=mod_lt (a:=c / 864) f;omega⟩;have n:=Pd c 24 m (Ct (by decide) (by decide));generalize ay:(c / 24 % 6).toNat=s at n;have p:=ZC s m;refine⟨nL q s m,nL r s m,?_,wL (AE br bS i) (AE l j i) (Vp br bS l j i y)⟩;unfold iq;rw[PG,PG];have u:-4611686018427387904<=(m:Int)/\(m:Int)<4611686018427387904:=by omega
 have w:(nH s m).length+1<=akA:=by rw[p,ak2];omega
 have h:(en 0 m).length<akA:=by rw[ql,ak2];omega
 have d:iB (c / 4 % 2) (c / 8 % 3):=EB (by omega) (by omega);generalize nH s m=row at *;refine hR rfl (cR (U':=[.v (.int c),.v (.int m),.e,.e]) (km ?_) (cR (U':=[.v (.int c),.v (.int m),.v (.t row),.e]) (km (m4 (rs:=[.fr row]) ?_ (cons_of (ym (ds:=en 0 m) ?_ h n) rfl))) (cR (U':=[.v (.int c),.v (.int m),.v (.t row),.v (.int q)]) (km ?_) (jj (r0 rfl (r0 ?_ rfl))))))
 .rw[<-x];exact fj rfl rfl (fj (aaf d) rfl rfl)
 .simp[w]
 .simp[u]
 .rw[<-eq];exact fj rfl rfl (fj (tG mp) rfl rfl)
 .rw[<-z];exact fj rfl rfl (fj (tG f) rfl rfl)
def fA(s k:Nat):Nat:=(s+k) % 6
def t7(s:Nat):a8:=.ch 2 [.ch 2 [.kp (fA s 0),.kp (fA s 1),.kp (fA s 2)],.ch 2 [.kp (fA s 2),.kp (fA s 3),.kp (fA s 4)],.kp (fA s 0)]
def t8(s:Nat):a8:=.ch 2 [.kp (fA s 0),.kp (fA s 0),.kp (fA s 1)]
def t9(s:Nat):a8:=.ch 1 [.ch 2 [.kp (fA s 0),.kp (fA s 1)],.ch 2 [.kp (fA s 2),.kp (fA s 3)]]
def t_(s:Nat):a8:=.ch 2 [.ch 1 [.kp (fA s 0),.kp (fA s 1)],.ch 1 [.kp (fA s 2),.kp (fA s 3)]]
def Zf(s k:Nat):fA s k<6:=Nat.mod_lt _ (by decide)
def aes(s:Nat):Good (t7 s)/\Good (t8 s)/\Good (t9 s)/\Good (t_ s):=by
 have k:=Zf s;unfold t7 t8 t9 t_ Good;simp[a8.wf,a8.nM,a8.deep,a8.lW,a8.names,a8.eM,k]
def aet:∀s,s<6->((least (t7 s)).find? (j' (t7 s)))=none/\((least (t8 s)).find? (j' (t8 s)))=none/\((least (t9 s)).find? (j' (t_ s)))=none/\((least (t_ s)).find? (j' (t9 s)))=none:=by
 decide +kernel
def aeu(s:Nat):nH s 5=[a' (fA s 0),a' (fA s 1),a' (fA s 2),a' (fA s 3),a' (fA s 4)]:=rfl
def Np(c:Int):∃a k,wh [.int c]=pure (.v (iq a k))/\Bf a k:=by
 by_cases m:c % 5<3
 .obtain⟨a,k,e,o⟩:=Zs (c / 5)
  exact⟨a,k,hR rfl (st (gi m) (jj (call_of rfl e))),o⟩
 .have t:=Pd c 5 5 (Ct (by decide) (by decide))
  have j:(en 0 5).length<akA:=by rw[ql,ak2];omega
  have u:(c / 5 % 6).toNat<6:=by have:=mod_lt (a:=c / 5) (b:=6) (by decide);omega
  generalize(c / 5 % 6).toNat=s at *;obtain⟨n,p,q,r⟩:=aes s;obtain⟨w,x,i,h⟩:=aet s u;rw[aeu]at t;have pre:∀{d},H8 [.v (.int c),.v (.l [a' (fA s 0),a' (fA s 1),a' (fA s 2),a' (fA s 3),a' (fA s 4)]),.e,.e,.e]=pure (.cx (.v d))->wh [.int c]=pure (.v d):=λe=>hR rfl (fC (ik m) (cR (aeI (ym (ds:=en 0 5) rfl j t) rfl) e))
  by_cases g:c % 5=4
  .by_cases f:c / 30 % 3=0
   .exact⟨t8 s,t8 s,pre (st (gi g) (cR rfl (cR (sZ (gi f)) rfl))),wL p p x⟩
   .exact⟨t7 s,t7 s,pre (st (gi g) (cR rfl (cR (oh (ik f)) rfl))),wL n n w⟩
  .by_cases f:c / 30 % 2=0
   .exact⟨t9 s,t_ s,pre (fC (ik g) (cR rfl (cR rfl (st (gi f) rfl)))),wL q r i⟩
   .exact⟨t_ s,t9 s,pre (fC (ik g) (cR rfl (cR rfl (fC (ik f) rfl)))),wL r q h⟩
end dR
namespace dR
open PySem PySem.Spec aC aE
@[simp] theorem ajy:u4 c b U=r4 c b o5 U:=rfl
theorem P2{c:aJ->M Bool}{b:aP}(J:aJ->Prop)(a:aJ->Nat)(f:aJ->Prop)(step:∀U,J U->(c U=pure false/\f U)\/(c U=pure true/\∃U',(b U=pure (.bu U')\/b U=pure (.cy U'))/\J U'/\a U' < a U)) :
  ∀(n:Nat)(U:aJ),J U->a U<n->∃U',r4 c b n U=pure (.bu U')/\f U'
 |0,U,_,h=>absurd h (al2 _)|n+1,U,jF,h=>by
  rcases step U jF with⟨e,d⟩|⟨e,C,au,o,hm⟩
  .refine⟨U,?_,d⟩
   show(c U >>= _)=_;rw[e];rfl
  .obtain⟨g,aF,d⟩:=P2 J a f step n C o (by omega)
   refine⟨g,?_,d⟩;show(c U >>= _)=_;rw[e,pure_bind,if_pos rfl];rcases au with au|au<;>rw[au,pure_bind]<;>exact aF
def PX(h:n<16777216):n<o5:=by unfold o5;omega
def TC{α:Type}{xs:List α}{lo hi:Option Int}{v:α}(h:v∈cutD xs lo hi):v∈xs:=List.mem_of_mem_drop (List.mem_of_mem_take h)
end dR
namespace dR
open PySem PySem.Spec aC aE i3 gf jt
structure fO(l:List Nat):Prop where
 p1:1<=l.length
 wQ:l.length<=8
 al:l.all ov=true
def fO.ok(h:fO l):akW (bg l)=true:=ae4.mpr λc a=>by
 have:=alg.mp h.al c a;simp[ov]at this;omega
def fO.ix(h:fO l):lN l:=⟨h.ok,h.p1,h.wQ⟩
def fO.nb(h:fO l):e6 "name" (.str (bg l)):=adW (aao h.p1 h.wQ h.al)
def GL{i:Int}(b:0<=i)(h:i<26):∃c,aH (.v (.str "abcdefghijklmnopqrstuvwxyz")) (.v (.int i))=pure (.v (.str (bg [c])))/\ov c=true:=by
 obtain⟨c,e⟩:=x4 (xs:=("abcdefghijklmnopqrstuvwxyz":Str).cps.toList) (i:=i) b (by rw[Bo];simpa using h);refine⟨c,?_,?_⟩
 .show(match dY ("abcdefghijklmnopqrstuvwxyz":Str).cps.toList i with
   |some c=>if("abcdefghijklmnopqrstuvwxyz":Str).length<=akA then(pure (R.v (.str ⟨#[c]⟩)):M R)else bad| none=>bad)=_
  rw[e];dsimp only;rw[if_pos (Ap (by decide +kernel))];rfl
 .have:=Bw e
  rw[Bo]at this;obtain⟨k,a,rfl⟩:=ak5.mp this;have:=ali.mp a;simp[ov];omega
def af4{a:List Nat}(d:a.length<=8){i:Int}(b:0<=i)(h:i<(a.length:Int)):∃c,aH (.v (.str (bg a))) (.v (.int i))=pure (.v (.str (bg [c]))):=by
 obtain⟨c,e⟩:=x4 (xs:=(bg a).cps.toList) (i:=i) b h;refine⟨c,?_⟩;show(match dY (bg a).cps.toList i with
  |some c=>if(bg a).length<=akA then(pure (R.v (.str ⟨#[c]⟩)):M R)else bad| none=>bad)=_
 rw[e];dsimp only;rw[if_pos (Ap (by rw[oY];omega))];rfl
def TU:("":Str)=bg []:=by decide +kernel
def aha:("x":Str)=bg [120]:=by decide +kernel
def Zt(c:Int):∃a,Et [.int c]=pure (.v (.str (bg a)))/\fO a:=by
 have k:=mod_lt (a:=c) (b:=8) (by decide);obtain⟨z,hz,g⟩:∃z:Nat,1+c % 8=(z:Nat)/\1<=z/\z<=8:=⟨(1+c % 8).toNat,by omega,by omega,by omega⟩;obtain⟨U',e,c',a,rfl,d⟩:=P2 (b:=Ni) (c:=aL (ae oLt (cJ nc (aa (I 2) ai)) (I 1)))
  (λU=>∃(c':Int)(a:List Nat),U=[.v (.int c'),.v (.int (z:Nat)),.v (.str (bg a))]/\a.all ov=true/\a.length<=z)
  (λU=>match U[(2:Nat)]? with|some (.v (.str s))=>8-s.length|_=>0)
  (λU=>∃(c':Int)(a:List Nat),U=[.v (.int c'),.v (.int (z:Nat)),.v (.str (bg a))]/\fO a)
  (λU ⟨c',a,h,d,hl⟩=>by
   subst h
   by_cases i:a.length<z
   .refine .inr ⟨(iL (fj rfl (m4 (vS (by omega)) rfl) rfl)).trans (gi (by omega)),?_⟩
    have f:=mod_lt (a:=c' / 8) (b:=26) (by decide);obtain⟨ch,au,j⟩:=GL f.1 f.2;refine⟨[.v (.int (c' / 3)),.v (.int (z:Nat)),.v (.str (bg (a++[ch])))],.inl ?_,⟨_,_,rfl,by rw[an9,d];simpa using j,by rw[akB];exact i⟩,?_⟩
    .exact cR (km (fj (yj (y:=[ch]) (by simp;omega)) rfl (fj au rfl rfl))) rfl
    .show 8-(bg (a++[ch])).length<8-(bg a).length
     rw[oY,oY,akB,aly];omega
   .exact .inl ⟨(iL (fj rfl (m4 (vS (by omega)) rfl) rfl)).trans (ik (by omega)),c',a,rfl,by omega,by omega,d⟩) o5 [.v (.int c),.v (.int (z:Nat)),.v (.str (bg []))] ⟨_,_,rfl,rfl,alh _⟩ (PX (by show 8-(bg []).length<16777216;omega))
 refine⟨a,?_,d⟩;refine hR rfl (cR (U':=[.v (.int c),.v (.int (z:Nat)),.e]) (km (by rw[<-hz];rfl)) (cR (km (congrArg (λz=>pure (R.v (.str z))) TU)) (cR e rfl)))
def Bq{a:List Nat}(h:a.all ov=true)(lo hi:Option Int):(cutD a lo hi).all ov=true:=alg.mpr λx b=>alg.mp h x (TC b)
def Zu(c:Int):∃a b d,zI [.int c]=pure (.fr [.str (bg a),.str (bg b),.str (bg d)])/\fO a/\fO b/\fO d:=by
 obtain⟨a,w,g⟩:=Zt c;have wQ:=g.wQ;have k:(0:Int)<(a.length:Int):=by have:=g.p1;omega
 have D:a.length<=akA:=Ap (by omega);obtain⟨t,A,F⟩:∃t:Nat,c / 5 % (a.length:Int)=(t:Nat)/\t<a.length:=⟨(c / 5 % (a.length:Int)).toNat,by have:=mod_lt (a:=c / 5) k;omega,by have:=mod_lt (a:=c / 5) k;omega⟩;obtain⟨x,ex⟩:=af4 wQ (i:=(t:Int)) (by omega) (by omega);generalize p:(aok "abcdefghijklmnopqrstuvwxyz" (bg [x])+1+c / 7 % 25) % 26=f at *;have n:0<=f/\f<26:=by subst p;exact mod_lt (by decide)
 obtain⟨o,lX,u⟩:=GL n.1 n.2;have bf:cutD a none (some (t:Int))=a.take t:=TA _ _ (by omega);have m:cutD a (some ((t:Int)+1)) none=a.drop (t+1):=TB a (t+1) (by omega);have eI:cutD a none (some 7)=a.take 7:=TF a 7;have r:(a.take t).length+[o].length<=1000:=by simp;omega
 have s:(a.take t).length+[o].length+(a.drop (t+1)).length<=1000:=by simp;omega
 have B:fO (a.take t++[o]++a.drop (t+1)):=⟨by simp;omega,by simp;omega,by
  rw[an9,an9,<-bf,<-m,Bq g.al,Bq g.al];simpa using u⟩
 generalize a.take t=T at *;generalize a.drop (t+1)=σ at *;have ba:∀{U:aJ}{i:Nat}{lo hi:lK}{l h:Option Int},I i U=pure (.v (.str (bg a)))->lo U=pure l->hi U=pure h->sv (I i) lo hi U=pure (.v (.str (bg (cutD a l h)))):=λau aF cO=>by
  show(I _ _ >>= _)=_;rw[au];show(_ >>= _)=_;rw[aF];show(_ >>= _)=_;rw[cO];simp[oY,D,Tv]
 have pre:∀{d},fO d->H9 [.v (.int c),.v (.str "abcdefghijklmnopqrstuvwxyz"),.v (.str (bg a)),.v (.int t),.v (.str (bg [o])),.v (.str (bg (a++[120])))]=H_ [.v (.int c),.v (.str "abcdefghijklmnopqrstuvwxyz"),.v (.str (bg a)),.v (.int t),.v (.str (bg [o])),.v (.str (bg d))]->
   ∃a b d,zI [.int c]=pure (.fr [.str (bg a),.str (bg b),.str (bg d)])/\fO a/\fO b/\fO d:=λ{d} fB e=>by
  refine⟨a,T++[o]++σ,d,CO rfl (cR rfl (cR (km (call_of rfl w)) (cR (km (fj (tG k) rfl (m4 (vS (by omega)) rfl))) ?_))),g,B,fB⟩;rw[A];refine cR (U':=[.v (.int c),.v (.str "abcdefghijklmnopqrstuvwxyz"),.v (.str (bg a)),.v (.int t),.v (.str (bg [o])),.e]) (km (fj lX rfl ?_)) (cR (km (fj (yj (y:=[120]) (by simp;omega)) rfl (congrArg (λz=>pure (R.v (.str z))) aha))) (e.trans ?_))
  .rw[<-p]
   refine fj (tG (by decide)) (fj (x:=.v (.int (aok "abcdefghijklmnopqrstuvwxyz" (bg [x])+1))) rfl (fj (x:=.v (.int (aok "abcdefghijklmnopqrstuvwxyz" (bg [x])))) rfl ?_ rfl) rfl) rfl;show(aa (ae aH (I 2) (I 3)) ai _ >>= _)=_;rw[cons_of (fj ex rfl rfl) rfl];rfl
  .have q:=ba (U:=[.v (.int c),.v (.str "abcdefghijklmnopqrstuvwxyz"),.v (.str (bg a)),.v (.int t),.v (.str (bg [o])),.v (.str (bg d))]) (i:=2) (lo:=lV) (hi:=m6 (I 3)) (h:=some t) rfl rfl rfl
   have s2:=ba (U:=[.v (.int c),.v (.str "abcdefghijklmnopqrstuvwxyz"),.v (.str (bg a)),.v (.int t),.v (.str (bg [o])),.v (.str (bg d))]) (i:=2) (lo:=m6 (ae eN (I 3) (af (.int 1)))) (hi:=lV) (l:=some (t+1)) rfl rfl rfl;rw[bf]at q;rw[m]at s2;exact aek (Nz (cons_of rfl (cons_of (fj (yj (by rw[akB];exact s)) (fj (yj r) q rfl) s2) (cons_of rfl rfl))) rfl (ale rfl))
 by_cases E:a.length=8
 .have j:(a.length:Int)=8:=by omega
  have s3:=ba (U:=[.v (.int c),.v (.str "abcdefghijklmnopqrstuvwxyz"),.v (.str (bg a)),.v (.int t),.v (.str (bg [o])),.v (.str (bg (a++[120])))]) (i:=2) (lo:=lV) (hi:=m6 (af (.int 7))) (h:=some 7) rfl rfl rfl;rw[eI]at s3;exact pre ⟨by rw[alT];omega,by rw[alT];omega,by rw[<-eI];exact Bq g.al _ _⟩ (cR ((sZ ((iL (fj CC (m4 (vS (by omega)) rfl) rfl)).trans (gi j))).trans (km s3)) rfl)
 .have j:¬((a.length:Int)=8):=by omega
  exact pre ⟨by simp,by simp;omega,by rw[an9,g.al];rfl⟩ (cR (oh ((iL (fj CC (m4 (vS (by omega)) rfl) rfl)).trans (ik j))) rfl)
def sm(W:List (List Nat))(x:Option cN):Prop:=∀y,x=some y->jr gI W y/\mN y
def KZ(hw:fO w)(j:w∈W)(N:List D)(d c n:Int)(aA:e6 "number" (.int n)) :
  ∃x,BU [.bU N,.v (.int d),.v (.int c),.v (.str (bg w)),.v (.int n),.v (.int (d / 96 % 4)),.v (.int (d % 16))]=pure (.cx (.v (dp x)))/\sm W x:=by
 have B:=mod_lt (a:=d) (b:=16) (by decide);have E:=mod_lt (a:=d / 96) (b:=3) (by decide);have r:=mod_lt (a:=d / 96) (b:=4) (by decide);have i:=adU r.1 r.2;generalize d / 96 % 4=g at *;generalize d % 16=y at *;have nb:=hw.nb;have ix:=hw.ix
 by_cases p:y<5
 .exact⟨some (.add w n),st (gi p) rfl,λy e=>by cases e;exact⟨⟨ix,j⟩,nb,aA⟩⟩
 refine sI (fC (ik p) rfl) ?_
 by_cases m:y<7
 .exact⟨some (.put w n),st (gi m) rfl,λy e=>by cases e;exact⟨⟨ix,j⟩,nb,aA⟩⟩
 refine sI (fC (ik m) rfl) ?_
 by_cases s:y=7
 .exact⟨some (.swap w (d / 96 % 3) n),st (gi s) rfl,λy e=>by cases e;exact⟨⟨ix,j⟩,nb,E6 (by omega) (by omega),aA⟩⟩
 refine sI (fC (ik s) rfl) ?_
 by_cases z:y=8
 .exact⟨some (.take g),st (gi z) rfl,λy e=>by cases e;exact⟨trivial,i⟩⟩
 refine sI (fC (ik z) rfl) ?_
 by_cases u:y=9
 .obtain⟨v,A,x,ex,o⟩:=pick (λv=>∃x,v=dp x/\sm W x) [.t [.str "renew",.int g],.t [.str "free",.int g],.t [.str "sure",.int g,.str (bg w),.int n]] (d / 400) 3 rfl (by decide) (by
   simp only[aln];exact⟨⟨some (.renew g),rfl,λy e=>by cases e;exact⟨trivial,i⟩⟩,⟨some (.free g),rfl,λy e=>by cases e;exact⟨trivial,i⟩⟩,⟨some (.sure g w n),rfl,λy e=>by cases e;exact⟨⟨ix,j⟩,i,nb,aA⟩⟩,λ_ h=>nomatch h⟩)
  subst ex;exact⟨x,st (gi u) (jj (fj (YK A) rfl rfl)),o⟩
 refine sI (fC (ik u) rfl) ?_
 by_cases f:y=10\/y=11
 .obtain⟨a,k,e,l⟩:=Np (d / 96)
  refine⟨some (.move (iq a k)),st ?_ (jj (r0 rfl (call_of rfl e))),λy e=>by cases e;exact⟨⟨⟨_,rfl⟩,LP l.ga l.k_⟩,adV l.is⟩⟩;rcases f with f|f
  .exact acv (gi f)
  .exact(wN (ik (by omega))).trans (gi f)
 refine sI (fC ((wN (ik λe=>f (.inl e))).trans (ik λe=>f (.inr e))) rfl) ?_
 by_cases q:y=12
 .by_cases bS:d / 96 % 3=0
  .exact⟨some .fin,st ((GO (gi q)).trans (gi bS)) rfl,λy e=>by cases e;exact⟨trivial,trivial⟩⟩
  .exact⟨none,fC ((GO (gi q)).trans (ik bS)) rfl,λy e=>by cases e⟩
 .exact⟨none,fC (Rc (ik q)) rfl,λy e=>by cases e⟩
def Zr(k:fO a)(j:fO b)(hd:fO d)(f c:Int):∃x,zH [.l [.str (bg a),.str (bg b),.str (bg d)],.int f,.int c]=pure (.v (dp x))/\sm [a,b,d] x:=by
 obtain⟨v,m,w,rfl,hw,i⟩:=pick (λv=>∃w,v=.str (bg w)/\fO w/\w∈[a,b,d]) [.str (bg a),.str (bg b),.str (bg d)] (f / 16) 3 rfl (by decide) (by simp only[aln];exact⟨⟨a,rfl,k,by simp⟩,⟨b,rfl,j,by simp⟩,⟨d,rfl,hd,by simp⟩,λ_ h=>nomatch h⟩);have q:=mod_lt (a:=c) (b:=10000000000000000000000000000000000000000) (by decide);have p:=mod_lt (a:=f / 96) (b:=3) (by decide);generalize[D.str (bg a),.str (bg b),.str (bg d)]=N at *;have pre:∀{n:Int}{x},b8 (aL (ae oEq (ae oMod (ae e0 (I 1) (af (.int 48))) (af (.int 2))) (af (.int 1)))) (cn 4 (ae oMod (ae e0 (I 1) (af (.int 96))) (af (.int 3)))) bQ [.bU N,.v (.int f),.v (.int c),.v (.str (bg w)),.v (.int (c % 10000000000000000000000000000000000000000-100000000000000000000)),.e,.e]=pure (.bu [.bU N,.v (.int f),.v (.int c),.v (.str (bg w)),.v (.int n),.e,.e])->BU [.bU N,.v (.int f),.v (.int c),.v (.str (bg w)),.v (.int n),.v (.int (f / 96 % 4)),.v (.int (f % 16))]=pure (.cx (.v (dp x)))->zH [.l N,.int f,.int c]=pure (.v (dp x)):=λau e=>
  hR rfl (cR (km (fj (x:=.bU N) (by show(match dY N (f / 16 % 3)with|some d=>pure (R.v d)|none=>bad)=_;rw[m]) rfl rfl)) (cR (U':=[.bU N,.v (.int f),.v (.int c),.v (.str (bg w)),.v (.int (c % 10000000000000000000000000000000000000000-100000000000000000000)),.e,.e]) (by with_unfolding_all rfl) (cR au (cR rfl (cR rfl e)))))
 by_cases g:f / 48 % 2=1
 .obtain⟨x,e,o⟩:=KZ hw i N f c (f / 96 % 3) (E6 (by omega) (by omega))
  exact⟨x,pre ((sZ (gi g)).trans rfl) e,o⟩
 .obtain⟨x,e,o⟩:=KZ hw i N f c (c % 10000000000000000000000000000000000000000-100000000000000000000) (E6 (by omega) (by omega))
  exact⟨x,pre (oh (ik g)) e,o⟩
theorem Qi{c:aJ->M Bool}{b:b2}(J:aJ->bH->Prop)(d:aJ->Nat)(g:aJ->bH->Prop)(step:∀U S,J U S->(aB S (c U) false/\g U S)\/(aB S (c U) true/\∃U' a,bC S (b U) (.bu U') a/\J U' a/\d U' < d U)) :
  ∀(n:Nat)(U:aJ)(S:bH),J U S->d U<n->∃U' a,bC S (uC (fM c) b n U) (.bu U') a/\g U' a
 |0,U,S,_,h=>absurd h (al2 _)|n+1,U,S,jF,h=>by
  rcases step U S jF with⟨e,f⟩|⟨e,C,S1,au,o,hm⟩
  .exact⟨U,S,(aB.to e).bind rfl,f⟩
  .obtain⟨j,i,aF,f⟩:=Qi J d g step n C S1 o (by omega)
   exact⟨j,i,(aB.to e).bind (by rw[if_pos rfl];exact au.bind aF),f⟩
theorem Gf{b:D->b2}(J:Nat->aJ->bH->Prop):∀(ds:List D)(j:Nat)(U:aJ)(S:bH),J j U S->(∀i d U S,ds[i]? = some d->J (j+i) U S->∃U' a,bC S (b d U) (.bu U') a/\J (j+i+1) U' a)->∃U' a,bC S (nO b ds U) (.bu U') a/\J (j+ds.length) U' a
 |[],j,U,S,h,_=>⟨U,S,rfl,h⟩
 |d::ds,j,U,S,h,step=>by
  obtain⟨m,S1,n,f⟩:=step 0 d U S rfl h;obtain⟨k,c,l,g⟩:=Gf J ds (j+1) m S1 f λi e U S he hi=>by
   rw[show j+1+i=j+(i+1)by omega]at hi ⊢;exact step (i+1) e U S he hi
  exact⟨k,c,ag6 n l,by rw[alb,show j+(ds.length+1)=j+1+ds.length by omega];exact g⟩
structure i6(S:bH)(i:Nat)(p:ig)(h:c2)(r n:Nat)(R N:List D):Prop where
 at':eb S i p h
 jk:S[r]? = some (.l R)
 nm:S[n]? = some (.l N)
 aD:¬p.has i r
 aA:¬p.has i n
 ne:r≠n
def nums(h:c2):List D:=h.as.map λa=>.int a.wi
section
variable{S ao:bH}{i r n k:Nat}{p d3:ig}{h h':c2}{R N:List D}{a:bD}{U:aJ}
def X4(H:eb S i p h)(e:h.as[k]? = some a):aB S (p9 [.ref i,.int k]) (.v a.cw):=by
 obtain⟨x,ex,A⟩:=H.ex e;exact kd rfl (iU (iv A.bb (s' H ex rfl rfl) rfl cK (Oh A)))
def zi(H:eb S i p h)(e:h.as[k]? = some a)(b:I j U=pure (.v (.ref i)))(hl:I l U=pure (.v (.int k))):aB S (c0 "House" "stand" mh (I j) (aa (I l) ai) U) (.v (.str a.bz)):=iv H.bb (.of b) rfl (bJ (.of hl) cK) (X6 H e)
def DS(H:eb S i p h)(e:h.as[k]? = some a)(b:I j U=pure (.v (.ref i)))(hl:I l U=pure (.v (.int k))):aB S (c0 "House" "outcome" p9 (I j) (aa (I l) ai) U) (.v a.cw):=iv H.bb (.of b) rfl (bJ (.of hl) cK) (X4 H e)
theorem eb.keep(H:eb S i p h)(q:∀y o,p.has i y->S[y]? = some o->ao[y]? = some o):eb ao i p h:=
 ⟨q _ _ (.inl rfl) H.bb,q _ _ (.inr (.inl (by simp))) H.al,q _ _ (.inr (.inl (by simp))) H.bs,q _ _ (.inr (.inl (by simp))) H.ls,q _ _ (.inr (.inl (by simp))) H.rs,H.len,λj x a ex b=>by
  have B:=H.as j x a ex b;have m:=ak7 ex;exact⟨q _ _ (.inr (.inr ⟨x,m,.inl rfl⟩)) B.bb,q _ _ (.inr (.inr ⟨x,m,.inr rfl⟩)) B.ls⟩,H.nl,H.tN,H.fB⟩
def i6.step(W:i6 S i p h r n R N)(s:k4 S ao i p d3 h'):i6 ao i d3 h' r n R N:=
 ⟨s.at',s.fr _ _ W.aD W.jk,s.fr _ _ W.aA W.nm,λz=>(s.nw _ z).elim W.aD λz=>by have:=jd W.jk;omega,λz=>(s.nw _ z).elim W.aA λz=>by have:=jd W.nm;omega,W.ne⟩
def i6.ki(W:i6 S i p h r n R N)(b:List D):i6 (S.set r (.l b)) i p h r n b N:=
 ⟨W.at'.keep λy o c e=>by rw[akF (show r≠y from λz=>W.aD (z▸c))];exact e,get_set W.jk,by rw[akF W.ne];exact W.nm,W.aD,W.aA,W.ne⟩
def i6.putN(W:i6 S i p h r n R N)(b:List D):i6 (S.set n (.l b)) i p h r n R b:=
 ⟨W.at'.keep λy o c e=>by rw[akF (show n≠y from λz=>W.aA (z▸c))];exact e,by rw[akF (am9 W.ne)];exact W.jk,get_set W.nm,W.aD,W.aA,W.ne⟩
theorem MZ{xs:List D}(h:S[n]? = some (.l xs))(z:xs.length<=1000)(b:I j U=pure (.v (.ref n))):aB S (iu (aa (cJ fS (aa (e9 (I j)) ai)) ai) U) (en 0 xs.length):=
 (bJ (rt (f:=fS) (r:=.v (.int xs.length)) rfl (bJ (jN h (.of b)) cK)) cK).bind (by
  show aB S (if -(2 ^ 62)<=(xs.length:Int)/\(xs.length:Int)<2 ^ 62 then pure (en 0 (xs.length:Int).toNat)else bad) _;rw[if_pos (by omega)];exact .of rfl)
def z3(h:c2):(nums h).length=h.as.length:=akz _
def N4(e:h.as[k]? = some a):(nums h)[k]? = some (.int a.wi):=by unfold nums;rw[akN,e];rfl
theorem qB.rows(B:qB h L Y h'):h'.as.length=h.as.length/\∃q:Nat->List D,q 0=h.rs/\q h.as.length=h'.rs/\∀(j:Nat)(A b:bD),h.as[j]? = some A->h'.as[j]? = some b->
  b.wi=A.wi/\(((!(A.bz == "calm"))&&(b.bz == "calm"))=false/\q (j+1)=q j\/((!(A.bz == "calm"))&&(b.bz == "calm"))=true/\(∃w x K I O,L=.t [w,x,.int j,K,I,O])/\(eS b.cw=false/\aE.Ok 12 b.cw)/\q (j+1)=q j++[.t [.str "end",.int j,.int A.wi,b.cw,.int h.ls.length]]):=by
 have same:∀A:bD,((!(A.bz == "calm"))&&(A.bz == "calm"))=false:=λA=>by cases A.bz == "calm"<;>rfl
 cases B with
 |keeper y V d g T M f m=>
  refine⟨by rw[f],λ_=>h.rs,rfl,m.symm,λj A b l d=>?_⟩;rw[f,l]at d;cases d;exact⟨rfl,.inl ⟨same _,rfl⟩⟩
 |@asker x H e s F P y fr M u f m E Q=>
  have G:=(akw.mp u).1;refine⟨by rw[f,ak8],λj=>if j<=x then h.rs else h'.rs,if_pos (alh _),if_neg (by omega),λj A b l d=>?_⟩;rw[f]at d
  by_cases c:x=j
  .subst c
   rw[akU G]at d;cases d;rw[u]at l;cases l;refine⟨E,?_⟩;dsimp only;rw[if_pos (akE _),if_neg (by omega),m]
   cases q:((!(F.bz == "calm"))&&(P.bz == "calm"))with
   |false=>exact .inl ⟨rfl,if_neg akD⟩|true=>
    refine .inr ⟨rfl,?_,?_,?_⟩
    .rcases y with⟨kp,w,z⟩|z|⟨p,z⟩<;>exact⟨_,_,_,_,_,z⟩
    .rw[ak0]at q
     exact Q (λz=>by rw[z]at q;exact absurd q.1 (by simp)) (by simpa using q.2)
    .rw[if_pos rfl,E]
  .rw[akF c,l]at d
   cases d;refine⟨rfl,.inl ⟨same _,?_⟩⟩;dsimp only
   by_cases ae:j<=x
   .rw[if_pos ae,if_pos (by omega)]
   .rw[if_neg ae,if_neg (by omega)]
end
abbrev jW(i k r n:Nat)(L:D)(m:Int)(a:List D)(s:Slot):aJ:=[.v (.ref i),.v (.int k),.v (.ref r),.v (.ref n),.v L,.v (.int m),.v (.l a),s]
def kn(h:c2)(j:Nat):D:=match h.as[j]? with
 |some a=>.str a.bz|none=>.aI
def Yy(a b:Int):dI (.v (.int a)) (.v (.int b))=pure (.v (.ax (!(a==b)))):=by simp
section
variable{Γ:e4}{h h':c2}{S:bH}{i r n k:Nat}{p:ig}{R:List D}
def ZJ(H:ff Γ h)(H':ff Γ h'){L:D}{j:Nat}{A b:bD}(s:h.as[j]? = some A)(c:h'.as[j]? = some b)(W:i6 S i p h' r n R (nums h))(Q:R.length<=100010)(m:Int){u:List D}(N:j<h.as.length)
  (q:((!(A.bz == "calm"))&&(b.bz == "calm"))=false/\u=R\/((!(A.bz == "calm"))&&(b.bz == "calm"))=true/\(∃w x F E K,L=.t [w,x,.int j,F,E,K])/\(eS b.cw=false/\aE.Ok 12 b.cw)/\u=R++[.t [.str "end",.int j,.int A.wi,b.cw,.int m]]) :
  ∃B,bC S (D1 (jW i k r n L m ((akR h.as.length).map (kn h)) (.v (.int (j:Nat))))) (.bu (jW i k r n L m ((akR h.as.length).map (kn h)) (.v (.int (j:Nat))))) B/\i6 B i p h' r n u (nums h):=by
 have P:=H.as j A s;have g:=H'.as j b c;have M:((akR h.as.length).map (kn h))[j]? = some (.str A.bz):=by
  rw[akN,amc N];show some (kn h j)=_;unfold kn;rw[s]
 generalize O:(akR h.as.length).map (kn h)=o at *;have bf:aB S (aL (ae dI (ae aH (I 6) (I 7)) (af (.str "calm"))) (jW i k r n L m o (.v (.int (j:Nat))))) (!(A.bz == "calm")):=cF (cz (sy P.bz) (cz (x:=.v (.l o)) (YL (i7 j M)) (.of rfl) (.of rfl)) (.of rfl));have eI:aB S (aL (ae oEq (c0 "House" "stand" mh (I 0) (aa (I 7) ai)) (af (.str "calm"))) (jW i k r n L m o (.v (.int (j:Nat))))) (b.bz == "calm"):=cF (cz (calm_eq g.bz) (zi W.at' c rfl rfl) (.of rfl));have fin:∀{T:bH},eb T i p h'->bC T ((b9 (b8 (gr (aL (ae dI (c0 "House" "stand" mh (I 0) (aa (I 7) ai)) (af (.str "calm")))) (aL (ae hF (c0 "House" "outcome" p9 (I 0) (aa (I 7) ai)) (af (.aI))))) (aY (af (.ax false))) bQ)) (jW i k r n L m o (.v (.int (j:Nat))))) (.bu (jW i k r n L m o (.v (.int (j:Nat))))) T:=λ{T} c1=>by
  have f:aB T (aL (ae dI (c0 "House" "stand" mh (I 0) (aa (I 7) ai)) (af (.str "calm"))) (jW i k r n L m o (.v (.int (j:Nat))))) (!(b.bz == "calm")):=cF (cz (sy g.bz) (zi c1 c rfl rfl) (.of rfl));have G:aB T (aL (ae hF (c0 "House" "outcome" p9 (I 0) (aa (I 7) ai)) (af .aI)) (jW i k r n L m o (.v (.int (j:Nat))))) (!eS b.cw):=cF (cz (wF b.cw) (DS c1 c rfl rfl) (.of rfl));refine aB.to (l_ ?_ (.of rfl))
  cases e:(b.bz == "calm")with
  |true=>rw[e]at f;exact ll f|false=>
   rw[e]at f;have z:=g.cw (λz=>by rw[z]at e;exact absurd e (by simp));rw[z]at G;exact hZ f G
 rcases q with⟨z,rfl⟩|⟨z,⟨w,x,F,E,K,C⟩,cw,rfl⟩
 .refine⟨S,dd (mD (aB.to (a:=false) ?_) rfl) (fin W.at'),W⟩
  cases au:(!(A.bz == "calm"))with
  |false=>rw[au]at bf;exact ll bf|true=>rw[au]at bf z;rw[Bool.true_and]at z;rw[z]at eI;exact hZ bf eI
 .rw[ak0]at z
  rw[z.1]at bf;rw[z.2]at eI;have y:=W.ki (R++[.t [.str "end",.int j,.int A.wi,b.cw,.int m]]);refine⟨_,dd (mE (aB.to (hZ bf eI)) (dd (U':=jW i k r n L m o (.v (.int (j:Nat)))) (aB.to (l_ (nv ?_ ?_) (.of rfl))) (xp (.of rfl) (bJ (l' (rs:=[.v (.str "end"),.v (.int j),.v (.int A.wi),.v b.cw,.v (.int m)]) (ds:=[.str "end",.int j,.int A.wi,b.cw,.int m]) (bJ (.of rfl) (bJ (.of rfl) (bJ (cz (rr (i7 j (N4 s))) (jN W.nm (.of rfl)) (.of rfl)) (bJ (DS W.at' c rfl rfl) (bJ (.of rfl) cK))))) rfl (ale rfl)) cK) W.jk (by rw[ak2];omega)))) (fin y.at'),y⟩
  .subst C
   exact cF (cz (x:=.v (.int j)) (by rw[Yy,beq_self_eq_true];rfl) (.of rfl) (.of rfl))
  .have d:=cF (cz (s9 b.cw) (DS W.at' c (U:=jW i k r n L m o (.v (.int (j:Nat)))) (j:=0) (l:=7) rfl rfl) (.of (m:=af .aI _) rfl))
   rw[cw.1]at d;exact d
end
def N8(f:aE.Ok n a)(g:aE.Ok n b)(i:aE.Ok n c)(j:aE.Ok n d)(k:aE.Ok n e):aE.Ok (n+1) (.t [a,b,c,d,e]):=rN (by simp) (by simp only[aln];exact⟨f,g,i,j,k,λ_ h=>nomatch h⟩)
def aeo(n:Nat):en 0 n=(akR n).map λj:Nat=>D.int (j:Nat):=by rw[Fn];exact anj λj _=>gP j
def SG(O:Γ.Ok){h:c2}(H:ff Γ h)(o:k<h.ls.length)(hz:h.ls.length<=900000)(aD:h.rs.length<=100000)(aq:h.as.length<=6){S:bH}{i r n:Nat}(W:i6 S i p h r n h.rs (nums h)) :
  ∃f d3 h',bC S (tx [.ref i,.int k,.ref r,.ref n]) (.v (.ax true)) f/\i6 f i d3 h' r n h'.rs (nums h')/\ff Γ h'/\h.ls.length<=h'.ls.length/\h'.ls.length<=h.ls.length+6/\h'.rs.length<=h.rs.length+1/\h.j2 h'/\h'.as.length=h.as.length/\((∀x∈h.rs,aE.Ok 13 x)->∀x∈h'.rs,aE.Ok 13 x):=by
 have el:h.ls[k]? = some h.ls[k]:=akJ _;have lt:=D9 W.at' el;obtain⟨Y,h',g,H',P,Z,J,sw,B⟩:=SH H O o hz aD;obtain⟨p3,q,l,iV,G⟩:=B.rows;generalize h.ls[k]=L at *;have nl:=z3 h;obtain⟨S1,p1,t1,s1⟩:=g S i p W.at';have I:=W.step s1;have w:h.as.length<akA:=by rw[ak2];omega
 have m:∀j,j<=h.as.length->(q j).length<=h.rs.length+j:=λj=>by
  induction j with
  |zero=>intro _;rw[l];exact akE _|succ j a=>
   intro c;have a:=a (by omega);obtain⟨_,z|z⟩:=G j _ _ (akJ (show j<h.as.length by omega)) (akJ (show j<h'.as.length by omega))
   .rw[z.2];omega
   .rw[z.2.2.2,akB,aly];omega
 have s:(∀x∈h.rs,aE.Ok 13 x)->∀j,j<=h.as.length->∀x∈q j,aE.Ok 13 x:=λF j=>by
  induction j with
  |zero=>intro _;rw[l];exact F|succ j a=>
   intro c;have a:=a (by omega);obtain⟨_,z|z⟩:=G j _ _ (akJ (show j<h.as.length by omega)) (akJ (show j<h'.as.length by omega))
   .rw[z.2];exact a
   .rw[z.2.2.2]
    intro x X;rcases alp.mp X with y|y
    .exact a x y
    .rw[akY.mp y]
     exact N8 (hH (by decide +kernel)) dS dS z.2.2.1.2 dS
 have nw:nums h'=nums h:=by
  unfold nums;refine aoE λj=>?_
  rw[akN,akN];have:=sw j
  cases au:h.as[j]? with
  |none=>rw[au]at this;cases aF:h'.as[j]? with
   |none=>rfl|some b=>rw[aF]at this;cases this
  |some A=>rw[au]at this;cases aF:h'.as[j]? with
   |none=>rw[aF]at this;cases this
   |some b=>rw[aF]at this;exact congrArg some (congrArg D.int (ak1 this))
 have pre:∀{T:bH}{K:fY},bC S1 (H2 (jW i k r n L (h.ls.length:Nat) ((akR h.as.length).map (kn h)) .e)) K T->bC S (H0 [.v (.ref i),.v (.int k),.v (.ref r),.v (.ref n),.e,.e,.e,.e]) K T:=λt=>by
  refine dd (U':=[.v (.ref i),.v (.int k),.v (.ref r),.v (.ref n),.v L,.e,.e,.e]) (aB.to (h1 (iv W.at'.bb (.of rfl) rfl (bJ (x:=.v (.int k)) (.of rfl) cK) lt) rfl)) ?_;refine dd (U':=[.v (.ref i),.v (.int k),.v (.ref r),.v (.ref n),.v L,.v (.int (h.ls.length:Nat)),.e,.e]) (aB.to (h1 (p0 W.at' rfl) rfl)) ?_;refine dd (U':=jW i k r n L (h.ls.length:Nat) ((akR h.as.length).map (kn h)) .e) (aB.to (h1 (r:=.fr ((akR h.as.length).map (kn h))) (DQ (MZ W.nm (by omega) rfl) (by rw[ql,nl];exact w) ?_) rfl)) ?_
  .rw[nl,aeo]
   refine ze (λj:Nat=>D.int (j:Nat)) (kn h) (akR h.as.length) λj c=>?_
   have e:=akJ (ali.mp c);have u:kn h j=.str (h.as[j]'(ali.mp c)).bz:=by unfold kn;rw[e]
   rw[u];exact zi W.at' e rfl rfl
  .exact dd (xq (lE (rs:=[.v (.int k)]) W.at'.bb (.of rfl) rfl (aB.to (.of rfl)) rfl t1)) t
 obtain⟨U',R,e,E,rfl,Q⟩:=Gf (b:=λd U=>D1 (U.set 7 (.v d))) (λj U T=>∃E,U=jW i k r n L (h.ls.length:Nat) ((akR h.as.length).map (kn h)) E/\i6 T i p1 h' r n (q j) (nums h))
  (en 0 h.as.length) 0 (jW i k r n L (h.ls.length:Nat) ((akR h.as.length).map (kn h)) .e) S1 ⟨_,rfl,by rw[l];exact I⟩ (λj d U T hd ⟨E,C,V⟩=>by
   subst C;obtain⟨c,M⟩:=Ak hd;rw[Int.zero_add]at M;subst M;rw[amQ]at V ⊢;have N:=akJ c;have g:=akJ (show j<h'.as.length by omega);obtain⟨f,t,uS⟩:=ZJ (k:=k) H H' (L:=L) N g V (by have:=m j (by omega);omega) (h.ls.length:Nat) c (G j _ _ N g).2;exact⟨_,f,t,_,rfl,uS⟩)
 rw[amQ,ql,iV]at Q;refine⟨R,p1,h',r7 rfl (pre (dd (Qa (by rw[<-nl];exact MZ I.nm (by omega) rfl) e) (aB.to (.of rfl)))),by rw[nw];exact Q,H',by rw[P,akB];omega,by rw[P,akB];omega,J,sw,p3,λF=>by rw[<-iV];exact s F _ (akE _)⟩
def ZP(h:j0 Γ L):∃(w:Str)(b c:Nat)(g f i:aE.D),L=.t [.str w,.int b,.int c,g,f,i]/\akW w=true/\((w == "ask" || w == "tell")=true/\c<6\/(w == "ask" || w == "tell")=false/\b<6):=by
 cases h with
 | @ask me k e s C o J=>exact⟨"ask",me,k,_,_,_,rfl,by decide +kernel,.inl ⟨by decide +kernel,o⟩⟩| @tell me k e s p n d w C o J U=>exact⟨"tell",me,k,_,_,_,rfl,by decide +kernel,.inl ⟨by decide +kernel,o⟩⟩| @grant k a e s kp w C o J U eW=>exact⟨"grant",k,a,_,_,_,rfl,by decide +kernel,.inr ⟨by decide +kernel,o⟩⟩| @kept k a e s C o=>exact⟨"kept",k,a,_,_,_,rfl,by decide +kernel,.inr ⟨by decide +kernel,o⟩⟩| @late k a e s p C o=>exact⟨"late",k,a,_,_,_,rfl,by decide +kernel,.inr ⟨by decide +kernel,o⟩⟩
def ae8(h:c2):h.j2 h:=λ_=>rfl
def ae9{h h' c:c2}(a:h.j2 h')(b:h'.j2 c):h.j2 c:=λi=>(b i).trans (a i)
structure i2(Γ:e4)(S:bH)(i:Nat)(p:ig)(h:c2)(r n:Nat):Prop where
 lD:i6 S i p h r n h.rs (nums h)
 ok:ff Γ h
 pl:∀x∈h.rs,aE.Ok 13 x
structure dz(h h':c2)(b:Nat):Prop where
 ls:h'.ls.length<=h.ls.length+6*b
 Nv:h.ls.length<=h'.ls.length
 rs:h'.rs.length<=h.rs.length+b
 sw:h.j2 h'
 as:h'.as.length=h.as.length
def dz.refl(h:c2):dz h h 0:=⟨by omega,akE _,by omega,ae8 h,rfl⟩
def dz.trans(x:dz h o a)(y:dz o C b):dz h C (a+b):=⟨by have:=x.ls;have:=y.ls;omega,ald x.Nv y.Nv,by have:=x.rs;have:=y.rs;omega,ae9 x.sw y.sw,y.as.trans x.as⟩
section
variable{Γ:e4}(O:Γ.Ok)
include O
theorem IX{h:c2}(d:k<h.ls.length)(hz:h.ls.length<=900000)(aD:h.rs.length<=100000)(c:h.as.length<=6){S:bH}{i r n:Nat}(V:i2 Γ S i p h r n) :
  ∃a b h',bC S (tx [.ref i,.int k,.ref r,.ref n]) (.v (.ax true)) a/\i2 Γ a i b h' r n/\dz h h' 1:=by
 obtain⟨a,b,h',t,W,H,f,j,e,sw,g,pl⟩:=SG O V.ok d hz aD c V.lD;exact⟨a,b,h',t,⟨W,H,pl V.pl⟩,by omega,f,e,sw,g⟩
abbrev gS(i:Nat)(st c m:Int)(r n k:Nat)(a b:Slot):aJ:=[.v (.ref i),.v (.int st),.v (.int c),.v (.int m),.v (.ref r),.v (.ref n),.v (.int (k:Nat)),a,b]
theorem SX{h:c2}(s:k<h.ls.length)(hz:h.ls.length<=900000)(aD:h.rs.length<=100000)(M:h.as.length<=6){S:bH}{i r n:Nat}(V:i2 Γ S i p h r n)(st a m:Int)(z g:Slot) :
  ∃l Q h' G H,∃b:Nat,bC S (zo (gS i st a m r n k z g)) (.bu (gS i st a (m-(b:Nat)) r n (k+1) G H)) l/\b<=1/\i2 Γ l i Q h' r n/\dz h h' b:=by
 have A:=V.lD.at';have el:h.ls[k]? = some h.ls[k]:=akJ _;have lt:=D9 A el;obtain⟨w,c,d,P,N,Y,B,d9,cs⟩:=ZP (V.ok.ls _ (ami s));obtain⟨S1,p1,K,e,Z,X⟩:=IX O s hz aD M V;rw[B]at lt;have br:=jm d9 (show akW "ask"=true by decide +kernel);have bS:=jm d9 (show akW "tell"=true by decide +kernel);clear cs B el;generalize f:D.t [.str w,.int c,.int d,P,N,Y]=L at *;have F:aH (.v L) (.v (.int 0))=pure (.v (.str w)):=by subst f;rfl
 have R:aH (.v L) (.v (.int 1))=pure (.v (.int c)):=by subst f;rfl
 have W:aH (.v L) (.v (.int 2))=pure (.v (.int d)):=by subst f;rfl
 obtain⟨kp,cO⟩:∃kp:Nat,aB S (b8 (gb (aL (ae oEq (ae aH (I 7) (af (.int 0))) (af (.str "ask")))) (aL (ae oEq (ae aH (I 7) (af (.int 0))) (af (.str "tell"))))) (cn 8 (ae aH (I 7) (af (.int 2)))) bQ (gS i st a m r n k (.v L) (.v (.int c)))) (.bu (gS i st a m r n k (.v L) (.v (.int kp)))):=by
  generalize(w == "ask")=o at *;generalize(w == "tell")=C at *;have e:aB S (aL (ae oEq (ae aH (I 7) (af (.int 0))) (af (.str "ask"))) (gS i st a m r n k (.v L) (.v (.int c)))) o:=cF (cz br (cz (x:=.v L) F (.of rfl) (.of rfl)) (.of rfl));have u:aB S (aL (ae oEq (ae aH (I 7) (af (.int 0))) (af (.str "tell"))) (gS i st a m r n k (.v L) (.v (.int c)))) C:=cF (cz bS (cz (x:=.v L) F (.of rfl) (.of rfl)) (.of rfl));have E:aB S (cn 8 (ae aH (I 7) (af (.int 2))) (gS i st a m r n k (.v L) (.v (.int c)))) (.bu (gS i st a m r n k (.v L) (.v (.int d)))):=h1 (cz (x:=.v L) W (.of rfl) (.of rfl)) rfl
  cases o with
  |true=>exact⟨d,pZ (DR e) E⟩|false=>
   cases C with
   |true=>exact⟨d,pZ (nv e u) E⟩|false=>exact⟨c,l_ (nv e u) (.of rfl)⟩
 have cC:aB S (aL (ae oEq (ae rI (ae tS (I 2) (I 8)) (af (.int 1))) (af (.int 1))) (gS i st a m r n k (.v L) (.v (.int kp)))) (decide (al6 (a / 2 ^ kp) 1=1)):=.of (by simp;rfl);have pre:∀{T:bH}{y:Int},bC S (e2 (fM (aL (ae oEq (ae rI (ae tS (I 2) (I 8)) (af (.int 1))) (af (.int 1))))) (bE (b9 (cn 3 (ae nD (I 3) (af (.int 1))))) (e2 (uA (uB (o9 tx (ez (aa (I 0) (aa (I 6) (aa (I 4) (aa (I 5) ai)))))))) (b9 (aY (af (.ax false)))) (b9 bQ))) (b9 bQ) (gS i st a m r n k (.v L) (.v (.int kp)))) (.bu (gS i st a y r n k (.v L) (.v (.int kp)))) T->bC S (zo (gS i st a m r n k z g)) (.bu (gS i st a y r n (k+1) (.v L) (.v (.int kp)))) T:=λq=>by
  refine dd (U':=gS i st a m r n k (.v L) g) (aB.to (h1 (iv A.bb (.of rfl) rfl (bJ (x:=.v (.int k)) (.of rfl) cK) lt) rfl)) ?_;refine dd (U':=gS i st a m r n k (.v L) (.v (.int c))) (aB.to (h1 (cz (x:=.v L) R (.of rfl) (.of rfl)) rfl)) ?_;refine dd (aB.to cO) ?_;exact dd q (aB.to (.of rfl))
 by_cases j:al6 (a / 2 ^ kp) 1=1
 .rw[decide_eq_true j]at cC
  refine⟨S1,p1,K,_,_,1,pre (mE (aB.to cC) (dd (U':=gS i st a (m-1) r n k (.v L) (.v (.int kp))) (aB.to (.of rfl)) (mD (Qd (x:=true) (P_ (x_call (rs:=[.v (.ref i),.v (.int k),.v (.ref r),.v (.ref n)]) (.of rfl) rfl e))) rfl))),akE _,Z,X⟩
 .rw[decide_eq_false j]at cC
  refine⟨S,p,h,_,_,0,by rw[show m-((0:Nat):Int)=m by omega];exact pre (mD (aB.to cC) rfl),by omega,V,.refl h⟩
theorem SW{h:c2}{st:Nat}(ay:st<=h.ls.length)(hz:h.ls.length<=800000)(aD:h.rs.length<=90000)(M:h.as.length<=6)(f:Int){m:Nat}(P:m<=26){S:bH}{i r n:Nat}{p:ig}(V:i2 Γ S i p h r n) :
  ∃s u h',∃b:Nat,bC S (Ep [.ref i,.int st,.int f,.int m,.ref r,.ref n]) (.v (.ax true)) s/\i2 Γ s i u h' r n/\dz h h' b/\b<=26:=by
 obtain⟨U',s,e,g,u,k,b,a,d,x,rfl,B,G,w⟩:=Qi (b:=zo) (c:=gr (aL (ae oLt (I 6) (c0 "House" "many" kJ (I 0) ai))) (aL (ae qh (I 3) (af (.int 0)))))
  (λU T=>∃(g:c2)(q:ig)(k j:Nat)(a d:Slot),U=gS i st f ((m:Int)-(j:Nat)) r n k a d/\i2 Γ T i q g r n/\dz h g j/\j<=m)
  (λU=>match U[(6:Nat)]? with|some (.v (.int k))=>900000-k.toNat|_=>0)
  (λU T=>∃(g:c2)(q:ig)(k b:Nat)(a d:Slot)(x:Int),U=gS i st f x r n k a d/\i2 Γ T i q g r n/\dz h g b/\b<=26)
  (λU T ⟨g,q,k,j,a,d,D,B,G,L⟩=>by
   subst D;have N:=G.ls;have j9:=G.rs;have ga:=G.as;have l:aB T (aL (ae oLt (I 6) (c0 "House" "many" kJ (I 0) ai)) (gS i st f ((m:Int)-(j:Nat)) r n k a d)) (decide ((k:Int)<g.ls.length)):=cF (cz rfl (.of rfl) (p0 B.lD.at' rfl));have t:aB T (aL (ae qh (I 3) (af (.int 0))) (gS i st f ((m:Int)-(j:Nat)) r n k a d)) (decide ((m:Int)-(j:Nat) > 0)):=.of rfl
   by_cases bf:k<g.ls.length
   .rw[decide_eq_true (by omega)]at l
    by_cases K:j<m
    .rw[decide_eq_true (by omega)]at t
     obtain⟨H,E,g',y,z,b,e,w,A,F⟩:=SX O bf (by omega) (by omega) (by omega) B st f ((m:Int)-(j:Nat)) a d;refine .inr ⟨hZ l t,_,H,e,⟨g',E,k+1,j+b,y,z,?_,A,G.trans F,by omega⟩,?_⟩
     .rw[show(m:Int)-(j:Nat)-(b:Nat)=(m:Int)-((j+b:Nat):Int)by omega]
     .show 900000-((k+1:Nat):Int).toNat<900000-((k:Nat):Int).toNat
      omega
    .rw[decide_eq_false (by omega)]at t
     exact .inl ⟨hZ l t,g,q,_,j,_,_,_,rfl,B,G,by omega⟩
   .rw[decide_eq_false (by omega)]at l
    exact .inl ⟨ll l,g,q,_,j,_,_,_,rfl,B,G,by omega⟩) o5 (gS i st f m r n st .e .e) S ⟨h,p,st,0,.e,.e,by simp,V,.refl h,alh _⟩ (PX (by show 900000-((st:Nat):Int).toNat<16777216;omega))
 exact⟨s,u,g,b,r7 rfl (dd (U':=gS i st f m r n st .e .e) (aB.to (.of rfl)) (dd e (aB.to (.of rfl)))),B,G,w⟩
end
abbrev fX(i:Nat)(N:List D)(r n:Nat)(c k a b b_ st:Int)(d e:Slot):aJ:=[.v (.ref i),.bU N,.v (.ref r),.v (.ref n),.v (.int c),.v (.int k),.v (.int a),.v (.int b),.v (.int b_),.v (.int st),d,e]
structure xO(W:List (List Nat))(na:Nat)(w:Nat->List (Option cN))(h:c2)(n:Nat):Prop where
 ko:∀(k:Nat)(A:bD),h.as[k]? = some A->A.wi=((w k).length:Nat)
 wu:many w<=n
 ds:∀(k:Nat)(d:Option cN)(x:cN),d∈w k->d=some x->jr gI W x
 ls:h.ls.length<=200*n
 rs:h.rs.length<=40*n
def FJ{w:Nat->List (Option cN)}{h h':c2}(sw:h.j2 h')(ko:∀(k:Nat)(A:bD),h.as[k]? = some A->A.wi=((w k).length:Nat)):∀(k:Nat)(A:bD),h'.as[k]? = some A->A.wi=((w k).length:Nat):=λk A e=>by
 have:=sw k;rw[e]at this
 cases q:h.as[k]? with
 |none=>rw[q]at this;cases this
 |some B=>
  rw[q]at this;injection this with this
  have:=ko k B q;omega
def Uj(y:cN):∃ix:Str,aH (.v y.D) (.v (.int 0))=pure (.v (.str ix))/\akW ix=true/\(R.v y.D).kb=false:=by
 cases y with
 |put a n=>exact⟨"put",by simp[cN.D],by decide +kernel,rfl⟩| add a n=>exact⟨"add",by simp[cN.D],by decide +kernel,rfl⟩| swap a o n=>exact⟨"swap",by simp[cN.D],by decide +kernel,rfl⟩| take g=>exact⟨"take",by simp[cN.D],by decide +kernel,rfl⟩| renew g=>exact⟨"renew",by simp[cN.D],by decide +kernel,rfl⟩| free g=>exact⟨"free",by simp[cN.D],by decide +kernel,rfl⟩| sure g a n=>exact⟨"sure",by simp[cN.D],by decide +kernel,rfl⟩| move z=>exact⟨"move",by simp[cN.D],by decide +kernel,rfl⟩| fin=>exact⟨"end",by simp[cN.D],by decide +kernel,rfl⟩
def T_{h:c2}(m:h.as[b_]? = some A){S:bH}(B:eb S i p h)(N:List D)(r n:Nat)(c k a b st:Int)(j:sm W x)(d:Slot) :
  ∃l,aB S (b8 (gr (aL (ae hF (I 10) (af (.aI)))) (gr (aL (ae oEq (ae aH (I 10) (af (.int 0))) (af (.str "move")))) (aL (ae qh (ae aH (c0 "House" "place" v3 (I 0) (aa (I 8) ai)) (af (.int 0))) (af (.int 6)))))) (cn 10 (af (.aI))) bQ (fX i N r n c k a b (b_:Nat) st (.v (dp x)) d)) (.bu (fX i N r n c k a b (b_:Nat) st (.v (dp l)) d))/\sm W l:=by
 have nn:aB S (aL (ae hF (I 10) (af .aI)) (fX i N r n c k a b (b_:Nat) st (.v (dp x)) d)) (!eS (dp x)):=cF (cz (wF (dp x)) (.of rfl) (.of rfl))
 cases x with
 |none=>exact⟨none,l_ (ll nn) (.of rfl),j⟩|some y=>
  obtain⟨ix,au,d9,_⟩:=Uj y;have br:=jm d9 (show akW "move"=true by decide +kernel);have q:(!eS (dp (some y)))=true:=by cases y<;>rfl
  rw[q]at nn;have f:aB S (aL (ae oEq (ae aH (I 10) (af (.int 0))) (af (.str "move"))) (fX i N r n c k a b (b_:Nat) st (.v (dp (some y))) d)) (ix == "move"):=cF (cz br (cz (x:=.v y.D) au (.of rfl) (.of rfl)) (.of rfl));have g:aB S (aL (ae qh (ae aH (c0 "House" "place" v3 (I 0) (aa (I 8) ai)) (af (.int 0))) (af (.int 6))) (fX i N r n c k a b (b_:Nat) st (.v (dp (some y))) d)) (decide (A.cp > 6)):=cF (cz (x:=.v (.int A.cp)) rfl (cz (x:=.v (.t [.int A.cp,A.h,A.op])) rfl (iv B.bb (.of rfl) rfl (bJ (x:=.v (.int b_)) (.of rfl) cK) (X5 B m)) (.of rfl)) (.of rfl))
  cases o:(ix == "move")with
  |false=>rw[o]at f;exact⟨some y,l_ (hZ nn (ll f)) (.of rfl),j⟩|true=>
   rw[o]at f
   cases C:decide (A.cp > 6)with
   |false=>rw[C]at g;exact⟨some y,l_ (hZ nn (hZ f g)) (.of rfl),j⟩| true=>rw[C]at g;exact⟨none,pZ (hZ nn (hZ f g)) (.of rfl),λy e=>by cases e⟩
def YB{W:List (List Nat)}(u:W.length<63){na:Nat}(aA:na<=6){w:Nat->List (Option cN)}{h:c2}(H:ff (g_ W na w) h)(ko:∀(k:Nat)(A:bD),h.as[k]? = some A->A.wi=((w k).length:Nat))(wu:many w<=59)
  (ds:∀(k:Nat)(d:Option cN)(x:cN),d∈w k->d=some x->jr gI W x) (hz:h.ls.length<=800000) (aD:h.rs.length<=90000) {b_:Nat}{A:bD}(b:h.as[b_]? = some A) (ay:A.bz="calm") (m:A.bR=false) {x:Option cN}(g:sm W x) :
  ∃h' R,h.Do p7 [.int b_,dp x] (.fr R) h'/\ff (g_ W na (addW w b_ x)) h'/\(∀(k:Nat)(A:bD),h'.as[k]? = some A->A.wi=((addW w b_ x k).length:Nat))/\many (addW w b_ x)=many w+1/\
   (∀(k:Nat)(d:Option cN)(y:cN),d∈addW w b_ x k->d=some y->jr gI W y)/\h.ls.length<=h'.ls.length/\h'.ls.length<=h.ls.length+6/\h'.rs=h.rs++[.t [.str "begin",.int b_,.int (A.wi+1),dp x,.int h.ls.length]]/\h'.as=h.as.set b_ (A.pD (dp x)).asks:=by
 have D:b_<na:=(H.as b_ A b).lt;have l:b_<6:=by omega
 have j:∀(k:Nat)(d:Option cN)(y:cN),d∈addW w b_ x k->d=some y->jr gI W y:=λk d y c e=>by
  unfold addW at c
  by_cases q:k=b_
  .rw[if_pos q]at c
   rcases alp.mp c with z|z
   .exact ds b_ d y z e
   .rw[akY.mp z]at e
    exact(g y e).1
  .rw[if_neg q]at c
   exact ds k d y c e
 have r:=Q4 (w:=w) l x;have n:(g_ W na (addW w b_ x)).Ok:=yL u aA (by omega) j;have H':=ff.mono (UY (W:=W) (na:=na) (Q6 w b_ x)) H;have hd:x=none\/nA [dp x]=pure (.v (.ax true)):=by
  cases x with
  |none=>exact .inl rfl|some y=>exact .inr (YD (g y rfl).2)
 have hw:(g_ W na (addW w b_ x)).mV b_ (A.wi+1) x:=by
  rw[ko b_ A b];exact Q5 l x
 obtain⟨Y,h',e,G,i,E,s,f,p⟩:=X0 n H' b ay m hd hw (by omega) (by omega);refine⟨h',_,e,G,λk B a=>?_,r,j,by rw[i,akB];omega,by rw[i,akB];omega,s,f⟩;rw[f]at a;unfold addW
 by_cases q:k=b_
 .subst q
  rw[akU (akw.mp b).1]at a;injection a with a
  rw[if_pos rfl,<-a,akB];have:=ko k A b;show A.wi+1=_;rw[this];rfl
 .rw[akF (λz=>q z.symm)]at a
  rw[if_neg q];exact ko k B a
def aca{Γ:e4}{d:Option cN}(h:∀x,d=some x->jr gI Γ.W x):aE.Ok 10 (dp d):=by
 cases d with
 |none=>exact oK|some x=>
  have b:=h x rfl
  cases x with
  |put a n=>exact nE (hH (by decide +kernel)) (hH b.1.1) dS| add a n=>exact nE (hH (by decide +kernel)) (hH b.1.1) dS| swap a o n=>exact ET (hH (by decide +kernel)) (hH b.1.1) dS dS| take g=>exact mr (hH (by decide +kernel)) dS| renew g=>exact mr (hH (by decide +kernel)) dS| free g=>exact mr (hH (by decide +kernel)) dS| sure g a n=>exact ET (hH (by decide +kernel)) dS (hH b.1.1) dS| move z=>exact mr (hH (by decide +kernel)) b.2.ok| fin=>exact ab6 (hH (by decide +kernel))
def abY{h h':c2}{B:bD}(e:h'.as=h.as.set b_ B):nums h'=(nums h).set b_ (.int B.wi):=by unfold nums;rw[e,List.map_set]
def abX(sw:h.j2 h'):nums h'=nums h:=by
 unfold nums;refine aoE λj=>?_
 rw[akN,akN];have:=sw j
 cases au:h.as[j]? with
 |none=>rw[au]at this;cases aF:h'.as[j]? with
  |none=>rfl|some b=>rw[aF]at this;cases this
 |some A=>rw[au]at this;cases aF:h'.as[j]? with
  |none=>rw[aF]at this;cases this
  |some b=>rw[aF]at this;exact congrArg some (congrArg D.int (ak1 this))
def T8{a b d:List Nat}(aq:fO a)(ab:fO b)(hd:fO d){na:Nat}(aA:na<=6){w:Nat->List (Option cN)}{h:c2}{S:bH}{i r n:Nat}{p:ig}(V:i2 (g_ [a,b,d] na w) S i p h r n)(ko:∀(k:Nat)(A:bD),h.as[k]? = some A->A.wi=((w k).length:Nat))(wu:many w<=59)
  (ds:∀(k:Nat)(d':Option cN)(x:cN),d'∈w k->d'=some x->jr gI [a,b,d] x) (hz:h.ls.length<=800000) (aD:h.rs.length<=90000) {b_:Nat}(U:b_<na) (c k m g:Int) :
  ∃L h' ly S1 p1,i2 (g_ [a,b,d] na L) S1 i p1 h' r n/\(∀{J C},bC S1 (BV (fX i [.str (bg a),.str (bg b),.str (bg d)] r n c k m g (b_:Nat) (h.ls.length:Nat) ly .e)) J C->bC S (H7 (fX i [.str (bg a),.str (bg b),.str (bg d)] r n c k m g (b_:Nat) (h.ls.length:Nat) .e .e)) J C)/\(∀(k:Nat)(A:bD),h'.as[k]? = some A->A.wi=((L k).length:Nat))/\many L<=many w+1/\
   (∀(k:Nat)(d':Option cN)(y:cN),d'∈L k->d'=some y->jr gI [a,b,d] y)/\h.ls.length<=h'.ls.length/\h'.ls.length<=h.ls.length+6/\h'.rs.length<=h.rs.length+1:=by
 have O:(g_ [a,b,d] na w).Ok:=yL (by simp) aA (by omega) ds;have H:=V.ok;have B:=V.lD.at';obtain⟨A,s,ha⟩:=H.asker U;have hl:b_<h.as.length:=(akw.mp s).1;generalize Cx:[D.str (bg a),.str (bg b),.str (bg d)]=N;have F:aB S (aL (ae dI (c0 "House" "stand" mh (I 0) (aa (I 8) ai)) (af (.str "calm"))) (fX i N r n c k m g (b_:Nat) (h.ls.length:Nat) .e .e)) (!(A.bz == "calm")):=cF (cz (sy ha.bz) (zi B s rfl rfl) (.of rfl));have ej:aB S (ep (aL (c0 "House" "knows_over" zD (I 0) (aa (I 8) ai))) (fX i N r n c k m g (b_:Nat) (h.ls.length:Nat) .e .e)) (!A.bR):=jO (cF (iv B.bb (.of rfl) rfl (bJ (x:=.v (.int b_)) (.of rfl) cK) (X3 B s)))
 by_cases ay:A.bz="calm"
 .rw[ay,beq_self_eq_true]at F
  cases o:A.bR with
  |true=>
   rw[o]at ej;exact⟨w,h,.e,S,p,V,λq=>dd (mD (aB.to F) (mD (aB.to ej) rfl)) q,ko,by omega,ds,akE _,by omega,by omega⟩
  |false=>
   rw[o]at ej;obtain⟨x,ex,P⟩:=Zr aq ab hd g c;rw[Cx]at ex;obtain⟨f,em,X⟩:=T_ (W:=[a,b,d]) s B N r n c k m g (h.ls.length:Nat) P .e;obtain⟨h',R,cB,G,FI,am,il,K,cj,Q,Rk⟩:=YB (by simp) aA H ko wu ds hz aD s ay o X;have E:=V.lD.putN ((nums h).set b_ (.int (A.wi+1)));have M:=E.ki (h.rs++[.t [.str "begin",.int b_,.int (A.wi+1),dp f,.int h.ls.length]]);obtain⟨cI,wO,t3,s3⟩:=cB _ i p M.at';have Q0:=M.step s3;have nn:nums h'=(nums h).set b_ (.int (A.wi+1)):=abY Rk;have cO:bC S (uy (I 3) (I 8) (dr (ae eN (ae aH (e9 (I 3)) (I 8)) (af (.int 1)))) (fX i N r n c k m g (b_:Nat) (h.ls.length:Nat) (.v (dp f)) .e)) (.bu (fX i N r n c k m g (b_:Nat) (h.ls.length:Nat) (.v (dp f)) .e)) (S.set n (.l ((nums h).set b_ (.int (A.wi+1))))):=
    Qb (j:=b_) (aB.to (cz (x:=.v (.int A.wi)) rfl (cz (rr (i7 b_ (N4 s))) (jN V.lD.nm (.of rfl)) (.of rfl)) (.of rfl))) rfl (.of rfl) (.of rfl) V.lD.nm (by rw[z3];exact hl)
   have gp:((nums h).set b_ (.int (A.wi+1)))[b_]? = some (.int (A.wi+1)):=akU (by rw[z3];exact hl);have eJ:bC (S.set n (.l ((nums h).set b_ (.int (A.wi+1))))) (kX jo (I 2) (aa (bO (aa (af (.str "begin")) (aa (I 8) (aa (ae aH (e9 (I 3)) (I 8)) (aa (I 10) (aa (I 9) ai)))))) ai) (fX i N r n c k m g (b_:Nat) (h.ls.length:Nat) (.v (dp f)) .e)) (.bu (fX i N r n c k m g (b_:Nat) (h.ls.length:Nat) (.v (dp f)) .e)) _:=
    xp (.of rfl) (bJ (l' (rs:=[.v (.str "begin"),.v (.int b_),.v (.int (A.wi+1)),.v (dp f),.v (.int h.ls.length)]) (ds:=[.str "begin",.int b_,.int (A.wi+1),dp f,.int h.ls.length]) (bJ (.of rfl) (bJ (.of rfl) (bJ (cz (rr (i7 b_ gp)) (jN E.nm (.of rfl)) (.of rfl)) (bJ (.of rfl) (bJ (.of rfl) cK))))) rfl (ale rfl)) cK) E.jk (by rw[ak2];omega)
   have i8:bC ((S.set n (.l ((nums h).set b_ (.int (A.wi+1))))).set r (.l (h.rs++[.t [.str "begin",.int b_,.int (A.wi+1),dp f,.int h.ls.length]]))) (e2 (fM (aL (ae h4 (I 10) (af (.aI))))) (iz (d5 "House" "begin" p7 (I 0) (ez (aa (I 8) (aa (af .aI) ai))))) (iz (d5 "House" "begin" p7 (I 0) (ez (aa (I 8) (aa (I 10) ai))))) (fX i N r n c k m g (b_:Nat) (h.ls.length:Nat) (.v (dp f)) .e)) (.bu (fX i N r n c k m g (b_:Nat) (h.ls.length:Nat) (.v (dp f)) .e)) cI:=by
    have ew:aB ((S.set n (.l ((nums h).set b_ (.int (A.wi+1))))).set r (.l (h.rs++[.t [.str "begin",.int b_,.int (A.wi+1),dp f,.int h.ls.length]]))) (aL (ae h4 (I 10) (af .aI)) (fX i N r n c k m g (b_:Nat) (h.ls.length:Nat) (.v (dp f)) .e)) (eS (dp f)):=cF (cz (s9 (dp f)) (.of rfl) (.of rfl))
    cases f with
    |none=>exact mE (aB.to ew) (xq (lE (rs:=[.v (.int b_),.v .aI]) M.at'.bb (.of rfl) rfl (aB.to (.of rfl)) rfl t3))|some y=>
     have z:eS (dp (some y))=false:=by cases y<;>rfl
     rw[z]at ew;exact mD (aB.to ew) (xq (lE (rs:=[.v (.int b_),.v (dp (some y))]) M.at'.bb (.of rfl) rfl (aB.to (.of rfl)) rfl t3))
   refine⟨addW w b_ f,h',.v (dp f),cI,wO,⟨by rw[Q,nn];exact Q0,G,λy Z=>by
    rw[Q]at Z;rcases alp.mp Z with z|z
    .exact V.pl y z
    .rw[akY.mp z]
     exact N8 (hH (by decide +kernel)) dS dS (rM (aca (Γ:=g_ [a,b,d] na w) λu cH=>(X u cH).1) (by decide)) dS⟩,λq=>dd (mD (aB.to F) (mE (aB.to ej) (dd (U':=fX i N r n c k m g (b_:Nat) (h.ls.length:Nat) (.v (dp x)) .e) (h1 (r:=.v (dp x)) (fy (rs:=[.bU N,.v (.int g),.v (.int c)]) (.of rfl) (.of ex)) rfl).to (dd em.to (dd cO (dd eJ i8)))))) q,FI,by omega,il,K,cj,by rw[Q,akB];exact akE _⟩
 .rw[show(A.bz == "calm")=false by rw[beq_eq_false_iff_ne];exact ay]at F
  obtain⟨Y,h',e,G,K,cj,T,sw⟩:=X1 O H U (by omega);obtain⟨S1,p1,t1,s2⟩:=e S i p B;have E:=V.lD.step s2;exact⟨w,h',.e,S1,p1,⟨by rw[T,abX sw];exact E,G,by rw[T];exact V.pl⟩,λq=>dd (mE (aB.to F) (xq (lE (rs:=[.v (.int b_)]) B.bb (.of rfl) rfl (aB.to (.of rfl)) rfl t1))) q,FJ sw ko,by omega,ds,by rw[K,akB];omega,by rw[K,akB];omega,by rw[T];omega⟩
def ag9{a b:d1}{S S1:bH}(h:bC S (a U) (.v (.ax true)) S1):bC S (xo a b U) (.v (.ax true)) S1:=h.bind rfl
def ag8{a b:d1}{S S1 c:bH}{r:R}(h:bC S (a U) (.v (.ax false)) S1)(d:bC S1 (b U) r c):bC S (xo a b U) r c:=h.bind d
def T9{Γ:e4}(O:Γ.Ok){h:c2}(hz:h.ls.length<=800000)(aD:h.rs.length<=90000)(w:h.as.length<=6){st:Nat}(ay:st<=h.ls.length){S:bH}{i r n:Nat}{p:ig}(V:i2 Γ S i p h r n)(N:List D)(c k d g b_:Int)(l y:Slot) :
  ∃f s h',∃b:Nat,bC S (BV (fX i N r n c k d g b_ (st:Nat) l y)) (.cx (.v (.ax true))) f/\i2 Γ f i s h' r n/\dz h h' b/\b<=26:=by
 obtain⟨m,x,t⟩:∃m:Nat,d / 3072 % 27=(m:Nat)/\m<=26:=⟨(d / 3072 % 27).toNat,by have:=mod_lt (a:=d / 3072) (b:=27) (by decide);omega,by have:=mod_lt (a:=d / 3072) (b:=27) (by decide);omega⟩;obtain⟨j,au⟩:∃j:Int,aB S (b8 (aL (ae oEq (ae oMod (ae e0 (I 6) (af (.int 24))) (af (.int 2))) (af (.int 1)))) (cn 11 (ae oMod (ae e0 (I 6) (af (.int 48))) (af (.int 64)))) bQ (fX i N r n c k d g b_ (st:Nat) l (.v (.int 63)))) (.bu (fX i N r n c k d g b_ (st:Nat) l (.v (.int j)))):=by
  by_cases q:d / 24 % 2=1
  .exact⟨d / 48 % 64,.of (by simp[q])⟩
  .exact⟨63,.of (by simp[q])⟩
 obtain⟨f,s,h',b,e,z,G,u⟩:=SW O ay hz aD w j t V;refine⟨f,s,h',b,dd (U':=fX i N r n c k d g b_ (st:Nat) l (.v (.int 63))) (aB.to (.of rfl)) (dd (aB.to au) (F' (x_call (rs:=[.v (.ref i),.v (.int st),.v (.int j),.v (.int m),.v (.ref r),.v (.ref n)]) ?_ rfl e))),z,G,u⟩;exact .of (by simp[x])
def T'(aq:fO a)(ab:fO b)(hd:fO d)(K:1<=na)(aA:na<=6)(J:xO [a,b,d] na w h m)(aj6:m<=58)(c k:Int)(ajU:0<=k)(ajX:k<=100){S:bH}{i r n:Nat}(V:i2 (g_ [a,b,d] na w) S i p h r n) :
  ∃A h' u d3,bC S (Er [.ref i,.l [.str (bg a),.str (bg b),.str (bg d)],.ref r,.ref n,.int c,.int k]) (.v (.ax true)) u/\i2 (g_ [a,b,d] na A) u i d3 h' r n/\xO [a,b,d] na A h' (m+1):=by
 have hl:=J.ls;have aD:=J.rs;have hm:=J.wu;have Zm:h.as.length=na:=V.ok.na;have B:=V.lD.at';have O:(g_ [a,b,d] na w).Ok:=yL (by simp) aA (by omega) J.ds;have P:(0:Int)<(na:Int):=by omega
 have Ms:0<na:=K;have akt:na≠0:=by omega
 have zx:iB (k+1) (k+7):=EB (by omega) (by omega);have W:iB (k+3) (k+5):=EB (by omega) (by omega);have G:∀{x j:Int},-(2 ^ 64)<j->j<2 ^ 64->iB x j:=λK ah=>.inr (.inl ⟨K,ah⟩)
 have o:∀x:Int,iB x 48271:=λx=>G (by decide) (by decide)
 have C:∀x:Int,iB x 16807:=λx=>G (by decide) (by decide)
 have ZV:∀x:Int,iB x 69621:=λx=>G (by decide) (by decide)
 have vU:∀x:Int,iB x 40692:=λx=>G (by decide) (by decide)
 generalize T:[D.str (bg a),.str (bg b),.str (bg d)]=N;obtain⟨g,s,b_,av,pre⟩:∃(g s:Int)(b_:Nat),b_<na/\∀{H u},bC S (H6 (fX i N r n c k g s (b_:Nat) (h.ls.length:Nat) .e .e)) H u->bC S (H5 [.v (.ref i),.bU N,.v (.ref r),.v (.ref n),.v (.int c),.v (.int k),.e,.e,.e,.e,.e,.e]) H u:=by
  refine⟨(c % 10000000000000000000000000000000000000000*48271+(k+1)*(k+7)*16807) % 2147483647,(c % 10000000000000000000000000000000000000000*69621+(k+3)*(k+5)*40692) % 2147483629,((c % 10000000000000000000000000000000000000000*48271+(k+1)*(k+7)*16807) % 2147483647 / 4 % (na:Int)).toNat,by have:=mod_lt (a:=(c % 10000000000000000000000000000000000000000*48271+(k+1)*(k+7)*16807) % 2147483647 / 4) P;omega,λ{H u} t=>?_⟩;rw[Int.toNat_of_nonneg (mod_lt P).1]at t;refine dd (U':=[.v (.ref i),.bU N,.v (.ref r),.v (.ref n),.v (.int c),.v (.int k),.v (.int ((c % 10000000000000000000000000000000000000000*48271+(k+1)*(k+7)*16807) % 2147483647)),.e,.e,.e,.e,.e]) (aB.to (.of (by simp[zx,o,C]))) ?_;generalize(c % 10000000000000000000000000000000000000000*48271+(k+1)*(k+7)*16807) % 2147483647=g at *;refine dd (U':=[.v (.ref i),.bU N,.v (.ref r),.v (.ref n),.v (.int c),.v (.int k),.v (.int g),.v (.int ((c % 10000000000000000000000000000000000000000*69621+(k+3)*(k+5)*40692) % 2147483629)),.e,.e,.e,.e]) (aB.to (.of (by simp[W,ZV,vU]))) ?_;generalize(c % 10000000000000000000000000000000000000000*69621+(k+3)*(k+5)*40692) % 2147483629=s at *;refine dd (U':=[.v (.ref i),.bU N,.v (.ref r),.v (.ref n),.v (.int c),.v (.int k),.v (.int g),.v (.int s),.v (.int (g / 4 % na)),.e,.e,.e]) (aB.to (h1 (cz (x:=.v (.int (g / 4))) (y:=.v (.int na)) (tG (by omega)) (.of (by simp)) (rt (f:=fS) (rs:=[.mv (nums h)]) (by show pure (R.v (.int ((nums h).length:Nat)))=_;rw[z3,Zm]) (bJ (jN V.lD.nm (.of rfl)) cK))) rfl)) ?_;exact dd (aB.to (h1 (p0 B rfl) rfl)) t
 by_cases q:g % 4=3
 .have M:aB S (aL (ae oEq (ae oMod (I 6) (af (.int 4))) (af (.int 3))) (fX i N r n c k g s (b_:Nat) (h.ls.length:Nat) .e .e)) true:=cF (.of (by simp[q]))
  by_cases z:h.ls.length=0
  .refine⟨w,h,S,p,r7 rfl (pre (xt (mE (aB.to M) (F' (ag9 (aB.to (.of ?_))))))),V,J.ko,by omega,J.ds,by omega,by omega⟩
   rw[z];rfl
  .obtain⟨x,jC,Z⟩:∃x:Nat,s % (h.ls.length:Int)=(x:Nat)/\x<h.ls.length:=⟨(s % (h.ls.length:Int)).toNat,by have:=mod_lt (a:=s) (b:=(h.ls.length:Int)) (by omega);omega,by have:=mod_lt (a:=s) (b:=(h.ls.length:Int)) (by omega);omega⟩
   obtain⟨S1,p1,h',t1,F,E⟩:=IX O Z (by omega) (by omega) (by omega) V;have vb:aB S (ae oEq (I 9) (af (.int 0)) (fX i N r n c k g s (b_:Nat) (h.ls.length:Nat) .e .e)) (.v (.ax false)):=cz (x:=.v (.int (h.ls.length:Nat))) (y:=.v (.int 0)) (by rw[pN (x:=.v (.int (h.ls.length:Nat))) (y:=.v (.int 0)) rfl rfl];show pure (R.v (.ax ((h.ls.length:Int)==0)))=_;rw[show((h.ls.length:Int)==0)=false by rw[beq_eq_false_iff_ne];omega]) (.of rfl) (.of rfl);have em:aB S (ae oMod (I 7) (I 9) (fX i N r n c k g s (b_:Nat) (h.ls.length:Nat) .e .e)) (.v (.int x)):=by
    have:=cz (S:=S) (U:=fX i N r n c k g s (b_:Nat) (h.ls.length:Nat) .e .e) (a:=I 7) (b:=I 9) (x:=.v (.int s)) (y:=.v (.int (h.ls.length:Nat))) (tG (by omega)) (.of rfl) (.of rfl);rw[jC]at this;exact this
   refine⟨w,h',S1,p1,r7 rfl (pre (xt (mE (aB.to M) (F' (ag8 (aB.to vb) (x_call (rs:=[.v (.ref i),.v (.int x),.v (.ref r),.v (.ref n)]) (bJ (.of rfl) (bJ em (bJ (.of rfl) (bJ (.of rfl) cK)))) rfl t1)))))),F,FJ E.sw J.ko,by omega,J.ds,by have:=E.ls;omega,by have:=E.rs;omega⟩
 .subst T
  obtain⟨A,h',ly,S1,p1,F,st,X,aj5,Q,E,bP,bA⟩:=T8 aq ab hd aA V J.ko (by omega) J.ds (by omega) (by omega) av c k g s;have ak:(g_ [a,b,d] na A).Ok:=yL (by simp) aA (by omega) Q;have aj1:h'.as.length=na:=F.ok.na;obtain⟨a5,cD,sR,ct,aF,Y,L,ajF⟩:=T9 ak (by omega) (by omega) (by omega) E F [.str (bg a),.str (bg b),.str (bg d)] c k g s (b_:Nat) ly .e;have:=L.ls;have:=L.rs;exact⟨A,sR,a5,cD,r7 rfl (pre (Ga (aB.to (cF (.of (by simp[show(g % 4==3)=false by simpa using q])))) (st aF))),Y,FJ L.sw X,by omega,Q,by omega,by omega⟩
end dR
namespace dR
open PySem PySem.Spec aC aE
def B'(ns:List Int)(k:Nat):oA [.l (ns.map D.int),.int (k:Nat)]=pure (.v (.int (ns.getD k 0))):=by
 simp only[oA,H3,H4]
 by_cases h:k<ns.length
 .simp[h,Rm h]
 .simp[h]
def Q9:∀(n:Nat)(d:D),Ok n d->jf (n+1) [d,d]=pure (.v (.ax true)):=by
 have seq:∀(n:Nat)(xs:List D)(s:Slot),(∀x∈xs,jf n [x,x]=pure (.v (.ax true)))->xs.length<=1000->(s=.v (.t xs)\/s=.bU xs)->x8 (jf n) [s,s,.e]=pure (.cx (.v (.ax true))):=λn xs s h hl ay=>by
  have g:∀j,j<2->∀s2,∃r,I j [s,s,s2]=pure r/\fS [r]=pure (.v (.int (xs.length:Nat)))/\∀(i:Nat)(hi:i<xs.length),aH r (.v (.int i))=pure (.v xs[i]):=λj q s2=>by
   have u:xs.length<=akA:=by rw[ak2];omega
   rcases ay with rfl|rfl
   .exact⟨.v (.t xs),by match j,q with|0,_=>rfl|1,_=>rfl,by simp[u],λi hi=>by simp[Bx hi]⟩
   .exact⟨.bU xs,by match j,q with|0,_=>rfl|1,_=>rfl,by simp[u],λi hi=>by simp[Bx hi]⟩
  obtain⟨U',e,s2,rfl⟩:=sM (b:=λx U=>vQ (jf n) (U.set 2 (.v x))) (ds:=en 0 xs.length) (U:=[s,s,.e])
   (λi U=>∃s2,U=[s,s,s2]) ⟨_,rfl⟩ (λi x U c ⟨s2,E⟩=>by
    subst E;obtain⟨hi,rfl⟩:=Ak c;obtain⟨y,f,_,M⟩:=g 0 (by decide) (.v (.int (0+(i:Nat))));obtain⟨G,a1,_,H⟩:=g 1 (by decide) (.v (.int (0+(i:Nat))));have w:(0:Int)+(i:Nat)=(i:Nat):=by omega
    rw[w]at f a1;refine⟨_,.inl (?_:_=pure (fY.bu [s,s,.v (.int (i:Nat))])),_,rfl⟩;show vQ (jf n) [s,s,.v (.int (0+(i:Nat)))]=_;rw[w];exact oh (zY (iL (call_of (cons_of (fj (M i hi) f rfl) (cons_of (fj (H i hi) a1 rfl) rfl)) (h _ (ami hi))))))
  obtain⟨y,f,N,_⟩:=g 0 (by decide) .e;obtain⟨G,a1,bf,_⟩:=g 1 (by decide) .e;have k:-4611686018427387904<=(xs.length:Int)/\(xs.length:Int)<4611686018427387904:=by omega
  refine(?_:x8 (jf n) [s,s,.e]=BS (jf n) [s,s,.e]).trans (fC ((iL (fj (r:=pure (.v (.ax false))) ?_ (m4 N (cons_of f rfl)) (m4 bf (cons_of a1 rfl)))).trans rfl) (cR (LA (ds:=en 0 xs.length) ?_ e) rfl))
  .rcases ay with rfl|rfl<;>rfl
  .simp
  .show(aa _ _ _ >>= _)=_
   rw[cons_of (m4 bf (cons_of a1 rfl)) rfl];simp[k]
 have p:∀(F:bp)(d:D)(n:Nat),Ok n d->(∀xs,d≠.t xs)->(∀xs,d≠.l xs)->fnOf 2 3 (x7 F) [d,d]=pure (.v (.ax true)):=λF d n h L K=>by
  cases d with
  |aI=>rfl|ax b=>cases b<;>rfl
  |int i=>exact hR rfl (fC rfl (fC rfl (st rfl (jj ((and_1 rfl).trans ((and_1 rfl).trans (by simp)))))))| str x=>exact hR rfl (fC rfl (fC rfl (fC rfl (st rfl (jj ((and_1 rfl).trans (by simp[eq_str h.1])))))))|t xs=>exact absurd rfl (L xs)|l xs=>exact absurd rfl (K xs)| ref _=>exact absurd h.1 (by intro z;cases z)| fn _=>exact absurd h.1 (by intro z;cases z)| ty _=>exact absurd h.1 (by intro z;cases z)
 intro n
 induction n with
 |zero=>
  intro d h;exact p _ d 0 h (λxs e=>absurd h.1 (by rw[e];intro z;cases z)) (λxs e=>absurd h.1 (by rw[e];intro z;cases z))
 |succ n A=>
  intro d h;have a:∀xs:List D,hy xs n=true->(decide (xs.length<=1000)&&mB xs)=true->(∀x∈xs,jf (n+1) [x,x]=pure (.v (.ax true)))/\xs.length<=1000:=λxs B m=>by
   rw[ak0]at m;exact⟨λx c=>A x ⟨pR.mp B x c,xk.mp m.2 x c⟩,of_decide_eq_true m.1⟩
  cases d with
  |t xs=>
   obtain⟨p1,cD⟩:=a xs h.1 h.2;exact hR rfl (fC rfl (fC rfl (fC rfl (fC rfl (seq (n+1) xs _ p1 cD (.inl rfl))))))
  |l xs=>
   obtain⟨p1,cD⟩:=a xs h.1 h.2;exact hR rfl (fC rfl (fC rfl (fC rfl (fC rfl (seq (n+1) xs _ p1 cD (.inr rfl))))))
  |_=>exact p _ _ _ h (λ_ e=>by cases e) (λ_ e=>by cases e)
end dR
namespace dR
open PySem PySem.Spec aC aE i3 gf jt
def ag7{S:bH}{m:bw}(h:aB S (m U) (.fr xs)):bC S (jU (dr m) U) (.v (.ref S.length)) (S++[.l xs]):=(aB.to h).bind rfl
def Q8(n:Nat)(xs:List D)(h:∀x∈xs,jf n [x,x]=pure (.v (.ax true)))(hl:xs.length<=100000):jf (n+1) [.l xs,.l xs]=pure (.v (.ax true)):=by
 obtain⟨U',e,s2,rfl⟩:=sM (b:=λx U=>vQ (jf n) (U.set 2 (.v x))) (ds:=en 0 xs.length) (U:=[.bU xs,.bU xs,.e])
   (λi U=>∃s2,U=[.bU xs,.bU xs,s2]) ⟨_,rfl⟩ (λi x U a ⟨s2,d⟩=>by
    subst d;obtain⟨hi,rfl⟩:=Ak a;refine⟨_,.inl (?_:_=pure (fY.bu [.bU xs,.bU xs,.v (.int (0+(i:Nat)))])),_,rfl⟩;have c:dY xs (i:Int)=some xs[i]:=Bx hi;have a:=h xs[i] (ami hi);simp only[vQ];simp[c,a])
 have f:-4611686018427387904<=(xs.length:Int)/\(xs.length:Int)<4611686018427387904:=by omega
 rw[jf];simp[x7,HU,HV,HW,x8,HX,BS,HY,HZ,f,e]
def abW(na:Nat)(a:D):nums (kN na a)=akI na (.int 0):=by
 unfold nums kN;simp only[amq];exact List.eq_replicate_iff.mpr ⟨by simp,λx b=>by obtain⟨i,_,rfl⟩:=ak5.mp b;rfl⟩
def abJ(a:D)(W:List (List Nat))(na:Nat):xO W na (λ_=>[]) (kN na a) 0 where
 ko:=λk A e=>by
  obtain⟨i,_,rfl⟩:=ak5.mp (ak7 e);rfl
 wu:=akE _
 ds:=λk d x b=>by cases b
 ls:=akE _
 rs:=akE _
def aej(n:Nat)(d:D):(akI n [d]).flatten=akI n d:=by simp
def Zv(ns:List Int)(aA:ns.length<=63):∃ao,(Eo [.l (ns.map D.int)]).run []=.ok (.v (.ax true)) ao:=by
 have G:oA [.l (ns.map D.int),.int 0]=pure (.v (.int (ns.getD 0 0))):=B' ns 0;have bf:oA [.l (ns.map D.int),.int 1]=pure (.v (.int (ns.getD 1 0))):=B' ns 1;have ae:oA [.l (ns.map D.int),.int 2]=pure (.v (.int (ns.getD 2 0))):=B' ns 2;generalize ns.getD 0 0=x0 at G;generalize ns.getD 1 0=gs at bf;generalize ns.getD 2 0=iy at ae;obtain⟨na,pO,F,kL⟩:∃na:Nat,1+x0 % 3=(na:Nat)/\1<=na/\na<=3:=⟨(1+x0 % 3).toNat,by have:=mod_lt (a:=x0) (b:=3) (by decide);omega,by have:=mod_lt (a:=x0) (b:=3) (by decide);omega,by have:=mod_lt (a:=x0) (b:=3) (by decide);omega⟩;obtain⟨h,j,q3,r⟩:=Np (gs % 1000000000);obtain⟨a,b,d,em,m,n,p⟩:=Zu (iy % 100000000000000000000);have aU:b6 (iq h j)=.v (iq h j):=rfl;have K:=abW na (iq h j);obtain⟨S1,p1,t1,t,f1,bP,vF⟩:=X2 [.l (akI na (.int 0))] F (by omega) aU r.is;have W:=LP r.ga r.k_;have I:=abJ (iq h j) [a,b,d] na;have H:ff (g_ [a,b,d] na λ_=>[]) (kN na (iq h j)):=abH (Γ:=g_ [a,b,d] na λ_=>[]) (UZ [a,b,d] na _) W;generalize iq h j=hall at *;have ej:S1[(0:Nat)]? = some (.l (akI na (.int 0))):=f1 0 _ (by simp) rfl;have keep:∀y o,S1[y]? = some o->(S1++[fZ.l []])[y]? = some o:=λy o e=>by rw[akV (jd e)];exact e
 have P:i6 (S1++[.l []]) 1 p1 (kN na hall) S1.length 0 [] (nums (kN na hall)):=⟨t.keep λy o _ e=>keep y o e,yK,by rw[K];exact keep _ _ ej,λz=>by have:=t.lt z;omega,λz=>by have:=vF 0 z;simp at this,by have:=jd ej;omega⟩;have O:i2 (g_ [a,b,d] na λ_=>[]) (S1++[.l []]) 1 p1 (kN na hall) S1.length 0:=⟨P,H,λx k=>by cases k⟩;obtain⟨M,u,Z,C,Y⟩:∃M:Int,(if(43:Int)<(ns.length:Nat)then(43:Int)else(ns.length:Nat))=M/\M<=43/\M<=(ns.length:Nat)/\0<=M:=by
  by_cases q:(43:Int)<(ns.length:Nat)
  .rw[if_pos q];exact⟨_,rfl,by omega,by omega,by omega⟩
  .rw[if_neg q];exact⟨_,rfl,by omega,by omega,by omega⟩
 obtain⟨z,vf,aku⟩:∃z:Nat,(M-3).toNat=z/\z<=40:=⟨_,rfl,by omega⟩;have hz:∀i:Nat,i<z->i+3<ns.length:=λi hi=>by omega
 obtain⟨U',X,e,w,g,cD,s,rfl,V,J⟩:=Gf (b:=λx U=>Nh (U.set 5 (.v x)))
  (λi U T=>∃w g q s,U=[.bU (ns.map D.int),.v (.ref 0),.v (.ref 1),.v (.l [.str (bg a),.str (bg b),.str (bg d)]),.v (.ref S1.length),s]/\i2 (g_ [a,b,d] na w) T 1 q g S1.length 0/\xO [a,b,d] na w g i)
  (en 3 z) 0 [.bU (ns.map D.int),.v (.ref 0),.v (.ref 1),.v (.l [.str (bg a),.str (bg b),.str (bg d)]),.v (.ref S1.length),.e] (S1++[.l []]) ⟨_,_,p1,_,rfl,O,I⟩ (λi x U T k ⟨w,g,q,s,az,V,J⟩=>by
   subst az;rw[amQ]at J ⊢;obtain⟨hi,rfl⟩:=Ak k;have hl:=hz i hi;obtain⟨c,hQ⟩:∃c,dY (ns.map D.int) (3+(i:Nat))=some (.int c):=by
    obtain⟨v,E⟩:=x4 (xs:=ns.map D.int) (i:=3+(i:Nat)) (by omega) (by rw[akz];omega);obtain⟨c,_,rfl⟩:=ak5.mp (Bw E);exact⟨c,E⟩
   obtain⟨ey,g',pz,gq,Q,uS,gv⟩:=T' m n p F (by omega) J (by omega) c (3+(i:Nat)) (by omega) (by omega) V;refine⟨_,pz,mD (Qd (x:=true) (P_ (x_call (rs:=[.v (.ref 1),.v (.l [.str (bg a),.str (bg b),.str (bg d)]),.v (.ref S1.length),.v (.ref 0),.v (.int c),.v (.int (3+(i:Nat)))]) (.of (by simp[hQ])) rfl Q))) rfl,ey,g',gq,_,rfl,uS,gv⟩)
 rw[amQ,ql]at J;have A:(ns.map D.int).length=ns.length:=akz _;have mG:(ns.map D.int).length<=akA:=by rw[A];exact ame (fU (by omega))
 have g4:-4611686018427387904<=M/\M<4611686018427387904:=by omega
 have al:=Q8 14 g.rs (λx k=>Q9 13 x (V.pl x k)) (by have:=J.rs;omega);have B:=V.lD.at';rw[<-A]at u;generalize ns.map D.int=L at *;generalize[D.str (bg a),.str (bg b),.str (bg d)]=N at *;refine⟨X,r7 rfl ?_⟩;refine dd (U':=[.bU L,.v (.ref 0),.e,.e,.e,.e]) (xu (ag7 (S:=[]) (xs:=akI na (.int 0)) (.of ?_)) rfl) ?_
 .have er:na<=akA:=ame (fU (by omega))
  have r8:(na:Int)<1000:=by omega
  have iO:wI (.fr [.int 0]) (.v (.int (na:Nat)))=pure (.fr (akI na (.int 0))):=by
   show(if 0<=(na:Int)/\(na:Int)<1000/\[D.int 0].length*(na:Int).toNat<=akA then pure (R.fr (akI (na:Int).toNat [D.int 0]).flatten)else bad)=_;rw[if_pos ⟨by omega,r8,by rw[am7,aly,Nat.one_mul];exact er⟩,am7,aej]
  simp[G,pO,iO]
 refine dd (U':=[.bU L,.v (.ref 0),.v (.ref 1),.e,.e,.e]) (xu (Qc (rs:=[.v hall,.v (.int na)]) (bJ (.of (by simp[bf,q3])) (bJ (rt (f:=fS) (rs:=[.mv (akI na (.int 0))]) (by show pure (R.v (.int ((akI na (D.int 0)).length:Nat)))=_;rw[alr]) (bJ (jN (i:=0) rfl (.of rfl)) cK)) cK)) rfl t1) rfl) ?_;refine dd (U':=[.bU L,.v (.ref 0),.v (.ref 1),.v (.l N),.e,.e]) (aB.to (.of (by simp[ae,em]))) ?_;refine dd (U':=[.bU L,.v (.ref 0),.v (.ref 1),.v (.l N),.v (.ref S1.length),.e]) (xu F9 rfl) ?_;refine dd (Qa (ds:=en 3 z) (.of (by simp[mG,g4,vf,u])) e) ?_;exact aB.to (iU (fy (rs:=[.fr g.rs,.mv g.rs]) (bJ (iv B.bb (.of rfl) rfl cK (XD B)) (bJ (jN V.lD.jk (.of rfl)) cK)) (.of al)))
end dR
namespace PySem.W.Fast
noncomputable def zp:=PySem.Challenge.pw_oneslate_k42_a_history
noncomputable def zq:=zp.main.body
noncomputable def tw5738479104031475971:=(zq.drop 14).take 1
theorem te5738479104031475971:tw5738479104031475971=tw5738479104031475971:=rfl
noncomputable def tw3027694870593492675:=(zq.drop 94).take 12
theorem te3027694870593492675:tw3027694870593492675=tw3027694870593492675:=rfl
noncomputable def tw1998914188159946531:PySem.Program:={zp with main:={zp.main with body:=([1,2,3,4,5,7,8,9,11,12,13,14,15,16,17,19,20,21,22,23,24,25,26,27,28,29,30,31,32,34,35,36,37,38,40,41,42,43,44,45,46,47,48,50,51,52,53,54,55,56,57,58,59,60,62,63,64,65,66,67,68,69,70,71,72,73,74,75,77,78,79,80,82,84,85,86,87,88,89,91,92,93,95,96,97,98,99,100,101,102,103,104,105]:List Nat).filterMap fun i=>zp.main.body[i]?}}
theorem te1998914188159946531:tw1998914188159946531=tw1998914188159946531:=rfl
noncomputable def tw13424603171150351142:=(zq.drop 65).take 8
theorem te13424603171150351142:tw13424603171150351142=tw13424603171150351142:=rfl
noncomputable def tw15221325965313047047:=(zq.drop 11).take 2
theorem te15221325965313047047:tw15221325965313047047=tw15221325965313047047:=rfl
noncomputable def tw3826543875395497256:=(zq.drop 27).take 15
theorem te3826543875395497256:tw3826543875395497256=tw3826543875395497256:=rfl
noncomputable def tw7376692664452255400:=(zq.drop 16).take 1
theorem te7376692664452255400:tw7376692664452255400=tw7376692664452255400:=rfl
noncomputable def tw6083978583006156618:=(zq.drop 17).take 10
theorem te6083978583006156618:tw6083978583006156618=tw6083978583006156618:=rfl
noncomputable def tw5866968619719543883:=(zq.drop 15).take 1
theorem te5866968619719543883:tw5866968619719543883=tw5866968619719543883:=rfl
noncomputable def tw16158446155192858287:=(zq.drop 51).take 14
theorem te16158446155192858287:tw16158446155192858287=tw16158446155192858287:=rfl
noncomputable def tw14273994465263800467:=(zq.drop 13).take 1
theorem te14273994465263800467:tw14273994465263800467=tw14273994465263800467:=rfl
noncomputable def tw11824383282086620499:=(zq.drop 73).take 9
theorem te11824383282086620499:tw11824383282086620499=tw11824383282086620499:=rfl
noncomputable def tw11997808397185098388:=(zq.drop 83).take 10
theorem te11997808397185098388:tw11997808397185098388=tw11997808397185098388:=rfl
noncomputable def tw6018005863521402965:=(zq.drop 93).take 1
theorem te6018005863521402965:tw6018005863521402965=tw6018005863521402965:=rfl
noncomputable def tw5847674828358556056:=(zq.drop 42).take 9
theorem te5847674828358556056:tw5847674828358556056=tw5847674828358556056:=rfl
noncomputable def tw5403106189496533720:=(zq.drop 82).take 1
theorem te5403106189496533720:tw5403106189496533720=tw5403106189496533720:=rfl
noncomputable def tw17752630107423694879:=(zq.drop 0).take 11
theorem te17752630107423694879:tw17752630107423694879=tw17752630107423694879:=rfl
def te2739303018702130522:=0
def te6671710614165999686:=0
def te10131136167232045995:=0
def te5389291881859018108:=0
def te16447963571019895429:=0
def te12479287488270093336:=0
def te237784182090030707:=0
def te3865327779263225995:=0
def te12245828763494402927:=0
def te54602234031768069:=0
def te13999013364991987415:=0
def te14022618043384454090:=0
def te13961575897072402227:=0
def te5438366223157466226:=0
def te8171485006460886954:=0
def te6308237481138531655:=0
def te1162213275598983338:=0
def te15481082666510002766:=0
def te7027295431985544173:=0
def te12683083913574677313:=0
def te3856195144793000258:=0
def te11006976885450473697:=0
def te12533191058362292747:=0
def te15171939521483640597:=0
def te6135832170474429445:=0
def te12970510032108828284:=0
def te2654215549160721937:=0
def te14414513333532145952:=0
def te14049204500201920652:=0
def te2886079680224558745:=0
def te1673559129630744889:=0
def te6376993601778696678:=0
def te8102109827501118742:=0
def te8154017146110442843:=0
def te14901458736754700491:=0
def te2568280236969369648:=0
def te18349669745606128498:=0
def te1514492976571589213:=0
def te530555905824047383:=0
def te4716949505536994677:=0
def te12597652032574004717:=0
def te6650287328373361199:=0
def te9582504858033764204:=0
def te10974719468635503567:=0
def te17726876517508103668:=0
def te9837132970894460306:=0
def te13796648836916071968:=0
def te7782990198455110742:=0
def te13579800897198534125:=0
def te13970047682641026432:=0
def te3529528036200000064:=0
def te9768714727617111703:=0
def te12225992648643858965:=0
def te9350172581773539445:=0
def te4421895388429199332:=0
def te4887010022987367722:=0
def te4077273631849497823:=0
def te14795263678470128345:=0
def te10797845422411042009:=0
def te7039803501995653177:=0
def te9102831335021910284:=0
def te17933055567322553473:=0
def te18075056544434279500:=0
def te10935078121199706020:=0
def te16012636155394748504:=0
def te14432287898521264102:=0
def te15492434683807542143:=0
def te2810256606779268092:=0
def te17863244592755526520:=0
def te10990547929714428612:=0
def te524519507372994754:=0
def te8722422320018020030:=0
def te2269724942041858065:=0
def te10672746991833464681:=0
def te10869033433730671685:=0
def te10148616496831240037:=0
def te16782190083991882128:=0
def te12980065271609714541:=0
def te12014261962053840460:=0
def te8493909425976445882:=0
def te16602173200294221988:=0
def te9108036737063246798:=0
def te11872398129720061843:=0
def te13389239687131947453:=0
def te13230248029726405386:=0
def te871601646029115834:=0
def te15848259987991385803:=0
def te17763181807982130414:=0
def te6398160611529854687:=0
def te10620009498496763767:=0
def te13482411952122826465:=0
def te3500325419369222725:=0
def te1933038181845167711:=0
def te9192776142536197914:=0
def te3062698663522992664:=0
def te10976266670361606403:=0
def te14222974238744379146:=0
def te9752500749695254274:=0
def te1082722306531965193:=0
def te17921730524207778319:=0
def te827616047278893301:=0
def te12500113474672578998:=0
def te8109792268378687396:=0
def te16643486131940119239:=0
def te17307732681803939998:=0
def te18405945978266263969:=0
def te9125708162343221173:=0
def te14984809440873392260:=0
def te9085025524533570297:=0
def te7461258315970308075:=0
def te16618913259167157266:=0
def te18287835292641428227:=0
def te6639118643034318840:=0
def te1852340208838514198:=0
def te1506531740197173532:=0
def te4354666971642475911:=0
def te11742021209772451559:=0
def te4758482721167355500:=0
def te15950629877082984666:=0
def te7044213612633330300:=0
def te9313583793999905792:=0
def te18426743279044512574:=0
def te13111792562305009965:=0
def te13211365951713817347:=0
def te7996792099388085385:=0
def te13819104880006720302:=0
def te15247348084909437922:=0
def te10790879552788935155:=0
def te110040448074902532:=0
def te1482364012051534116:=0
def te16431194993011404699:=0
def te5000427089537299070:=0
def te1083506351276191672:=0
def te6993797762403451404:=0
def te7166014427843566185:=0
def te71324635832445731:=0
def te2371288720293084638:=0
def te5962208376831336186:=0
def te15387725851611093342:=0
def te72998912208825693:=0
def te13331149479433368411:=0
def te1032864092544492948:=0
def te13092653252215426359:=0
def te11724934007279398156:=0
def te15421982941521240118:=0
def te9909769818720285195:=0
def te4261209016909901173:=0
def te786545305111713055:=0
def te9381217536513260859:=0
def te2630784780823466576:=0
def te14124504801973144664:=0
def te1875547774805590667:=0
def te15364981564386715815:=0
def te1812822403343206123:=0
def te18166672739447064735:=0
def te11148225257538832024:=0
def te873346710318267144:=0
def te15812006119986213268:=0
def te2837716798919735361:=0
def te16008016029030070118:=0
def te7994492327455271508:=0
def te16875696168647968169:=0
def te3450825793418763983:=0
def te11986051699730827131:=0
def te7450825646930334321:=0
def te466764233352567780:=0
def te7889011590884402133:=0
def te13346757705909075964:=0
def te8159221290476346555:=0
def te13519539844655121004:=0
def te12366316775868300278:=0
def te8077290915768014766:=0
def te9588144145188568519:=0
def te13684276599921864309:=0
def te14200947080922376543:=0
def te15243745878884418736:=0
def te7264264620334635329:=0
def te16742205077998623704:=0
def te7898802354582765804:=0
def te8415811701306665117:=0
def te18251131084530521113:=0
def te11570959946366632595:=0
def te14983441194606929934:=0
def te9868713529012162312:=0
def te14210131237528133404:=0
def te18025189062758942332:=0
def te9582631604408753332:=0
def te1504621861331154105:=0
def te15635254055540095159:=0
def te11752237129735432962:=0
def te4185096712924423663:=0
def te6931751671114554716:=0
def te5400284902458797759:=0
def te153489302933212453:=0
def te17520395256306875693:=0
def te9124367428890503155:=0
def te8141564530326630295:=0
def te3888816338957275576:=0
def te16948629427243191959:=0
def te18264797780106357063:=0
def te8362423143338192067:=0
def te689036461623220246:=0
def te14884215066808706859:=0
def te14778507217662475538:=0
def te9603105011123207364:=0
def te3794804150051137289:=0
def te10566982266533491772:=0
def te16132775715607710950:=0
def te2282850593795478816:=0
def te16550113738848000764:=0
def te13855547462165064385:=0
def te6079773479082405041:=0
def te3979891019781380009:=0
def te2273848867604781996:=0
def te17950719841245797312:=0
def te10299606165383847973:=0
def te17789398174024717621:=0
def te560045452576683797:=0
def te8019392889262280706:=0
def te1230695282846600157:=0
def te9036417405622834931:=0
def te16893277331385173089:=0
def te12586845909240610277:=0
def te3529837227127296674:=0
def te14121985474514445660:=0
def te15837692343786748543:=0
def te10282228689372531870:=0
def te13279683352127007015:=0
def te3131975217826848708:=0
def te7901412190698204275:=0
def te12673797954852958800:=0
def te12088815100760272868:=0
def te17903110426285471609:=0
def te11701009344098404249:=0
def te549273758195977165:=0
def te15673751891333502135:=0
def te6816202473299532390:=0
def te5380948132406405971:=0
def te8743750073309761167:=0
def te10063718991440385938:=0
def te8501699355404124227:=0
def te6435682600216893672:=0
def te14981508694123190462:=0
def te15425410985842172944:=0
def te981062451829796893:=0
def te10508678999904471147:=0
def te12076621504897918353:=0
def te7047127165388037716:=0
def te11108844454407789975:=0
def te15253094306656774067:=0
def te5348251008145495397:=0
def te13298660055594549951:=0
def te12094832898723938090:=0
def te11852210573363546352:=0
def te15145295717379308206:=0
def te2136993840213753203:=0
def te3867141114180328477:=0
def te13665275314975109189:=0
def te10010699404913015523:=0
def te11944882418560087470:=0
def te1591986788782624529:=0
def te16093825122283542878:=0
def te3154117069839522877:=0
def te8322324580403124917:=0
def te9951858104921079188:=0
def te1405882035060216350:=0
def te3936120145002554234:=0
def te4146678297864844187:=0
def te10593973510910420514:=0
def te17706579894324916048:=0
def te12434817215615123100:=0
def te12615340950982530074:=0
def te13841877198489058309:=0
def te16045501589340962580:=0
def te4633936431945353045:=0
def te8209375051870093353:=0
def te8198934026204484351:=0
def te9756297369500934228:=0
def te9243855128054745953:=0
def te12494061842037637322:=0
def te17769391697559553086:=0
def te565066684682519231:=0
def te2268657734013246669:=0
def te5066902770790355201:=0
def te10557511454178142531:=0
def te14303036078505513847:=0
def te6291586604261111027:=0
def te16800026112947660245:=0
def te9912191886436411142:=0
def te348154710194854289:=0
def te2479342797712905777:=0
def te2939374489875343377:=0
def te14532598009861650646:=0
def te15482722825422015863:=0
def te5575743445489043284:=0
def te10320405547902988490:=0
def te4205761155953386025:=0
def te14811443962264173834:=0
def te18129731249035280213:=0
def te8860143468766253630:=0
def te18390617252166075678:=0
def te1676585325774306957:=0
def te8865783712288383443:=0
def te13988019172171198764:=0
def te2957364103665279036:=0
def te4896975406610790488:=0
def te2068224229320530685:=0
def te9817218115333376796:=0
def te9170292108957104513:=0
def te18255238809597365677:=0
def te14649302576433064411:=0
def te3417549075166488097:=0
def te9957303732029801474:=0
def te16252457292292393856:=0
def te8399663687685825743:=0
def te9471652522877626542:=0
def te8380883346378333920:=0
def te6562982740827364007:=0
def te17469990089159495953:=0
def te5509271686105577927:=0
def te6973343158967102288:=0
def te2849821424843935874:=0
def te7559628585855677610:=0
def te18302471358368073845:=0
def te13154275698090519384:=0
def te4898987135552654910:=0
def te14858915502032289298:=0
def te15023284346900032606:=0
def te8729801210551055250:=0
def te16629480018895551858:=0
def te14321079848449264606:=0
def te14832324044164653548:=0
end PySem.W.Fast
open PySem PySem.W PyProof.Rows
set_option maxHeartbeats 0 in
theorem PySem.Challenge.cw_oneslate_k42_a_history_holds : PySem.Challenge.rw_oneslate_k42_a_history.Holds := by
 w_on;o_law;k_head;(case hw=>w_witness2)
 k_fill
 refine aE.age (l:=PySem.Challenge.rw_oneslate_k42_a_history) (k:=27) ["highest","with_cell","with_doing","with_page"] rfl rfl ⟨rfl,by decide,by decide⟩ ?ahJ ?ahI (λw h Y=>PySem.W.km_in_of Y) ?F
 case ahJ=>
  intro x aj
  repeat (rcases akP.mp aj with rfl|aj;· exact⟨_,rfl⟩)
  cases aj
 case ahI=>exact λp=>by kernel_rfl
 case F=>
  intro w mg fa h eh G vB
  have nY:aE.mM (aC.iE eh) mg "Asker" dR.z1:=by
   dsimp only[aC.iE]
   refine' aE.Ja eh G ?a ?kQ ?hd ?po ?my ?mk ?vP ?na
   (case a=>k_is);(case kQ=>k_is);(case hd=>k_is);(case po=>k_is);(case my=>k_is);(case mk=>k_is);(case vP=>k_is)
   case na=>
    simp only[aln]
    repeat (refine⟨by k_is,?_⟩)
    exact λ_ h=>nomatch h
  have nZ:aE.mM (aC.iE eh) mg "House" dR.z2:=by
   dsimp only[aC.iE]
   refine' aE.Ja eh G ?a ?kQ ?hd ?po ?my ?mk ?vP ?na
   (case a=>k_is);(case kQ=>k_is);(case hd=>k_is);(case po=>k_is);(case my=>k_is);(case mk=>k_is);(case vP=>k_is)
   case na=>
    simp only[aln]
    repeat (refine⟨by k_is,?_⟩)
    exact λ_ h=>nomatch h
  have Cm:aC.gR (aC.iE eh) mg "law" dR.w3 ["script"]:=by
   dsimp only[aC.iE]
   refine' aE.K1 eh G ?a ?l ?c ?k (λ_ _ _ _ _ _=>aE.o2 λ_=>rfl)
   (case a=>k_is);(case l=>k_is);(case c=>k_is);(case k=>k_is)
  letI:aC.a4:=aE.ui (aC.iE eh) ["highest","with_cell","with_doing","with_page"]
  have DP:aE.KTab PySem.Challenge.rw_oneslate_k42_a_history.prog w (aC.iE eh) mg "FORMS" dR.zj:=by
   dsimp only[aC.iE]
   refine' aE.Zh eh G ?a ?s ?l ?k ?f
   (case a=>k_is);(case s=>decide);(case l=>k_is)
   case k=>
    intro e he
    repeat (rcases akP.mp he with rfl|he;· first|exact⟨"put",rfl,rfl⟩|exact⟨"add",rfl,rfl⟩|exact⟨"swap",rfl,rfl⟩|exact⟨"take",rfl,rfl⟩|exact⟨"renew",rfl,rfl⟩|exact⟨"free",rfl,rfl⟩|exact⟨"sure",rfl,rfl⟩|exact⟨"move",rfl,rfl⟩|exact⟨"end",rfl,rfl⟩)
    cases he
   case f=>exact⟨_,_,rfl,⟨_,rfl⟩,(aE.oq (xs:=["name","number"]) (by k_is) (by decide +kernel) (by exact⟨_,_,rfl,⟨_,_,rfl,rfl⟩⟩)),⟨_,_,rfl,⟨_,rfl⟩,(aE.oq (xs:=["name","number"]) (by k_is) (by decide +kernel) (by exact⟨_,_,rfl,⟨_,_,rfl,rfl⟩⟩)),⟨_,_,rfl,⟨_,rfl⟩,(aE.oq (xs:=["name","number","number"]) (by k_is) (by decide +kernel) (by exact⟨_,_,rfl,⟨_,_,rfl,⟨_,_,rfl,rfl⟩⟩⟩)),⟨_,_,rfl,⟨_,rfl⟩,(aE.oq (xs:=["fence"]) (by k_is) (by decide +kernel) (by exact⟨_,_,rfl,rfl⟩)),⟨_,_,rfl,⟨_,rfl⟩,(aE.oq (xs:=["fence"]) (by k_is) (by decide +kernel) (by exact⟨_,_,rfl,rfl⟩)),⟨_,_,rfl,⟨_,rfl⟩,(aE.oq (xs:=["fence"]) (by k_is) (by decide +kernel) (by exact⟨_,_,rfl,rfl⟩)),⟨_,_,rfl,⟨_,rfl⟩,(aE.oq (xs:=["fence","name","number"]) (by k_is) (by decide +kernel) (by exact⟨_,_,rfl,⟨_,_,rfl,⟨_,_,rfl,rfl⟩⟩⟩)),⟨_,_,rfl,⟨_,rfl⟩,(aE.oq (xs:=["hall"]) (by k_is) (by decide +kernel) (by exact⟨_,_,rfl,rfl⟩)),⟨_,_,rfl,⟨_,rfl⟩,(aE.oq (xs:=[]) (by k_is) (by decide +kernel) (by exact rfl)),rfl⟩⟩⟩⟩⟩⟩⟩⟩⟩
  have Az:aE.uJ PySem.Challenge.rw_oneslate_k42_a_history.prog w (aC.iE eh) mg "DOERS" dR.hn:=by
   dsimp only[aC.iE]
   refine' aE.Uv eh G ?a ?l ?k ?f
   (case a=>k_is);(case l=>k_is)
   case k=>
    intro e he
    repeat (rcases akP.mp he with rfl|he;· first|exact⟨"put",rfl,rfl⟩|exact⟨"add",rfl,rfl⟩|exact⟨"swap",rfl,rfl⟩|exact⟨"take",rfl,rfl⟩|exact⟨"renew",rfl,rfl⟩|exact⟨"free",rfl,rfl⟩|exact⟨"sure",rfl,rfl⟩|exact⟨"move",rfl,rfl⟩|exact⟨"end",rfl,rfl⟩)
    cases he
   case f=>
    simp only[aln]
    repeat (refine⟨⟨_,by k_is,by k_is⟩,?_⟩)
    exact λ_ h=>nomatch h
  have D0:=by
   refine' aE.zu (x:="highest") (st:=dR.Pj) (ln:=["highest","with_cell","with_doing","with_page"]) eh G ?oC ?qP ?rv ?cX ?dD ?rO ?au ?aF ?cO ?eJ ?i8 ?n5 ?nn ?ii
   (case oC=>decide);(case qP=>k_is);(case rv=>k_is);(case cX=>exact rfl);(case dD=>k_is);(case rO=>exact rfl);(case au=>exact rfl);(case aF=>exact rfl);(case cO=>exact rfl);(case eJ=>exact rfl);(case i8=>exact rfl);(case n5=>exact rfl);(case nn=>decide)
   case ii=>
    intro y a3 bF
    repeat (rcases akP.mp a3 with rfl|a3;· first|rfl|(refine' aE.zZ ?br ?bS bF;(case br=>refine' aE.xd ?a1 ?a2 ?fE ?iJ ?jy;(case a1=>k_is);(case a2=>k_is);(case fE=>exact rfl);(case iJ=>k_is);(case jy=>exact rfl));(case bS=>decide)))
    cases a3
  have D4:=by
   refine' aE.zu (x:="with_cell") (st:=dR.Ft) (ln:=["highest","with_cell","with_doing","with_page"]) eh G ?oC ?qP ?rv ?cX ?dD ?rO ?au ?aF ?cO ?eJ ?i8 ?n5 ?nn ?ii
   (case oC=>decide);(case qP=>k_is);(case rv=>k_is);(case cX=>exact rfl);(case dD=>k_is);(case rO=>exact rfl);(case au=>exact rfl);(case aF=>exact rfl);(case cO=>exact rfl);(case eJ=>exact rfl);(case i8=>exact rfl);(case n5=>exact rfl);(case nn=>decide)
   case ii=>
    intro y a3 bF
    repeat (rcases akP.mp a3 with rfl|a3;· first|rfl|(refine' aE.zZ ?br ?bS bF;(case br=>refine' aE.xd ?a1 ?a2 ?fE ?iJ ?jy;(case a1=>k_is);(case a2=>k_is);(case fE=>exact rfl);(case iJ=>k_is);(case jy=>exact rfl));(case bS=>decide)))
    cases a3
  have D5:=by
   refine' aE.zu (x:="with_doing") (st:=dR.Fu) (ln:=["highest","with_cell","with_doing","with_page"]) eh G ?oC ?qP ?rv ?cX ?dD ?rO ?au ?aF ?cO ?eJ ?i8 ?n5 ?nn ?ii
   (case oC=>decide);(case qP=>k_is);(case rv=>k_is);(case cX=>exact rfl);(case dD=>k_is);(case rO=>exact rfl);(case au=>exact rfl);(case aF=>exact rfl);(case cO=>exact rfl);(case eJ=>exact rfl);(case i8=>exact rfl);(case n5=>exact rfl);(case nn=>decide)
   case ii=>
    intro y a3 bF
    repeat (rcases akP.mp a3 with rfl|a3;· first|rfl|(refine' aE.zZ ?br ?bS bF;(case br=>refine' aE.xd ?a1 ?a2 ?fE ?iJ ?jy;(case a1=>k_is);(case a2=>k_is);(case fE=>exact rfl);(case iJ=>k_is);(case jy=>exact rfl));(case bS=>decide)))
    cases a3
  have D6:=by
   refine' aE.zu (x:="with_page") (st:=dR.Fv) (ln:=["highest","with_cell","with_doing","with_page"]) eh G ?oC ?qP ?rv ?cX ?dD ?rO ?au ?aF ?cO ?eJ ?i8 ?n5 ?nn ?ii
   (case oC=>decide);(case qP=>k_is);(case rv=>k_is);(case cX=>exact rfl);(case dD=>k_is);(case rO=>exact rfl);(case au=>exact rfl);(case aF=>exact rfl);(case cO=>exact rfl);(case eJ=>exact rfl);(case i8=>exact rfl);(case n5=>exact rfl);(case nn=>decide)
   case ii=>
    intro y a3 bF
    repeat (rcases akP.mp a3 with rfl|a3;· first|rfl|(refine' aE.zZ ?br ?bS bF;(case br=>refine' aE.xd ?a1 ?a2 ?fE ?iJ ?jy;(case a1=>k_is);(case a2=>k_is);(case fE=>exact rfl);(case iJ=>k_is);(case jy=>exact rfl));(case bS=>decide)))
    cases a3
  have kt:aC.xN (aC.iE eh):=aC.Zb _
  have Qu:aE.Gk mg:=by constructor<;>exact PySem.W.mg_none_of eh G (by k_is)
  refine aE.Ra vB Cm (λ_ _ _ _ _ _ _=>rfl) (λbase SA f fd F=>aE.Zp (dR.EU ⟨?_,?_,?_,?_,?_,?_,?_,?_,?_,?_,?_,?_,?_,?_,?_,?_,?_,?_,?_,?_,?_,?_,?_,?_,?_,?_,?_,?_,?_,?_,?_,?_,?_,?_,?_,?_,?_,?_,?_,?_,?_,?_,?_,?_,?_,?_,?_,?_,?_,?_,?_,?_,?_,?_,?_,?_,?_,?_,?_,?_,?_,?_,?_,?_,?_,?_,?_,?_,?_,?_,?_,?_,?_,?_,?_,?_,?_,?_,?_,?_,?_,?_,?_,?_,?_,?_,?_,?_,?_,?_,?_,?_,?_,?_,?_,?_,?_,?_,?_,?_,?_,?_,?_,?_,?_,?_,?_,Cm,nY,nZ,?_,?_,?_,?_,?_,?_,?_,?_,Az,DP,D0,D4,D5,D6,SA,Qu,kt⟩ F) dR.Zv)
  all_goals first
  |(refine' ⟨_,PySem.W.mg_of eh G ?a,?b⟩;(case a=>k_is);(case b=>first|exact rfl|exact⟨_,rfl⟩))
  |((try dsimp only[aC.iE]);refine' ⟨aE.K1 eh G ?a ?l ?c ?k (λ_ _ _ _ _ _=>by first|exact aE.PT rfl|exact aE.o2 λ_=>rfl|exact aE.qq λ_ _=>rfl|exact aE.qr λ_ _ _=>rfl|exact aE.AM λ_ _ _ _=>rfl|exact aE.AN λ_ _ _ _ _=>rfl|exact aE.AO λ_ _ _ _ _ _=>rfl|exact aE.FY λ_ _ _ _ _ _ _=>rfl),aE.sJ (by kernel_rfl)⟩;(case a=>k_is);(case l=>k_is);(case c=>k_is);(case k=>k_is))
  |(dsimp only[aC.iE]at nY ⊢;refine' ⟨aE.K2 eh G nY ?a ?f ?i ?l ?c ?k (λ_ _ _ _ _ _=>by first|exact aE.o2 λ_=>rfl|exact aE.qq λ_ _=>rfl|exact aE.qr λ_ _ _=>rfl|exact aE.AM λ_ _ _ _=>rfl|exact aE.AN λ_ _ _ _ _=>rfl|exact aE.AO λ_ _ _ _ _ _=>rfl|exact aE.FY λ_ _ _ _ _ _ _=>rfl),aE.sJ (by kernel_rfl)⟩;(case a=>k_is);(case f=>k_is);(case i=>k_is);(case l=>k_is);(case c=>k_is);(case k=>k_is))
  |(dsimp only[aC.iE]at nZ ⊢;refine' ⟨aE.K2 eh G nZ ?a ?f ?i ?l ?c ?k (λ_ _ _ _ _ _=>by first|exact aE.o2 λ_=>rfl|exact aE.qq λ_ _=>rfl|exact aE.qr λ_ _ _=>rfl|exact aE.AM λ_ _ _ _=>rfl|exact aE.AN λ_ _ _ _ _=>rfl|exact aE.AO λ_ _ _ _ _ _=>rfl|exact aE.FY λ_ _ _ _ _ _ _=>rfl),aE.sJ (by kernel_rfl)⟩;(case a=>k_is);(case f=>k_is);(case i=>k_is);(case l=>k_is);(case c=>k_is);(case k=>k_is))
  |(dsimp only[aC.iE]at nY ⊢;refine' ⟨aE.K3 eh G nY ?a ?f ?i ?l ?t ?c ?k rfl (λ_ _ _ _ _ _=>by first|exact aE.o2 λ_=>⟨_,rfl,rfl⟩|exact aE.qq λ_ _=>⟨_,rfl,rfl⟩|exact aE.qr λ_ _ _=>⟨_,rfl,rfl⟩) (λ_ _ _ _ _ _=>by first|exact aE.o2 λ_=>⟨_,rfl,rfl⟩|exact aE.qq λ_ _=>⟨_,rfl,rfl⟩|exact aE.qr λ_ _ _=>⟨_,rfl,rfl⟩),aE.sJ (by kernel_rfl)⟩;(case a=>k_is);(case f=>k_is);(case i=>k_is);(case l=>k_is);(case t=>k_is);(case c=>k_is);(case k=>k_is))
  |(dsimp only[aC.iE]at nZ ⊢;refine' ⟨aE.K3 eh G nZ ?a ?f ?i ?l ?t ?c ?k rfl (λ_ _ _ _ _ _=>by first|exact aE.o2 λ_=>⟨_,rfl,rfl⟩|exact aE.qq λ_ _=>⟨_,rfl,rfl⟩|exact aE.qr λ_ _ _=>⟨_,rfl,rfl⟩) (λ_ _ _ _ _ _=>by first|exact aE.o2 λ_=>⟨_,rfl,rfl⟩|exact aE.qq λ_ _=>⟨_,rfl,rfl⟩|exact aE.qr λ_ _ _=>⟨_,rfl,rfl⟩),aE.sJ (by kernel_rfl)⟩;(case a=>k_is);(case f=>k_is);(case i=>k_is);(case l=>k_is);(case t=>k_is);(case c=>k_is);(case k=>k_is))
