import PyProof.Rows.All
import Wide.All
import OpenK.AllK
import Wide.FinOn
import Lean
import PyProof.EqAt
import PyProof.EqKinds
import PyProof.TupleCall
import KE.KSortTup
import PyProof.ZipIter
import KE.KMinKey
import KE.KRevSl
import PyProof.Rows.EnumRows
import PyProof.EnumStmt
import PyProof.ListRange
import KE.KIntText
import PySem.Challenge.RW_oneslate_k43_houses_beside
set_option Elab.async false
set_option linter.all false
set_option maxRecDepth 100000
set_option bootstrap.genMatcherCode false
open Array renaming length_toList->amA,getElem?_toList->aoq,toArray_toList->apb
open Bool renaming false_ne_true->alR,and_eq_true->amc,eq_iff_iff->ano,false_eq_true->aoH,or_eq_true->aqd,and_true->aqr
open False renaming elim->amu
open ForInStep renaming yield->apa
open Int renaming fdiv_eq_ediv_of_nonneg->apF,toNat_natCast->apO
open List renaming getElem?_eq_some_iff->alK,length_map->alM,length_append->alN,size_toArray->alS,getElem?_set_ne->alU,mem_cons_of_mem->alW,mem_cons->alY,map_cons->alZ,lookup_cons->al0,getElem?_eq_getElem->al1,mem_cons_self->al2,getElem?_map->al4,getElem?_append_right->al6,getElem?_append_left->al8,getElem?_set_self->al9,mem_singleton->amb,mem_map->amd,range->ame,mem_of_getElem?->amh,length_cons->amk,replicate->amm,length_set->amr,forall_mem_cons->ams,all_eq_true->amv,not_mem_nil->amw,mem_append->amy,mem_range->amz,getD_eq_getElem?_getD->amC,mem_append_right->amD,length_replicate->amG,nodup_cons->amK,length_drop->amL,length_take->amV,length_range->amZ,length_singleton->am0,mem_filter->am1,append_nil->am2,length_nil->am4,take_of_length_le->am8,map_append->ane,getElem?_replicate->ank,getElem?_range->anp,lookup->ans,pairwise_cons->anv,length_filter_le->anw,mem_of_find?_eq_some->anx,length->anz,getElem_mem->anK,map_map->anM,mem_map_of_mem->an7,length_eq_zero_iff->an9,all_cons->aoa,find?_cons_of_pos->aoi,find?_cons_of_neg->aoj,append_assoc->aol,pairwise_map->aom,mem_iff_getElem?->aos,getElem?_eq_none->aot,nodup_iff_pairwise_ne->aov,of_mem_zip->aox,find?_some->aoz,mem_or_eq_of_mem_set->aoB,prefix_append->aoG,zip_cons_cons->aoI,nodup_append->aoM,any_eq_true->aoY,prefix_refl->aoZ,filter_cons->ao0,take_length->ao1,all_append->api,eq_nil_of_length_eq_zero->apj,filterMap_cons->apk,map_congr_left->apl,filter_sublist->apm,drop_drop->apo,drop_zero->aps,nodup_nil->apu,countP_eq_length_filter->apw,any_cons->apI,take_add_one->apP,forIn_cons->aqb,drop_eq_nil_of_le->aqh,take_zero->aqi,take_nil->aqq
open List.Nodup renaming length_le_of_subset->anf
open List.Pairwise renaming imp->aqC
open Nat renaming le_refl->alQ,lt_of_lt_of_le->amn,ne_of_lt->amo,le_trans->amq,zero_le->amt,le_of_ble_eq_true->amE,lt_irrefl->amF,not_lt_zero->am5,le_of_lt->anr,zero_add->an3,sub_self->an4,le_add_right->an6,min_eq_left->aoA,le_of_eq->aoE,lt_succ_self->aoX,pow_le_pow_right->aph,le_succ->apx
open Ne renaming symm->anH
open Option renaming map_eq_some_iff->aoP,isSome_iff_exists->ap2,bind_eq_some_iff->ap8
open Option.some renaming inj->amf,injEq->aqA
open Or renaming inr->amN,inl->anG
open PyProof.Rows renaming seqObj->amO,envOfC->amR,slot_tuple_getitem->amS,callWith_type1->am6,KeyOrd->anq,IntsAre->anZ,get?_update_seq->aof,envOfC->aop,AllBare->ao2,listUpdate_at->apK,KeyKind->aqo,strKind->aqp
open PySem renaming wpAny_bind->alI,starEach->alJ,Shared->alO,sizeLine->alP,wpAny_pure->alT,Program->al7,sizeLine_eq->ama,backTo->amg,Around->ami,mainGlobals->aml,compareOp->amx,bootBuiltins->amB,wpAny_mono->amH,assignEach->amJ,foldedSetIterable->amM,FuncData->amT,keywordEach->amU,wpAny_truthy_bool->amY,wpAny_field->am3,wpAny_Call_Name_kw->am7,wpAny_seqItems->am9,mem_of_lookup->anc,holding->ang,wpAny_holding->anh,attributeBase->ani,wpAny_callSpecial?_slot->anl,swapsWith->anm,backToKw->ant,wpAny_newObj_type->anD,behindInMarks->anE,binaryOp->anI,getMethod->anL,wpAny_setField_rec->anO,wpAny_passesOwn->anP,rawInt->anS,wpAny_pyIter_list->anT,sliceBounds->anW,standAt->anY,bindArgs->an0,wpAny_call_entry->an1,IsPair->an5,assign->aoc,wpAny_pyIter_tuple->aod,closureFor->aoe,callWith->aog,NameKind->aoh,wpAny_letGo->aok,codeAny_mono->aoo,wpAny_tryCatch->aor,codeAny->aow,pyNext->aoD,Arguments->aoF,Keyword->aoK,IsPart->aoN,richCompare_meets_room->aoR,wpAny_standAt->aoU,strKind->aoW,getItem->ao3,codeAmong->ao4,DictEntry->ao5,seqItems?->ao6,wpAny_execs_nil->ao7,letOwnedTupleGo->ao8,wpAny_updateSeq_pair->apd,wpAny_updateSeq->apf,Builtin->apr,PassesOwn->apy,findBy->apz,wpAny_onRaise->apL,plainId_quiet->apM,builtinsNs->apR,call_meets->apT,wpAny_rule->apU,defaultsOf->apV,callerA->apY,TriplesOk->aqa,codeAny_builtin->aqc,subscripted->aqf
open PySem.Around renaming under_plainId->ape,under->aqx
open PySem.AutoSeq1 renaming sub_tuple_tuple->ap3,wpAny_loadPart'->ap5
open PySem.BindsTo renaming of_defaults->aqs
open PySem.Builtin renaming bitNot->anb,bitAnd->anu,bitOr->aoV
open PySem.Builtin.Builtins renaming bindParams->apD
open PySem.Builtin.Int renaming intBits->amW,intTooBig->aqj
open PySem.Builtin.List renaming listTooLong->anA
open PySem.Builtin.Slice renaming slicePlaces->anU,sliceAdjust->aoy,sliceApplied->apG
open PySem.Builtin.SmallTypes renaming nextOf->amP,ownedTupleIsFree->anj,ownedTupleHandOut->aoJ
open PySem.Builtin.Str renaming strSliceIndices->anN,occurrences->an8
open PySem.Builtin.Tuple renaming tupleExact->an2,tupleItemsOf->apH
open PySem.Calls renaming callWith_builtin->aoO,spliced_cons->apA,Name_function_global->apE,spliced_nil->apN
open PySem.F renaming plain_max_loop->ana,slot_list_append->anB,type_list_append->anC,slot_tuple_iterator_next->anR,plainAttrs_list->aoL,entry_max_loop->aoT,slot_zip_next->apc,args_tuple_iterator_next_1->apt,entry_tuple_iterator_next->apC,slot_list_extend->ap6,type_list_extend->ap7,slot_dict_get->aqk
open PySem.Heap renaming get?_push_of_some->alL,get?_push_size->alV,lt_size->alX,size_push->aon,SameBut->apZ,IsTuple->ap4,get?_update_other->aqg
open PySem.Heap.IsTuple renaming push->aqB
open PySem.Heap.SameBut renaming update->amX
open PySem.NameKind renaming free->aou,cell->apJ
open PySem.Obj renaming mapSeq->amj
open PySem.PassesOwn renaming never->apg
open PySem.PyData renaming strOk->al5,eqv->aqm
open PySem.SeqAt renaming shaped->aqz
open PySem.SeqAt.EqAt renaming int_str->aqv,str_int->aqw,int_int->aqy
open PySem.Shared renaming heap->aoS
open PySem.Str renaming ofString->al3
open PySem.Txt renaming find->apv
open PySem.Value renaming ref->amI,isStrOf->amQ,none->aob,bool->apQ,type->aql,int->aqt,str->aqu
open PySem.W renaming fnOf->anF,keepIn->anJ,findIn->anQ,emptyDict->anV,instObj->aoC,nsIn->aoQ,codeIn->apn,mg_of->apq,kia_one->apB,plainGet->apS,callWith_K->ap0,cellsFrom_some->ap1,methodCall_KW->ap9,hasDictIn->aqe
open PySem.Walks renaming list->aqn
open Sum renaming inl->apW,inr->apX
open True renaming intro->ao9
abbrev v0:List PySem.Str:=["self"]
abbrev T0:List PySem.Str:=["thing"]
abbrev W1:List PySem.Str:=["slate","asker","deed"]
abbrev M2:List PySem.Str:=["self","asker"]
abbrev P3:List PySem.Str:=["slate"]
abbrev v4:List PySem.Str:=["self","letter"]
abbrev v6:List PySem.Str:=["slate","fence","tenant"]
abbrev u8:List PySem.Str:=["book","letter"]
abbrev zzz0:List PySem.Str:=["asker","keeper","epoch","stamp","load"]
abbrev aN:=PySem.W.Frag
abbrev bo:=PySem.Str->Option PySem.Value
abbrev de:=PySem.Value->PySem.Shared->Prop
abbrev cW:=List (PySem.Addr×PySem.Obj)
noncomputable section
namespace aA
open PySem PySem.Spec PyProof.Rows
abbrev Key:=Sum Int Str
def N1:Key->Value->Bool
 |.inl k,v=>Value.isInt k v|.inr x,v=>amQ x v
def Z3(w:World):Key->Int
 |.inl k=>hashInt k|.inr x=>hashStr w x
def oU:∀{k:Key}{v:Value},N1 k v=true->(∃i t,k=apW i/\v=aqt i t)\/(∃x t,k=apX x/\v=aqu x t)
 |.inl i,v,h=>by
  obtain⟨t,e⟩:=Value.isInt_shape (k:=i) (v:=v) h;exact .inl ⟨i,t,rfl,e⟩
 |.inr x,v,h=>by
  obtain⟨t,e⟩:=Value.isStrOf_shape (x:=x) (v:=v) h;exact .inr ⟨x,t,rfl,e⟩
def Z4(a b:Int):decide ((apW a:Key)=apW b)=(a==b):=by
 by_cases e:a=b
 .subst e;simp
 .have h:¬(apW a:Key)=apW b:=λq=>e (Sum.inl.inj q)
  rw[decide_eq_false h];exact(beq_eq_false_iff_ne.mpr e).symm
def Z7(a b:Str):decide ((apX a:Key)=apX b)=decide (a=b):=by
 by_cases e:a=b
 .subst e;simp
 .have h:¬(apX a:Key)=apX b:=λq=>e (Sum.inr.inj q)
  rw[decide_eq_false h,decide_eq_false e]
def Z5(a:Int)(b:Str):decide ((apW a:Key)=apX b)=false:=decide_eq_false (λq=>nomatch q)
def Z6(a:Str)(b:Int):decide ((apX a:Key)=apW b)=false:=decide_eq_false (λq=>nomatch q)
def OM(prog:al7)(w:World):KeyKind prog w Key where
 is:=N1
 hash:=Z3 w
 inj:=λv a b f d=>by
  rcases oU f with⟨i,t,rfl,rfl⟩|⟨x,t,rfl,rfl⟩
  .rcases oU d with⟨j,u,rfl,e⟩|⟨y,u,rfl,e⟩
   .injection e with av _;rw[av]
   .exact nomatch e
  .rcases oU d with⟨j,u,rfl,e⟩|⟨y,u,rfl,e⟩
   .exact nomatch e
   .injection e with av _;rw[av]
 byValue:=λk v h=>by
  rcases oU h with⟨i,t,rfl,rfl⟩|⟨x,t,rfl,rfl⟩<;>rfl
 pyHash:=λc h=>by
  rcases oU c with⟨i,t,rfl,rfl⟩|⟨x,t,rfl,rfl⟩
  .exact wpAny_pyHash_int h
  .exact wpAny_pyHash_str h
 eqBool:=λg c h=>by
  rcases oU g with⟨i,t,rfl,rfl⟩|⟨x,t,rfl,rfl⟩
  .rcases oU c with⟨j,u,rfl,rfl⟩|⟨y,u,rfl,rfl⟩
   .rw[Z4]at h;exact wpAny_eqBool_int h
   .rw[Z5]at h;exact aqv i t y u _ _ _ _ h
  .rcases oU c with⟨j,u,rfl,rfl⟩|⟨y,u,rfl,rfl⟩
   .rw[Z6]at h;exact aqw x t j u _ _ _ _ h
   .rw[Z7]at h;exact wpAny_eqBool_str h
 «strs»:=λk x t v h=>by
  rcases oU h with⟨i,u,rfl,e⟩|⟨y,u,rfl,e⟩
  .exact nomatch e
  .injection e with av _
   subst av;cases v<;>rfl
inductive V where
 |aH|ax (b:Bool)|int (i:Int)|str (x:Str)|yx (b:Array UInt8)|yX (b:UInt64)|ref (a:Addr)|ty (n:String)
 deriving DecidableEq
def RelV:V->Value->Prop
 |.aH,u=>u=aob|.ax b,u=>u=apQ b|.int i,u=>∃t,u=aqt i t|.str x,u=>∃t,u=aqu x t|.yx b,u=>∃t,u=Value.bytes b t|.yX b,u=>∃t,u=Value.float b t|.ref a,u=>u=amI a|.ty n,u=>u=aql n
abbrev Vals:List V->List Value->Prop:=Paired RelV
def Vals.length{xs:List V}{us:List Value}(r:Vals xs us):xs.length=us.length:=Paired.length r
theorem Vals.get:∀{xs:List V}{us:List Value}{i:Nat}{x:V},Vals xs us->xs[i]? = some x->∃u,us[i]? = some u/\RelV x u
 |_,_,_,_,.nil,e=>by simp at e| _,_,0,_,.cons r _,e=>by simp at e;subst e;exact⟨_,rfl,r⟩|_,_,i+1,x,.cons _ t,e=>by
  obtain⟨u,a,b⟩:=Vals.get (i:=i) (x:=x) t (by simpa using e);exact⟨u,by simpa using a,b⟩
theorem Vals.set(r:RelV x u):∀{xs:List V}{us:List Value}(i:Nat),Vals xs us->Vals (xs.set i x) (us.set i u)
 |_,_,_,.nil=>.nil|_,_,0,.cons _ t=>.cons r t|_,_,i+1,.cons q t=>.cons q (Vals.set r i t)
theorem Vals.append:∀{xs ys:List V}{us a:List Value},Vals xs us->Vals ys a->Vals (xs++ys) (us++a)
 |_,_,_,_,.nil,s=>s|_,_,_,_,.cons r t,s=>.cons r (Vals.append t s)
theorem Vals.take:∀{xs:List V}{us:List Value}(n:Nat),Vals xs us->Vals (xs.take n) (us.take n)
 |_,_,0,_=>.nil|_,_,_+1,.nil=>.nil|_,_,n+1,.cons r t=>.cons r (Vals.take n t)
theorem Vals.drop:∀{xs:List V}{us:List Value}(n:Nat),Vals xs us->Vals (xs.drop n) (us.drop n)
 |_,_,0,r=>r|_,_,_+1,.nil=>.nil|_,_,n+1,.cons _ t=>Vals.drop n t
def m_:Option V->Option Value->Prop
 |some v,some u=>RelV v u|none,none=>True|_,_=>False
def RM{κ:Type}:List (κ×V)->List (κ×Value)->Prop:=Paired λ(p:κ×V) (q:κ×Value)=>p.1=q.1/\RelV p.2 q.2
def dr:Key->V
 |.inl i=>.int i|.inr x=>.str x
inductive gG where
 |l (xs:List V)
 |t (xs:List V)
 |sT (dm:List (Key×V))|fR (dm:List (List Key×V))
 |set (S:Int->Bool) (n:Nat)
 |ins (C b':Addr) (aS:List (Str×V))
 |own (x:Addr)
 |G2 (aS:List (Str×V))
 |met (f x:Addr)
 |se (lo hi:Int)
 |cF (o:Obj) (u:gG)
 |f' (ps:Array Value)
 |ext (qS:Heap->Prop)
abbrev aw:=Addr->Option gG
def upd(H:aw)(a:Addr)(o:gG):aw:=λb=>if b=a then some o else H b
def dZ:upd H a o a=some o:=by unfold upd;rw[if_pos rfl]
def c1{H:aw}(h:b≠a):upd H a o b=H b:=by unfold upd;rw[if_neg h]
def ahd:upd (upd H a o) a u=upd H a u:=by
 funext b;unfold upd;split<;>rfl
def O0{H:aw}(h:H a=some o)(h':H b=some u)(d:o≠u):a≠b:=by
 intro e;subst e;rw[h]at h';exact d (amf h')
def kV{H:aw}(h:H a=some o)(h':H b=none):a≠b:=by
 intro e;subst e;rw[h]at h';cases h'
section
variable(P:al7)(w:World)
def iO(H:aw)(h:Heap)(a:Addr):gG->Prop
 |.l xs=>xs.length<=alP/\∃(its:List Value)(n:Nat),Vals xs its/\h.get? a=some { cls:=.type "list",data:=.seq its.toArray n }|.t xs=>xs.length<=alP/\∃its:List Value,Vals xs its/\IsTup h a its.toArray|.sT c=>c.length<=alP/\(a==sysModules)=false/\∃vs,RM c vs/\h.DictOf (OM P w) a vs|.fR c=>c.length<=alP/\(a==sysModules)=false/\∃xs:List (List Key×Addr×Value),
   Paired (λ(p:List Key×V) (q:List Key×Addr×Value)=>p.1=q.1/\H q.2.1=some (.t (p.1.map dr))/\RelV p.2 q.2.2) c xs/\
   ∃o j cm,h.get? a=some o/\o.ExactDict/\o.data=.dict j cm/\j.toList=xs.map (entryOfKey (tupleKind (OM P w)))/\(xs.map (·.1)).Nodup
 |.set S n=>h.SetOf (intKind P w) a S n|.ins C d aS=>H d=some (.own a)/\aS.length<=1000/\d≠a/\h.get? a=some (aoC C d)/\
   ∃b,h.Ns1 d b/\(∀f,m_ (aS.lookup f) (b f))/\Within b (aS.map (·.1))
 |.own _=>∃o,h.get? a=some o|.G2 aS=>∃b,h.Ns1 a b/\∀f,m_ (aS.lookup f) (b f)|.se lo hi=>∃t u v,h.get? a=some { cls:=.type "range",data:=.fields #[.int lo t,.int hi u,.int 1 v] }|.cF o u=>h.get? a=some o/\iO H h a u|.f' ps=>h.get? a=some { cls:=.none,data:=.fields ps }|.met f x=>h.get? a=some (W.methodObj (.ref f) (.ref x))|.ext e=>e h/\(∃o,h.get? a=some o)/\∀g i:Heap,e g->(∀o,g.get? a=some o->i.get? a=some o)->e i
def gb(H:aw)(h:Heap):Prop:=∀a o,H a=some o->iO P w H h a o
end
section
variable{P:al7}{w:World}{H H':aw}{h h':Heap}{a:Addr}{o:gG}
def iO.lt(x:iO P w H h a o):a<h.objs.size:=by
 cases o with
 |l xs=>obtain⟨_,_,_,_,e⟩:=x;exact alX e
 |t xs=>obtain⟨_,_,_,p⟩:=x;exact p.lt
 |sT b=>obtain⟨_,_,_,_,o,_,_,e,_⟩:=x;exact alX e
 |fR b=>obtain⟨_,_,_,_,o,_,_,e,_⟩:=x;exact alX e
 |set S n=>obtain⟨o,_,_,_,e,_⟩:=x;exact alX e
 |ins C c aS=>obtain⟨_,_,_,e,_⟩:=x;exact alX e
 |own y=>obtain⟨_,e⟩:=x;exact alX e
 |G2 aS=>obtain⟨_,⟨_,_,_,e,_⟩,_⟩:=x;exact alX e
 |se lo hi=>obtain⟨_,_,_,e⟩:=x;exact alX e
 |cF a8 u=>obtain⟨e,_⟩:=x;exact alX e
 |f' ps=>exact alX (show h.get? a=some _ from x)|met f y=>exact alX (show h.get? a=some _ from x)|ext d=>obtain⟨_,⟨_,e⟩,_⟩:=x;exact alX e
theorem Paired.OH{α d:Type}{F G:α->d->Prop}:∀{c:List α}{l₂:List d},Paired F c l₂->(∀a b,F a b->G a b)->Paired G c l₂
 |_,_,.nil,_=>.nil|_,_,.cons r t,f=>.cons (f _ _ r) (Paired.OH t f)
def iO.sg(x:iO P w H h a o)(k:∀b u,(b=a\/H b=some (.own a))->h.get? b=some u->h'.get? b=some u)
  (s:∀b,H b=some (.own a)->H' b=some (.own a)) (A:∀b xs,H b=some (.t xs)->H' b=some (.t xs)):iO P w H' h' a o:=by
 induction o with
 |l xs=>obtain⟨z,its,n,r,e⟩:=x;exact⟨z,its,n,r,k _ _ (.inl rfl) e⟩
 |t xs=>obtain⟨z,its,r,a8,e,c⟩:=x;exact⟨z,its,r,a8,k _ _ (.inl rfl) e,c⟩
 |sT B=>obtain⟨z,y,vs,r,a8,g,cm,e,c⟩:=x;exact⟨z,y,vs,r,a8,g,cm,k _ _ (.inl rfl) e,c⟩
 |fR B=>
  obtain⟨z,y,xs,r,a8,g,cm,e,c⟩:=x;exact⟨z,y,xs,Paired.OH r λp q z=>⟨z.1,A _ _ z.2.1,z.2.2⟩,a8,g,cm,k _ _ (.inl rfl) e,c⟩
 |set S n=>obtain⟨a8,g,cm,t,e,c⟩:=x;exact⟨a8,g,cm,t,k _ _ (.inl rfl) e,c⟩
 |ins C D aS=>
  obtain⟨d,z,ne,e,j,⟨i,g,cm,aE,c⟩,r⟩:=x;exact⟨s _ d,z,ne,k _ _ (.inl rfl) e,j,⟨i,g,cm,k _ _ (.inr d) aE,c⟩,r⟩
 |own y=>obtain⟨a8,e⟩:=x;exact⟨a8,k _ _ (.inl rfl) e⟩
 |G2 aS=>obtain⟨j,⟨i,g,cm,e,c⟩,r⟩:=x;exact⟨j,⟨i,g,cm,k _ _ (.inl rfl) e,c⟩,r⟩
 |se lo hi=>obtain⟨t,u,v,e⟩:=x;exact⟨t,u,v,k _ _ (.inl rfl) e⟩
 |cF a8 u m=>obtain⟨e,q⟩:=x;exact⟨k _ _ (.inl rfl) e,m q⟩
 |f' ps=>
  have e:h.get? a=some { cls:=.none,data:=.fields ps }:=x;show h'.get? a=some { cls:=.none,data:=.fields ps };exact k a _ (.inl rfl) e
 |met f y=>
  have e:h.get? a=some (W.methodObj (.ref f) (.ref y)):=x;show h'.get? a=some (W.methodObj (.ref f) (.ref y));exact k a _ (.inl rfl) e
 |ext E=>obtain⟨p,⟨o,e⟩,st⟩:=x;exact⟨st _ _ p λo q=>k _ _ (.inl rfl) q,⟨o,k _ _ (.inl rfl) e⟩,st⟩
def gb.lt(x:gb P w H h)(e:H a=some o):a<h.objs.size:=(x a o e).lt
def gb.fresh(x:gb P w H h)(e:h.objs.size<=a):H a=none:=by
 cases q:H a with
 |none=>rfl|some u=>exact absurd (amn (x.lt q) e) (amF _)
theorem gb.kept(x:gb P w H h)(k:∀b u,h.get? b=some u->h'.get? b=some u):gb P w H h':=λa o e=>
 (x a o e).sg (λb u _ q=>k b u q) (λ_ q=>q) λ_ _ q=>q
def gb.laid(x:gb P w H h)(k:∀b u,h.get? b=some u->h'.get? b=some u)(g:h.objs.size<=a)(new:iO P w (upd H a o) h' a o):gb P w (upd H a o) h':=λb u e=>by
 have f:=x.fresh g
 by_cases d:b=a
 .subst d;rw[dZ]at e;cases e;exact new
 .rw[c1 d]at e
  exact(x b u e).sg (λc v _ q=>k c v q) (λc q=>by rw[c1 (kV q f)];exact q) λc xs q=>by rw[c1 (kV q f)];exact q
end
def hE(H:aw)(a:Addr)(u:gG):Prop:=H a=some u\/∃o,H a=some (.cF o u)
def hE.ok(r:hE H a u)(x:gb P w H h):iO P w H h a u:=by
 rcases r with r|⟨o,r⟩
 .exact x a u r
 .obtain⟨_,q⟩:=x a _ r
  exact q
def yc:Option gG->Prop
 |some (.l _)=>True|some (.sT _)=>True|some (.fR _)=>True|some (.set _ _)=>True|some (.ins _ _ _)=>True|some (.ext _)=>True|_=>False
section
variable{P:al7}{w:World}{H:aw}{h h':Heap}{x e:Addr}{du:gG}
def gb.write(ok:gb P w H h)(f:yc (H x))(he:e=x\/H e=some (.own x))(k:∀b u,b≠e->h.get? b=some u->h'.get? b=some u)(n:∃u,h'.get? e=some u)
  (new:iO P w (upd H x du) h' x du):gb P w (upd H x du) h':=λb u q=>by
 have j:∀c y,H c=some (.own y)->c≠x:=λc y r z=>by subst z;rw[r]at f;exact f
 have i:∀c xs,H c=some (.t xs)->c≠x:=λc xs r z=>by subst z;rw[r]at f;exact f
 by_cases a:b=x
 .subst a;rw[dZ]at q;cases q;exact new
 .rw[c1 a]at q
  by_cases g:b=e
  .have l:H b=some (.own x):=by
    rcases he with z|z
    .exact absurd (g.trans z) a
    .rw[g];exact z
   rw[q]at l;cases l;obtain⟨v,m⟩:=n;exact⟨v,by rw[g];exact m⟩
  .refine(ok b u q).sg (λc v d r=>k c v ?_ r) (λc r=>by rw[c1 (j c b r)];exact r) λc xs r=>by rw[c1 (i c xs r)];exact r
   rcases d with rfl|d
   .exact g
   .rintro rfl
    rcases he with z|z
    .exact j c b d z
    .rw[d]at z;cases z;exact a rfl
end
structure gH(aS ex:List Addr)(H H':aw)(h h':Heap):Prop where
 keep:∀b o,h.get? b=some o->H b=none->b∉aS->b∉ex->h'.get? b=some o
 slot:∀b o,h.get? b=some o->H b=none->b∈aS->b∉ex->∃bc,h'.get? b=some { o with slots:=bc }
 free:∀b o,h.get? b=some o->H b=none->b∉ex->H' b=none
 there:∀b o,h.get? b=some o->b∉ex->∃du,h'.get? b=some du
 qI:∀b xs,H b=some (.t xs)->H' b=some (.t xs)
 oD:∀b o u,H b=some (.cF o u)->H' b=some (.cF o u)
 px:∀b ps,H b=some (.f' ps)->∃more,H' b=some (.f' (ps++more))
section
variable{aS ex:List Addr}{H H1:aw}{h ag h':Heap}{a x e:Addr}{o:gG}
def gH.any(u:gH aS ex H H1 h ag)(q:h.get? b=some a8)(n:H b=none)(d:b∉ex):∃bc,ag.get? b=some { a8 with slots:=bc }:=by
 by_cases c:b∈aS
 .exact u.slot b a8 q n c d
 .exact⟨a8.slots,u.keep b a8 q n c d⟩
def gH.kept(k:∀b u,h.get? b=some u->h'.get? b=some u):gH aS ex H H h h':=
 ⟨λb a8 q _ _ _=>k b a8 q,λb a8 q _ _ _=>⟨a8.slots,k b a8 q⟩,λ_ _ _ n _=>n,λb a8 q _=>⟨a8,k b a8 q⟩,λ_ _ q=>q,λ_ _ _ q=>q,λ_ ps q=>⟨#[],by rw[q];simp⟩⟩
def gH.refl:gH aS ex H H h h:=gH.kept λ_ _ q=>q
def gH.laid(k:∀b u,h.get? b=some u->h'.get? b=some u)(d:h.objs.size<=a)(c:H a=none):gH aS ex H (upd H a o) h h' where
 keep:=λb u q _ _ _=>k b u q
 slot:=λb u q _ _ _=>⟨u.slots,k b u q⟩
 free:=λb u q n _=>by rw[c1 (amo (amn (alX q) d))];exact n
 there:=λb u q _=>⟨u,k b u q⟩
 qI:=λb xs q=>by rw[c1 (kV q c)];exact q
 oD:=λb u xs q=>by rw[c1 (kV q c)];exact q
 px:=λb ps q=>⟨#[],by rw[c1 (kV q c),q];simp⟩
def gH.write(c:yc (H x))(he:e=x\/H e=some (.own x))(k:∀b u,b≠e->h.get? b=some u->h'.get? b=some u)(j:∃u,h'.get? e=some u):gH aS ex H (upd H x o) h h':=by
 have g:∀b,H b=none->b≠x:=λb n z=>by subst z;rw[n]at c;exact c
 have f:∀b,H b=none->b≠e:=λb n z=>by
  subst z;rcases he with r|r
  .exact g b n r
  .rw[n]at r;cases r
 have d:∀b u,H b=some u->¬yc (some u)->b≠x:=λb u q nm z=>by subst z;rw[q]at c;exact nm c
 refine⟨λb u q n _ _=>k b u (f b n) q,λb u q n _ _=>⟨u.slots,k b u (f b n) q⟩,λb u q n _=>by rw[c1 (g b n)];exact n,λb u q _=>?_,
  λb xs q=>by rw[c1 (d b _ q λz=>z)];exact q,λb u xs q=>by rw[c1 (d b _ q λz=>z)];exact q,λb ps q=>⟨#[],by rw[c1 (d b _ q λz=>z),q];simp⟩⟩
 by_cases i:b=e
 .subst i;exact j
 .exact⟨u,k b u i q⟩
end
def A3(h:Heap)(H:aw):List Addr:=(ame h.objs.size).filter λa=>(H a).isSome
def oK(h:Heap)(H:aw):Heap:=W.hideAll h (A3 h H)
def YD(h:Heap)(H:aw):(oK h H).objs.size=h.objs.size:=W.hideAll_size _ _
def D1{h:Heap}{H:aw}(e:h.get? b=some o)(n:H b=none):(oK h H).get? b=some o:=
 W.hideAll_get _ e λa=>by
  have q:(H b).isSome=true:=(am1.mp a).2;rw[n]at q;simp at q
def ac7{h:Heap}{H:aw}(e:(oK h H).get? b=some o):h.get? b=some o/\H b=none:=by
 have a:h.get? b=some o:=W.of_hideAll (A3 h H) e;refine⟨a,?_⟩
 cases q:H b with
 |none=>rfl|some x=>
  have c:b∈A3 h H:=am1.mpr ⟨amz.mpr (alX a),by simp[q]⟩;have z:(oK h H).get? b=none:=W.hideAll_none (A3 h H) c;rw[z]at e;cases e
def R6(g h:Heap)(L:Addr):List (Addr×Obj):=(ame h.objs.size).filterMap λa=>if a=L\/(g.get? a).isSome=true then none else(h.get? a).map λo=>(a,o)
def rest(g h:Heap)(L d:Addr):List (Addr×Obj):=(R6 g h L).filter λp=>decide (p.1≠d)
structure Mod(K:aN)(mg:bo)(base:Heap):Prop where
 tw:K.In base
 glob:base.Ns aml mg
 blt:∃cT,base.Ns apR cT/\∀x:Str,x≠"__name__"->cT x=amB x
 nolimit:base.NoLimit
structure aT where
 prog:al7
 w:World
 K:aN
 mg:Str->Option Value
 base:Heap
 A:ami
 N:List Str
 gN:alO
 H₀:aw
 env:Env
 outer:List Env
 stack:List Env
 ex:List Addr
 fn:Str->Bool
 calm:Bool
 nX:List (Addr×Obj)
 dH:Value->alO->Prop
def ml(l:List Env):List Addr:=l.filterMap (·.frame)
abbrev aT.aS(X:aT):List Addr:=ml X.outer
def q6(a:Scope)(x:Str):Prop:=a.names.lookup x=some .local\/a.names.lookup x=some .cell\/a.names.lookup x=some .free
def Loc(a:Scope)(x:Str):Prop:=a.names.lookup x=some .local\/a.names.lookup x=some .cell
def Look(env:Env)(h:Heap)(m:bo)(x:Str)(u:Value):Prop:=
 (env.kindOf x=some .local/\m x=some u)\/((env.kindOf x=some .cell\/env.kindOf x=some .free)/\∃c,env.cells.lookup x=some c/\h.IsCell c (some u))
structure aT.Ok(X:aT):Prop where
 mod:Mod X.K X.mg X.base
 kind:X.env.scope.kind=.function
 glob:X.env.globals=aml
 blt:X.env.builtins=apR
 above:X.gN.heap.objs.size<=X.env.locals
 inj:∀x y c,X.env.cells.lookup x=some c->X.env.cells.lookup y=some c->x=y
 has:∀x,(X.env.kindOf x=some .cell\/X.env.kindOf x=some .free)->∃c,X.env.cells.lookup x=some c
 vn:∀x c,X.fn x=true->X.env.cells.lookup x=some c->X.gN.heap.objs.size<=c
 hd:X.calm=true->X.A.handled=none
 frames:X.A.frames=some X.stack
 AQ:X.stack=X.outer\/(X.stack=X.env::X.outer/\X.env.frame=some X.env.locals)
 yS:∀b∈X.ex,b≠X.env.locals/\∀x c,X.env.cells.lookup x=some c->c≠b
 bs:∀b o,X.base.get? b=some o->X.gN.heap.get? b=some o/\X.H₀ b=none
 mh:X.base.objs.size<=X.gN.heap.objs.size
 w0:∀b o,X.base.get? b=some o->b∉X.ex
 vx:∀b∈X.ex,b∉X.aS
 kE:X.gN.heap.FunFrames X.base X.outer
 p':∀b∈X.aS,X.H₀ b=none
structure Inv(X:aT)(zn:cW)(U:List (Option V))(H:aw)(s:alO):Prop where
 ok:X.Ok
 os:s.os=X.gN.os
 bare:ao2 s.gens
 base:gH X.aS X.ex X.H₀ H X.gN.heap s.heap
 loc:∃m,s.heap.Ns X.env.locals m/\∀(i:Nat)(x:Str)(v:V),X.N[i]? = some x->U[i]? = some (some v)->q6 X.env.scope x->∃u,RelV v u/\Look X.env s.heap m x u
 cell:∀x c,X.env.cells.lookup x=some c->∃v,s.heap.IsCell c v
 free:H X.env.locals=none
 mj:∀x c,X.env.cells.lookup x=some c->H c=none
 pin:∀p∈X.nX++zn,s.heap.get? p.1=some p.2/\H p.1=none/\p.1≠X.env.locals/\p.1∉X.aS/\∀v,p.2.data≠.cell v
 cb:gb X.prog X.w H s.heap
 len:U.length=X.N.length
section
variable{X:aT}{zn:cW}{U:List (Option V)}{H H':aw}{s:alO}{h':Heap}
def aT.Ok.acV(ok:X.Ok)(e:X.base.get? b=some o):b∉X.aS:=λa=>by
 have:=(ok.kE.mem a).1;rw[e]at this;cases this
def Inv.bs(J:Inv X zn U H s):∀b o,X.base.get? b=some o->s.heap.get? b=some o/\H b=none:=λb o e=>
 ⟨J.base.keep b o (J.ok.bs b o e).1 (J.ok.bs b o e).2 (J.ok.acV e) (J.ok.w0 b o e),J.base.free b o (J.ok.bs b o e).1 (J.ok.bs b o e).2 (J.ok.w0 b o e)⟩
def Inv.bk(J:Inv X zn U H s):∀b o,X.base.get? b=some o->s.heap.get? b=some o:=λb o e=>(J.bs b o e).1
def Inv.mod(J:Inv X zn U H s):Mod X.K X.mg X.base:=J.ok.mod
def Inv.f3(J:Inv X zn U H s):X.K.In s.heap:=J.ok.mod.tw.keeps J.bk
def Inv.fr(J:Inv X zn U H s):∃m,Fr X.base X.env.locals s.heap m:=
 let⟨m,o,_⟩:=J.loc
 ⟨m,o,J.bk,amq J.ok.mh J.ok.above⟩
def Inv.lt(J:Inv X zn U H s):X.env.locals<s.heap.objs.size:=let⟨_,o,_⟩:=J.loc;o.lt
def Inv.pn(J:Inv X zn U H s):X.gN.heap.objs.size<=s.heap.objs.size:=amq J.ok.above (anr J.lt)
def Inv.acX(J:Inv X zn U H s)(h:s.heap.objs.size<=a):a∉X.aS:=λc=>by
 obtain⟨_,o,b,_⟩:=J.ok.kE.mem c;exact absurd (amn (alX b) (amq J.pn h)) (amF _)
def Inv.rg(J:Inv X zn U H s):∀x c,X.env.cells.lookup x=some c->c≠X.env.locals:=λx c e z=>by
 obtain⟨v,o,a,hd⟩:=J.cell x c e;obtain⟨m,⟨g,f,cm,d,b,_⟩,_⟩:=J.loc;rw[z,d]at a;cases a;rw[b]at hd;cases hd
def Inv.kE(J:Inv X zn U H s):s.heap.FunFrames X.base X.outer:=by
 have all:∀(l:List Env),(∀b∈ml l,b∈X.aS)->X.gN.heap.FunFrames X.base l->s.heap.FunFrames X.base l:=by
  intro l
  induction l with
  |nil=>intro _ _;trivial|cons env r g=>
   intro hs hl;obtain⟨i,⟨L,o,d,j,h,hd⟩,f⟩:=hl;have c:L∈X.aS:=hs L (by unfold ml;rw[apk,d];exact al2);obtain⟨bc,e⟩:=J.base.slot L o h (J.ok.p' L c) c λz=>J.ok.vx L z c
   exact⟨i,⟨L,_,d,j,e,hd⟩,g (λb a=>hs b (by unfold ml;rw[apk,d];exact alW _ a)) f⟩
 exact all X.outer (λ_ a=>a) J.ok.kE
def Inv.stack(J:Inv X zn U H s):s.heap.FunFrames X.base X.stack:=by
 rcases J.ok.AQ with e|⟨e,hf⟩
 .rw[e];exact J.kE
 .rw[e]
  obtain⟨m,a,_⟩:=J.loc;refine .cons (by rw[J.ok.kind];decide) hf a ?_ J.kE;exact Heap.get?_none_of_le (amq J.ok.mh J.ok.above)
def Inv.Gw(J:Inv X zn U H s):∀b∈ml X.stack,b∈X.env.locals::X.aS:=λb a=>by
 rcases J.ok.AQ with e|⟨e,hf⟩
 .rw[e]at a;exact alW _ a
 .rw[e]at a
  unfold ml at a;rw[apk,hf]at a;exact a
def Inv.QB(J:Inv X zn U H s):∀b∈ml X.stack,H b=none:=λb a=>by
 rcases alY.mp (J.Gw b a)with e|a
 .rw[e];exact J.free
 .obtain⟨_,o,c,_⟩:=J.ok.kE.mem a
  exact J.base.free b o c (J.ok.p' b a) λz=>J.ok.vx b z a
def Inv.step{g':Array GenState}{t':Nat}{d':Drawn}{ch:List Addr}(J:Inv X zn U H s)
  (y:∀b∈ch,(b∈X.ex\/X.gN.heap.objs.size<=b)/\b≠X.env.locals/\(∀x c,X.env.cells.lookup x=some c->c≠b)/\∀p∈X.nX++zn,p.1≠b)
  (keep:∀b o,b≠X.env.locals->b∉X.aS->b∉ch->s.heap.get? b=some o->H b=none->h'.get? b=some o)
  (slot:∀b o,b≠X.env.locals->b∈X.aS->b∉ch->s.heap.get? b=some o->H b=none->∃bc,h'.get? b=some { o with slots:=bc }) (free:∀b o,b∉ch->s.heap.get? b=some o->H b=none->H' b=none)
  (there:∀b o,b∉ch->s.heap.get? b=some o->∃j,h'.get? b=some j)
  (qI:∀b xs,H b=some (.t xs)->H' b=some (.t xs)) (oD:∀b o u,H b=some (.cF o u)->H' b=some (.cF o u)) (px:∀b ps,H b=some (.f' ps)->∃A,H' b=some (.f' (ps++A)))
  (ns:∀m,s.heap.Ns X.env.locals m->h'.Ns X.env.locals m) (cb:gb X.prog X.w H' h') (L:ao2 g') :
  Inv X zn U H' { s with heap:=h',gens:=g',drawn:=d',toks:=t' }:=by
 have E:∀b o,X.gN.heap.get? b=some o->b≠X.env.locals:=λb o e=>amo (amn (alX e) J.ok.above)
 have D:∀b o,X.gN.heap.get? b=some o->b∉X.ex->b∉ch:=λb o e a g=>by
  rcases(y b g).1 with z|z
  .exact a z
  .exact absurd (amn (alX e) z) (amF _)
 have f:∀x c,X.env.cells.lookup x=some c->∀v,s.heap.IsCell c v->h'.IsCell c v:=λx c e v M=>by
  obtain⟨o,h,hd⟩:=M;have B:c∉ch:=λz=>(y c z).2.2.1 x c e rfl
  by_cases G:c∈X.aS
  .obtain⟨bc,q⟩:=slot c o (J.rg x c e) G B h (J.mj x c e)
   exact⟨_,q,hd⟩
  .exact⟨o,keep c o (J.rg x c e) G B h (J.mj x c e),hd⟩
 refine⟨J.ok,J.os,L,⟨λb o e n g a=>?_,λb o e n g a=>?_,λb o e n a=>?_,λb o e a=>?_,λb xs e=>qI b xs (J.base.qI b xs e),λb o xs e=>oD b o xs (J.base.oD b o xs e),λb ps e=>?_⟩,?_,λx c e=>?_,?_,λx c e=>?_,λp F=>?_,cb,J.len⟩
 .exact keep b o (E b o e) g (D b o e a) (J.base.keep b o e n g a) (J.base.free b o e n a)
 .obtain⟨bc,av⟩:=J.base.slot b o e n g a
  obtain⟨O,aE⟩:=slot b _ (E b o e) g (D b o e a) av (J.base.free b o e n a);exact⟨O,aE⟩
 .obtain⟨j,av⟩:=J.base.there b o e a
  exact free b j (D b o e a) av (J.base.free b o e n a)
 .obtain⟨j,av⟩:=J.base.there b o e a
  exact there b j (D b o e a) av
 .obtain⟨P,av⟩:=J.base.px b ps e
  obtain⟨K,aE⟩:=px b _ av;exact⟨P++K,by rw[aE,Array.append_assoc]⟩
 .obtain⟨m,N,hl⟩:=J.loc
  refine⟨m,ns m N,λi x v av aE cX=>?_⟩;obtain⟨u,r,l⟩:=hl i x v av aE cX;refine⟨u,r,?_⟩;rcases l with l|⟨k,c,e,z⟩
  .exact .inl l
  .exact .inr ⟨k,c,e,f x c e _ z⟩
 .obtain⟨v,z⟩:=J.cell x c e
  exact⟨v,f x c e v z⟩
 .obtain⟨m,⟨o,_,_,h,_⟩,_⟩:=J.loc
  exact free _ o (λz=>(y _ z).2.1 rfl) h J.free
 .obtain⟨v,o,h,hd⟩:=J.cell x c e
  exact free c o (λz=>(y c z).2.2.1 x c e rfl) h (J.mj x c e)
 .obtain⟨e,n,ne,I,d⟩:=J.pin p F
  have B:p.1∉ch:=λz=>(y p.1 z).2.2.2 p F rfl
  exact⟨keep p.1 p.2 ne I B e n,free p.1 p.2 B e n,ne,I,d⟩
def Inv.un{t':Nat}(J:Inv X zn U H s)(u:gH X.aS [] H H' s.heap h')(cb:gb X.prog X.w H' h'):Inv X zn U H' { s with heap:=h',toks:=t' }:=by
 obtain⟨m,⟨o,k,cm,c,r⟩,_⟩:=id J.loc;obtain⟨bc,i⟩:=u.any c J.free (by simp);exact J.step (g':=s.gens) (d':=s.drawn) (ch:=[]) (λ_ z=>nomatch z) (λb o _ a _ e n=>u.keep b o e n a (by simp)) (λb o _ a _ e n=>u.slot b o e n a (by simp)) (λb o _ e n=>u.free b o e n (by simp)) (λb o _ e=>u.there b o e (by simp)) u.qI u.oD u.px (λp j=>by
  obtain⟨l,g,f,d,h⟩:=j;rw[c]at d;cases d;exact⟨_,g,f,i,h⟩) cb J.bare
def Inv.call{g':Array GenState}{t':Nat}{d':Drawn}{ch:List Addr}(J:Inv X zn U H s)(u:gH (ml X.stack) ch H H' s.heap h')(cb:gb X.prog X.w H' h')(k:ao2 g')
  (h:∀b∈ch,(b∈X.ex\/X.gN.heap.objs.size<=b)/\b≠X.env.locals/\(∀x c,X.env.cells.lookup x=some c->c≠b)/\∀p∈X.nX++zn,p.1≠b) :
  Inv X zn U H' { s with heap:=h',gens:=g',drawn:=d',toks:=t' }:=by
 obtain⟨m,⟨o,y,cm,f,r⟩,_⟩:=id J.loc;obtain⟨bc,d⟩:=u.any f J.free λz=>(h _ z).2.1 rfl
 exact J.step (ch:=ch) h (λb o d l a e n=>u.keep b o e n (λz=>(alY.mp (J.Gw b z)).elim d l) a) (λb o _ _ a e n=>u.any e n a) (λb o a e n=>u.free b o e n a) (λb o a e=>u.there b o e a) u.qI u.oD u.px (λB t=>by
  obtain⟨A,j,i,g,q⟩:=t;rw[f]at g;cases g;exact⟨_,j,i,d,q⟩) cb k
def Inv.turned{t':Nat}{it:Addr}(J:Inv X zn U H s)(k:∀b o,b≠it->s.heap.get? b=some o->h'.get? b=some o)(t:H it=none)(d:it≠X.env.locals)
  (i:it∈X.ex\/X.gN.heap.objs.size<=it) (j:∀x c,X.env.cells.lookup x=some c->c≠it) (w:∀p∈X.nX++zn,p.1≠it):Inv X zn U H { s with heap:=h',toks:=t' }:=by
 have f:∀b u,H b=some u->b≠it:=λb u e z=>by rw[z,t]at e;cases e
 refine J.step (g':=s.gens) (d':=s.drawn) (ch:=[it]) (λb h=>?_) (λb o _ _ a e _=>k b o (λz=>a (by simp[z])) e) (λb o _ _ a e _=>⟨o.slots,k b o (λz=>a (by simp[z])) e⟩) (λ_ _ _ _ n=>n)
  (λb o a e=>⟨o,k b o (λz=>a (by simp[z])) e⟩) (λ_ _ e=>e) (λ_ _ _ e=>e) (λb ps e=>⟨#[],by rw[e];simp⟩) (λm y=>?_) (λb u e=>?_) J.bare
 .have e:b=it:=by simpa using h
  subst e;exact⟨i,d,j,w⟩
 .obtain⟨o,l,cm,g,r⟩:=y
  exact⟨o,l,cm,k _ o (anH d) g,r⟩
 .refine(J.cb b u e).sg (λc v a q=>k c v ?_ q) (λ_ q=>q) λ_ _ q=>q
  rcases a with z|z
  .rw[z];exact f b u e
  .exact f c _ z
theorem Inv.tok(J:Inv X zn U H s)(t:Nat):Inv X zn U H { s with toks:=t }:=J.un (h':=s.heap) (t':=t) gH.refl J.cb
def Inv.kept{t':Nat}(J:Inv X zn U H s)(k:∀b u,s.heap.get? b=some u->h'.get? b=some u):Inv X zn U H { s with heap:=h',toks:=t' }:=J.un (gH.kept k) (J.cb.kept k)
def Inv.laid{t':Nat}(J:Inv X zn U H s)(k:∀b u,s.heap.get? b=some u->h'.get? b=some u)(c:s.heap.objs.size<=a)(new:iO X.prog X.w (upd H a o) h' a o) :
  Inv X zn U (upd H a o) { s with heap:=h',toks:=t' }:=J.un (gH.laid k c (J.cb.fresh c)) (J.cb.laid k c new)
def Inv.write{x e:Addr}{o:gG}{t':Nat}(J:Inv X zn U H s)(a:yc (H x))(he:e=x\/H e=some (.own x))(k:∀b u,b≠e->s.heap.get? b=some u->h'.get? b=some u)(c:∃u,h'.get? e=some u)
  (new:iO X.prog X.w (upd H x o) h' x o):Inv X zn U (upd H x o) { s with heap:=h',toks:=t' }:=J.un (gH.write a he k c) (J.cb.write a he k c new)
def Inv.weak{U':List (Option V)}(J:Inv X zn U H s)(hl:U'.length=U.length)(w:∀(i:Nat) v,U'[i]? = some (some v)->U[i]? = some (some v)):Inv X zn U' H s:=
 ⟨J.ok,J.os,J.bare,J.base,let⟨m,C,o⟩:=J.loc;⟨m,C,λi x v av aE cX=>o i x v av (w i v aE) cX⟩,J.cell,J.free,J.mj,J.pin,J.cb,hl.trans J.len⟩
def Inv.PJ(J:Inv X zn U H s)(h:∀p∈o,s.heap.get? p.1=some p.2/\H p.1=none/\p.1≠X.env.locals/\p.1∉X.aS/\∀v,p.2.data≠.cell v):Inv X o U H s:=
 ⟨J.ok,J.os,J.bare,J.base,J.loc,J.cell,J.free,J.mj,λp a=>(amy.mp a).elim (λz=>J.pin p (List.mem_append_left _ z)) (h p),J.cb,J.len⟩
def O4{N:List Str}(hN:N.Nodup){i j:Nat}{x:Str}(a:N[i]? = some x)(b:N[j]? = some x):i=j:=by
 obtain⟨c,av⟩:=alK.mp a;obtain⟨d,aE⟩:=alK.mp b;exact(List.getElem_inj hN).mp (av.trans aE.symm)
theorem QD{M:Model}{A:ami}{E:de}{i:Nat}{x:Str}{v:V}{u:Value}{Q:Unit->alO->Prop}(J:Inv X zn U H s)(hN:X.N.Nodup)(hi:X.N[i]? = some x)(l:Loc X.env.scope x)(r:RelV v u)
  (h:∀G,Inv X zn (U.set i (some v)) H G->(∃a,apZ a s.heap G.heap/\(a=X.env.locals\/X.env.cells.lookup x=some a))->Q () G) (hf:X.fn x=true\/X.env.scope.names.lookup x=some .local:=by first|exact .inl rfl|exact .inr rfl|assumption):wpAny M A (storeName X.env x u) Q E s:=by
 obtain⟨m,L,hl⟩:=id J.loc;have Yd:(X.env.scope.kind==.class||(X.env.scope.kind==.module&&X.env.locals != X.env.globals))=false:=by rw[J.ok.kind];rfl
 have T:i<U.length:=by rw[J.len];exact(alK.mp hi).1
 have rg:=J.rg;have f:∀{a:Addr}{h':Heap},(∃o,s.heap.get? a=some o/\H a=none)->apZ a s.heap h'->gb X.prog X.w H h':=λ{a h'} ao hs b a8 e=>by
  obtain⟨_,_,Z⟩:=ao;refine(J.cb b a8 e).sg (λc D g q=>(hs.2 c ?_).trans q) (λ_ q=>q) λ_ _ q=>q
  rintro rfl;rcases g with rfl|g
  .rw[Z]at e;cases e
  .rw[Z]at g;cases g
 rcases l with C|C
 .refine wpAny_storeName_local C L (λh' YS hs=>?_) Yd
  obtain⟨K,_,_,rM,_⟩:=id L;refine h _ ⟨J.ok,J.os,J.bare,⟨λb o e n B l=>?_,λb o e n B l=>?_,J.base.free,λb o e l=>?_,J.base.qI,J.base.oD,J.base.px⟩,⟨_,YS,λj y R av aE cX=>?_⟩,λy c e=>?_,J.free,J.mj,λp I=>?_,f ⟨K,rM,J.free⟩ hs,by simpa using J.len⟩ ⟨_,hs,.inl rfl⟩
  .exact(hs.2 b (amo (amn (alX e) J.ok.above))).trans (J.base.keep b o e n B l)
  .obtain⟨bc,av⟩:=J.base.slot b o e n B l
   exact⟨bc,(hs.2 b (amo (amn (alX e) J.ok.above))).trans av⟩
  .obtain⟨P,av⟩:=J.base.there b o e l
   exact⟨P,(hs.2 b (amo (amn (alX e) J.ok.above))).trans av⟩
  .by_cases t:j=i
   .subst t
    rw[hi]at av;cases av;rw[al9 T]at aE;cases aE;exact⟨u,r,.inl ⟨C,by simp⟩⟩
   .rw[alU (anH t)]at aE
    obtain⟨u',O,q⟩:=hl j y R av aE cX;refine⟨u',O,?_⟩;rcases q with⟨k,e⟩|⟨k,c,e,z⟩
    .refine .inl ⟨k,?_⟩
     have:y≠x:=λe=>t (O4 hN av (e▸hi))
     simp[this,e]
    .exact .inr ⟨k,c,e,z.sameBut hs (rg y c e)⟩
  .obtain⟨D,z⟩:=J.cell y c e
   exact⟨D,z.sameBut hs (rg y c e)⟩
  .obtain⟨e,n,ne,S,d⟩:=J.pin p I
   exact⟨(hs.2 p.1 ne).trans e,n,ne,S,d⟩
 .have F:X.fn x=true:=by
   rcases hf with z|z
   .exact z
   .rw[z]at C;cases C
  obtain⟨c,g⟩:=J.ok.has x (.inl C);obtain⟨D,z⟩:=J.cell x c g;refine wpAny_storeName_cell J.ok.kind C g z (λh' W hs=>?_);obtain⟨cS,zl,YY⟩:=id z;refine h { s with heap:=h' } ⟨J.ok,J.os,J.bare,⟨λb o e n B l=>?_,λb o e n B l=>?_,J.base.free,λb o e l=>?_,J.base.qI,J.base.oD,J.base.px⟩,⟨m,L.sameBut hs (anH (rg x c g)),λj y R av aE cX=>?_⟩,λy c' e=>?_,J.free,J.mj,λp I=>?_,f ⟨cS,zl,J.mj x c g⟩ hs,by simpa using J.len⟩ ⟨c,hs,.inr g⟩
  .exact(hs.2 b (amo (amn (alX e) (J.ok.vn x c F g)))).trans (J.base.keep b o e n B l)
  .obtain⟨bc,av⟩:=J.base.slot b o e n B l
   exact⟨bc,(hs.2 b (amo (amn (alX e) (J.ok.vn x c F g)))).trans av⟩
  .obtain⟨P,av⟩:=J.base.there b o e l
   exact⟨P,(hs.2 b (amo (amn (alX e) (J.ok.vn x c F g)))).trans av⟩
  .by_cases t:j=i
   .subst t
    rw[hi]at av;cases av;rw[al9 T]at aE;cases aE;exact⟨u,r,.inr ⟨.inl C,c,g,W⟩⟩
   .rw[alU (anH t)]at aE
    obtain⟨u',O,q⟩:=hl j y R av aE cX;refine⟨u',O,?_⟩;rcases q with q|⟨k,c',e,js⟩
    .exact .inl q
    .refine .inr ⟨k,c',e,js.sameBut hs ?_⟩
     rintro rfl;exact t (O4 hN av (J.ok.inj _ _ _ e g▸hi))
  .by_cases Y:c'=c
   .subst Y;exact⟨_,W⟩
   .obtain⟨k3,eC⟩:=J.cell y c' e
    exact⟨k3,eC.sameBut hs Y⟩
  .obtain⟨e,n,ne,S,d⟩:=J.pin p I
   refine⟨(hs.2 p.1 ?_).trans e,n,ne,S,d⟩;intro q;rw[q,zl]at e;have hr:cS=p.2:=amf e;exact d D (by rw[<-hr];exact YY)
def QC{M:Model}{A:ami}{E:de}{i:Nat}{x:Str}{v:V}{u:Value}{Q:Unit->alO->Prop}(J:Inv X zn U H s)(hN:X.N.Nodup)(hi:X.N[i]? = some x)(b:Loc X.env.scope x)(r:RelV v u)
  (h:∀a,Inv X zn (U.set i (some v)) H a->Q () a) (d:X.fn x=true\/X.env.scope.names.lookup x=some .local:=by first|exact .inl rfl|exact .inr rfl|assumption):wpAny M A (storeName X.env x u) Q E s:=
 QD J hN hi b r (λa c _=>h a c) d
theorem Inv.T9{a:alO}{ch:List Addr}(J:Inv X zn U H s)(f:a.os=s.os)(u:gH (ml X.stack) ch H H' s.heap a.heap)(cb:gb X.prog X.w H' a.heap)(d:ao2 a.gens)
  (h:∀b∈ch,(b∈X.ex\/X.gN.heap.objs.size<=b)/\b≠X.env.locals/\(∀x c,X.env.cells.lookup x=some c->c≠b)/\∀p∈X.nX++zn,p.1≠b):Inv X zn U H' a:=by
 obtain⟨h',g',d',t',g⟩:=a;have e:g=s.os:=f;subst e;exact J.call (g':=g') (t':=t') (d':=d') u cb d h
end
abbrev gw:=Value->Option Addr->aw->Prop
abbrev St:=List (Option V)
abbrev cE:=V->aw->Prop
abbrev TE:=St->aw->cE->Prop
abbrev TT:=St->aw->(Bool->aw->Prop)->Prop
abbrev fQ:=St->aw->(List V->aw->Prop)->Prop
structure Ends where
 bu:St->aw->Prop
 cp:cE
 bk:St->aw->Prop:=λ_ _=>False
 cx:St->aw->Prop:=λ_ _=>False
abbrev gu:=Ends->St->aw->Prop
def g7(X:aT)(zn:cW)(U:St)(Q:cE)(u:Value)(a:alO):Prop:=∃v H',Inv X zn U H' a/\RelV v u/\Q v H'
def BS(X:aT)(zn:cW)(U:St)(Q:Bool->aw->Prop)(b:Bool)(a:alO):Prop:=∃H',Inv X zn U H' a/\Q b H'
def Rr(X:aT)(zn:cW)(U:St)(Q:List V->aw->Prop)(us:List Value)(a:alO):Prop:=∃vs H',Inv X zn U H' a/\Vals vs us/\Q vs H'
def sL(X:aT)(zn:cW)(D:Ends)(f:Flow)(a:alO):Prop:=
 match f with
 |.next=>∃U' H',Inv X zn U' H' a/\D.bu U' H'|.brk=>∃U' H',Inv X zn U' H' a/\D.bk U' H'|.cont=>∃U' H',Inv X zn U' H' a/\D.cx U' H'|.ret u=>∃v U' H',Inv X zn U' H' a/\RelV v u/\D.cp v H'
def b1(X:aT)(e:Expr)(t:TE):Prop:=
 ∀(zn:cW)(s:alO)(U:St)(H:aw)(Q:cE),Inv X zn U H s->t U H Q->wpAny (model X.prog X.w) X.A (eval e X.env) (g7 X zn U Q) X.dH s
def iy(X:aT)(e:Expr)(t:TT):Prop:=
 ∀(zn:cW)(s:alO)(U:St)(H:aw)(Q:Bool->aw->Prop),Inv X zn U H s->t U H Q->wpAny (model X.prog X.w) X.A (isTrue e X.env (eval e X.env)) (BS X zn U Q) X.dH s
def l7(X:aT)(e:Expr)(t:TT):Prop:=
 ∀(a:Sem Value)(zn:cW)(s:alO)(U:St)(H:aw)(Q:Bool->aw->Prop),Inv X zn U H s->t U H Q->wpAny (model X.prog X.w) X.A (isTrue e X.env a) (BS X zn U Q) X.dH s
def l7.pt(h:l7 X e t):iy X e t:=h _
def gR(X:aT)(a:List Expr)(t:fQ):Prop:=
 ∀(pos:Pos)(zn:cW)(s:alO)(U:St)(H:aw)(Q:List V->aw->Prop),Inv X zn U H s->t U H Q->wpAny (model X.prog X.w) X.A (spliced (amg pos (alJ a X.env))) (Rr X zn U Q) X.dH s
def iw(X:aT)(st:Stmt)(t:gu):Prop:=
 ∀(zn:cW)(s:alO)(U:St)(H:aw)(D:Ends),Inv X zn U H s->t D U H->wpAny (model X.prog X.w) X.A (exec st X.env) (sL X zn D) X.dH s
def ix(X:aT)(st:List Stmt)(t:gu):Prop:=
 ∀(zn:cW)(s:alO)(U:St)(H:aw)(D:Ends),Inv X zn U H s->t D U H->wpAny (model X.prog X.w) X.A (execs st X.env) (sL X zn D) X.dH s
def bW{α:Type}{t:Sem α}{Q b:α->alO->Prop}{M:Model}{A:ami}{E:de}{s:alO}(h:wpAny M A t Q E s)(c:∀a s,Q a s->b a s):wpAny M A t b E s:=amH h c λ_ _ x=>x
section
variable{X:aT}
def agE(i:Nat):TE:=λU H Q=>∃v,U[i]? = some (some v)/\Q v H
def pq(v:V):TE:=λ_ H Q=>Q v H
def Ax(hN:X.N[i]? = some x)(b:q6 X.env.scope x)(hd:(x==("__debug__":Str))=false:=by decide)(d:(x==("__classdict__":Str))=false:=by decide):b1 X (.Name x pos) (agE i):=by
 intro zn s U H Q J h;obtain⟨v,e,h⟩:=h;obtain⟨m,a,hl⟩:=J.loc;obtain⟨u,r,l⟩:=hl i x v hN e b;have fin:g7 X zn U Q u s:=⟨v,H,J,r,h⟩;rcases l with⟨o,hm⟩|⟨o,c,hc,C⟩
 .exact wpAny_Name (wpAny_loadName_local J.ok.kind o a hm fin) hd
 .rcases o with o|o
  .exact wpAny_Name (wpAny_loadName_cell J.ok.kind o hc C fin) hd
  .exact wpAny_Name (wpAny_loadName_free J.ok.kind o hc C fin d) hd
def aee{i j pos}:b1 X (.Constant (.int i) j pos) (pq (.int i)):=λ_ _ _ H _ J h=>wpAny_Constant_int ⟨.int i,H,J.tok _,⟨_,rfl⟩,h⟩
def ad3{b j pos}:b1 X (.Constant (.bool b) j pos) (pq (.ax b)):=λ_ _ _ H _ J h=>Constant_bool ⟨.ax b,H,J,rfl,h⟩
def aej{j pos}:b1 X (.Constant .none j pos) (pq .aH):=λ_ _ _ H _ J h=>Constant_none ⟨.aH,H,J,rfl,h⟩
def aen{x j pos}:b1 X (.Constant (.str x) j pos) (pq (.str x)):=λ_ _ _ H _ J h=>Calls.Constant_str ⟨.str x,H,J.tok _,⟨_,rfl⟩,h⟩
def d_(X:aT)(x:Str):Prop:=X.env.kindOf x=some .globalImplicit
def tB{E:de}{zn:cW}{s:alO}{U:St}{H:aw}{x:Str}{u:Value}{pos:Pos}{Q:de}(J:Inv X zn U H s)(a:d_ X x)(b:X.mg x=some u)(h:Q u s)
  (hd:(x==("__debug__":Str))=false:=by decide):wpAny (model X.prog X.w) X.A (eval (.Name x pos) X.env) Q E s:=
 apE J.ok.kind a (Calls.loadGlobal_global (by rw[J.ok.glob];exact J.mod.glob.keeps J.bk) b h) hd
def nK{E:de}{zn:cW}{s:alO}{U:St}{H:aw}{x:Str}{u:Value}{pos:Pos}{Q:de}(J:Inv X zn U H s)(a:d_ X x)(f:X.mg x=none)(e:amB x=some u)(h:Q u s)
  (d:x≠"__name__":=by decide) (hd:(x==("__debug__":Str))=false:=by decide):wpAny (model X.prog X.w) X.A (eval (.Name x pos) X.env) Q E s:=by
 obtain⟨g,b,c⟩:=J.mod.blt;exact apE J.ok.kind a (Calls.loadGlobal_builtin (by rw[J.ok.glob];exact J.mod.glob.keeps J.bk) f (by rw[J.ok.blt];exact b.keeps J.bk) ((c x d).trans e) h) hd
def aed{v:V}(a:d_ X x)(b:X.mg x=some u)(r:RelV v u)(hd:(x==("__debug__":Str))=false:=by decide):b1 X (.Name x pos) (pq v):=
 λ_ _ _ H _ J h=>tB J a b ⟨v,H,J,r,h⟩ hd
def xb{v:V}(a:d_ X x)(d:X.mg x=none)(c:amB x=some u)(r:RelV v u)(b:x≠"__name__":=by decide)(hd:(x==("__debug__":Str))=false:=by decide):b1 X (.Name x pos) (pq v):=
 λ_ _ _ H _ J h=>nK J a d c ⟨v,H,J,r,h⟩ b hd
variable{a b:Expr}{bV cJ:TE}{pos:Pos}
def RO(X:aT)(op:CmpOp)(a b:Expr)(t:TE):Prop:=
 ∀(zn:cW)(s:alO)(U:St)(H:aw)(Q:cE),Inv X zn U H s->t U H Q->
  wpAny (model X.prog X.w) X.A (eval a X.env) (λv c=>wpAny (model X.prog X.w) X.A (eval b X.env) (λu d=>wpAny (model X.prog X.w) X.A (amx op v u) (g7 X zn U Q) X.dH d) X.dH c) X.dH s
def acU(b:Expr){op:CmpOp}(h:op≠.In)(c:op≠.NotIn):anE op b=false:=by
 have av:(op==CmpOp.In)=false:=by cases op<;>first|rfl|exact absurd rfl h
 have aE:(op==CmpOp.NotIn)=false:=by cases op<;>first|rfl|exact absurd rfl c
 cases b<;>simp[anE,av,aE]
def QG(t:TE):TT:=λU H Q=>t U H λx d=>∃c,x=.ax c/\Q c d
def alj{op:CmpOp}(h:RO X op a b t)(e:anE op b=false:=by first|exact acU _ (by decide) (by decide)|rfl):iy X (.Compare a [op] [b] pos) (QG t):=by
 intro zn s U H Q J hw;refine wpAny_isTrue_Compare1 (bW (h zn s U H _ J hw) λv k e=>bW e λu s2 g=>bW g λc s3 ⟨x,f,j,i,bq⟩=>?_) e;obtain⟨d,rfl,q⟩:=bq;cases i;exact amY ⟨f,j,q⟩
def aeW{e:Expr}(h:b1 X e t)(he:∀c,isTrue e X.env c=(do let v <-c;anY e.pos;ang [v] (truthy v)):=by intro _;rfl):iy X e (QG t):=by
 intro zn s U H Q J hw;refine isTrue_plain (bW (h zn s U H _ J hw) λv j ⟨x,f,i,g,bq⟩=>?_) (he _);obtain⟨d,rfl,q⟩:=bq;cases g;exact amY ⟨f,i,q⟩
variable{n0 AU:TT}{rest:List Expr}
def agg(t u:TT):TT:=λU H Q=>t U H λc d=>if c=true then u U d Q else Q false d
def agv(t u:TT):TT:=λU H Q=>t U H λc d=>if c=true then Q true d else u U d Q
def agt(t:TT):TT:=λU H Q=>t U H λc d=>Q (!c) d
def ae2(d:iy X a n0):l7 X (.BoolOp .And [a] pos) n0:=by
 intro g zn s U H Q J h;refine isTrue_and (bW (d zn s U H Q J h) λc f e=>?_)
 cases c with
 |true=>exact isTrue_and_nil e|false=>exact e
def ae4(d:iy X a n0):l7 X (.BoolOp .Or [a] pos) n0:=by
 intro g zn s U H Q J h;refine isTrue_or (bW (d zn s U H Q J h) λc f e=>?_)
 cases c with
 |false=>exact isTrue_or_nil e|true=>exact e
def ae1(i:iy X a n0)(g:l7 X (.BoolOp .And (b::rest) pos) AU):l7 X (.BoolOp .And (a::b::rest) pos) (agg n0 AU):=by
 intro k zn s U H Q J h;refine isTrue_and (bW (i zn s U H _ J h) λc j f=>?_);obtain⟨d,e,bq⟩:=f
 cases c with
 |true=>exact g k zn j U d Q e bq|false=>exact⟨d,e,bq⟩
def ae3(i:iy X a n0)(g:l7 X (.BoolOp .Or (b::rest) pos) AU):l7 X (.BoolOp .Or (a::b::rest) pos) (agv n0 AU):=by
 intro k zn s U H Q J h;refine isTrue_or (bW (i zn s U H _ J h) λc j f=>?_);obtain⟨d,e,bq⟩:=f
 cases c with
 |true=>exact⟨d,e,bq⟩|false=>exact g k zn j U d Q e bq
def aeV(e:iy X a n0):iy X (.UnaryOp .Not a pos) (agt n0):=by
 intro zn s U H Q J h;exact isTrue_not (e zn s U H (λc d=>Q (!c) d) J h)
def agh(bV cJ:TE):TE:=λU H Q=>bV U H λx d=>∃c,x=.ax c/\if c=true then cJ U d Q else Q (.ax false) d
def agu(bV:TE):TE:=λU H Q=>bV U H λx d=>∃c,x=.ax c/\Q (.ax (!c)) d
def ael{op}(h:b1 X a t):b1 X (.BoolOp op [a] pos) t:=λzn s U H Q J hw=>BoolOp_one (h zn s U H Q J hw)
def ad2(i:b1 X a bV)(g:b1 X (.BoolOp .And (b::rest) pos) cJ):b1 X (.BoolOp .And (a::b::rest) pos) (agh bV cJ):=by
 intro zn s U H Q J h;refine BoolOp_and (bW (i zn s U H _ J h) λv k f=>?_);obtain⟨x,d,e,j,bq⟩:=f;obtain⟨c,rfl,bq⟩:=bq;cases j;refine amY ?_
 cases c with
 |true=>exact g zn k U d Q e bq|false=>exact⟨.ax false,d,e,rfl,bq⟩
def aek(f:b1 X a bV):b1 X (.UnaryOp .Not a pos) (agu bV):=by
 intro zn s U H Q J h;refine UnaryOp_ (bW (f zn s U H _ J h) λv j e=>?_);obtain⟨x,d,i,g,bq⟩:=e;obtain⟨c,rfl,bq⟩:=bq;cases g;exact not_of (amY ⟨.ax (!c),d,i,rfl,bq⟩)
end
def dq(K:aN)(H:aw)(a:Addr)(xs:List V):Prop:=
 hE H a (.l xs)\/
  ∃(o:Obj)(its:Array Value)(n:Nat),K.lookup a=some o/\o.cls=.type "list"/\o.dict=none/\o.data=.seq its n/\its.size<=alP/\Vals xs its.toList
def dx(K:aN)(H:aw)(a:Addr)(xs:List V):Prop:=
 hE H a (.t xs)\/
  ∃(o:Obj)(its:Array Value)(n:Nat),K.lookup a=some o/\o.cls=.type "tuple"/\o.data=.seq its n/\its.size<=alP/\Vals xs its.toList
def RZ:Value->Option V
 |.none=>some .aH|.bool b=>some (.ax b)|.int i _=>some (.int i)|.str x _=>some (.str x)|.bytes b _=>some (.yx b)|.float b _=>some (.yX b)|.ref a=>some (.ref a)|.type n=>some (.ty n)|_=>none
def RelV.abs(r:RelV x u):RZ u=some x:=by
 cases x with
 |aH=>cases r;rfl
 |ax _=>cases r;rfl
 |int _=>obtain⟨t,rfl⟩:=r;rfl
 |str _=>obtain⟨t,rfl⟩:=r;rfl
 |yx _=>obtain⟨t,rfl⟩:=r;rfl
 |yX _=>obtain⟨t,rfl⟩:=r;rfl
 |ref _=>cases r;rfl
 |ty _=>cases r;rfl
def RelV.inj(r:RelV x u)(q:RelV y u):x=y:=amf (r.abs.symm.trans q.abs)
theorem Vals.inj:∀{xs ys:List V}{us:List Value},Vals xs us->Vals ys us->xs=ys
 |_,_,_,.nil,.nil=>rfl| _,_,_,.cons r t,.cons o t'=>by rw[r.inj o,Vals.inj t t']
section
variable{X:aT}{zn:cW}{U:St}{H:aw}{s:alO}{a:Addr}{xs ys:List V}
def dq.of{K:aN}(h:H a=some (.l xs)):dq K H a xs:=.inl (.inl h)
def dx.of{K:aN}(h:H a=some (.t xs)):dx K H a xs:=.inl (.inl h)
def Inv.list(J:Inv X zn U H s)(h:dq X.K H a xs):∃its:List Value,Vals xs its/\PlainL s.heap a its.toArray/\xs.length<=alP:=by
 rcases h with h|⟨o,its,n,C,hc,hd,hs,hz,r⟩
 .obtain⟨z,its,n,r,e⟩:=h.ok J.cb
  exact⟨its,r,⟨_,n,e,rfl,rfl,rfl⟩,z⟩
 .refine⟨its.toList,r,⟨o,n,J.f3 a o C,hc,hd,by simpa using hs⟩,?_⟩
  have e:=r.length;simp only[amA]at e;omega
def Inv.tuple(J:Inv X zn U H s)(h:dx X.K H a xs):∃its:List Value,Vals xs its/\IsTup s.heap a its.toArray/\xs.length<=alP:=by
 rcases h with h|⟨o,its,n,C,hc,hs,hz,r⟩
 .obtain⟨z,its,r,p⟩:=h.ok J.cb
  exact⟨its,r,p,z⟩
 .refine⟨its.toList,r,⟨o,J.f3 a o C,hc,n,by simpa using hs⟩,?_⟩
  have e:=r.length;simp only[amA]at e;omega
def Inv.Ow(J:Inv X zn U H s)(h:dq X.K H a xs)(h':dq X.K H a ys):xs=ys:=by
 obtain⟨its,r,⟨o,n,e,_,_,d⟩,_⟩:=J.list h;obtain⟨its',c,⟨f,g,b,_,_,d'⟩,_⟩:=J.list h';rw[e]at b;cases b;rw[d]at d';injection d' with C _
 have:its=its':=by simpa using congrArg Array.toList C
 subst this;exact r.inj c
def Inv.QO(J:Inv X zn U H s)(h:dx X.K H a xs)(h':dx X.K H a ys):xs=ys:=by
 obtain⟨its,r,⟨o,e,_,n,d⟩,_⟩:=J.tuple h;obtain⟨its',c,⟨f,b,_,g,d'⟩,_⟩:=J.tuple h';rw[e]at b;cases b;rw[d]at d';injection d' with C _
 have:its=its':=by simpa using congrArg Array.toList C
 subst this;exact r.inj c
end
abbrev aT.mU(X:aT)(E:de):aT:={ X with dH:=E }
abbrev aT.gB(X:aT):aT:=X.mU λ_ _=>False
def aT.Ok.mU{X:aT}(ok:X.Ok)(E:de):(X.mU E).Ok:=
 ⟨ok.mod,ok.kind,ok.glob,ok.blt,ok.above,ok.inj,ok.has,ok.vn,ok.hd,ok.frames,ok.AQ,ok.yS,ok.bs,ok.mh,ok.w0,ok.vx,ok.kE,ok.p'⟩
def aT.Ok.pB{X:aT}(ok:(X.mU E).Ok):X.Ok:=
 ⟨ok.mod,ok.kind,ok.glob,ok.blt,ok.above,ok.inj,ok.has,ok.vn,ok.hd,ok.frames,ok.AQ,ok.yS,ok.bs,ok.mh,ok.w0,ok.vx,ok.kE,ok.p'⟩
section
variable{X:aT}{zn:cW}{U:St}{H:aw}{s:alO}{E:de}
def Inv.mU(J:Inv X zn U H s)(E:de):Inv (X.mU E) zn U H s:=⟨J.ok.mU E,J.os,J.bare,J.base,J.loc,J.cell,J.free,J.mj,J.pin,J.cb,J.len⟩
def Inv.pB(J:Inv (X.mU E) zn U H s):Inv X zn U H s:=⟨J.ok.pB,J.os,J.bare,J.base,J.loc,J.cell,J.free,J.mj,J.pin,J.cb,J.len⟩
def sL.pB{D:Ends}(h:sL (X.mU E) zn D f o):sL X zn D f o:=by
 cases f with
 |next=>obtain⟨U',H',J,q⟩:=h;exact⟨U',H',J.pB,q⟩
 |brk=>obtain⟨U',H',J,q⟩:=h;exact⟨U',H',J.pB,q⟩
 |cont=>obtain⟨U',H',J,q⟩:=h;exact⟨U',H',J.pB,q⟩
 |ret u=>obtain⟨v,U',H',J,r,q⟩:=h;exact⟨v,U',H',J.pB,r,q⟩
theorem b1.gB(h:b1 X.gB e t):b1 X e t:=λzn s U H Q J hw=>
 amH (h zn s U H Q (J.mU _) hw) (λ_ _ ⟨v,H',a,r,q⟩=>⟨v,H',a.pB,r,q⟩) λ_ _ z=>amu z
theorem ix.gB{st:List Stmt}{t:gu}(h:ix X.gB st t):ix X st t:=λzn s U H D J hw=>
 amH (h zn s U H D (J.mU _) hw) (λ_ _ q=>q.pB) λ_ _ z=>amu z
end
section
variable{X:aT}{st:Stmt}{rest:List Stmt}{t u:gu}{e:Expr}{te:TE}{pos:Pos}
def agr:gu:=λD U H=>D.bu U H
def agz(t u:gu):gu:=λD U H=>t { D with bu:=u D } U H
def aeP:ix X [] agr:=λ_ _ U H _ J h=>ao7 ⟨U,H,J,h⟩
def PN(a:iw X st t)(b:ix X rest u):ix X (st::rest) (agz t u):=by
 intro zn s U H D J h;refine wpAny_execs_cons (bW (a zn s U H { D with bu:=u D } J h) λf d q=>?_)
 cases f with
 |next=>
  obtain⟨U',H',c,q⟩:=q;exact b zn d U' H' D c q
 |ret v=>exact q|brk=>exact q|cont=>exact q
def PO(a:iw X st t):ix X [st] t:=by
 intro zn s U H D J h;refine wpAny_execs_cons (bW (a zn s U H D J h) λf b q=>?_)
 cases f with
 |next=>exact ao7 q
 |ret v=>exact q|brk=>exact q|cont=>exact q
def Inv.quiet{s:alO}(J:Inv X zn U H s):interactive X.env=false:=by simp[interactive,J.ok.kind]
def agl(te:TE):gu:=λD U H=>te U H λ_ a=>D.bu U a
def Ay(he:b1 X e te)(hs:anm e none pos.line X.env=pure false:=by rfl):iw X (.Expr e pos) (agl te):=by
 intro zn s U H D J h;exact wpAny_Expr_any (bW (he zn s U H _ J h) λv d ⟨x,a,b,c,bq⟩=>⟨U,a,b,bq⟩) J.quiet hs
def agx(te:TE):gu:=λD U H=>te U H D.cp
def FX(he:b1 X e te):iw X (.Return (some e) pos) (agx te):=by
 intro zn s U H D J h;exact wpAny_Return_some (bW (he zn s U H _ J h) λv d ⟨x,a,c,b,bq⟩=>⟨x,U,a,c,b,bq⟩)
def agy:gu:=λD _ H=>D.cp .aH H
def aeO:iw X (.Return none pos) agy:=λ_ _ U H _ J h=>wpAny_Return_none ⟨.aH,U,H,J,rfl,h⟩
def agn(c:TT)(t u:gu):gu:=λD U H=>c U H λb a=>if b=true then t D U a else u D U a
def PL(m:iy X c o)(l:ix X a t)(k:ix X b u):iw X (.If c a b pos) (agn o t u):=by
 intro zn s U H D J h;refine wpAny_If (bW (m zn s U H _ J h) λd i j=>?_);obtain⟨f,g,bq⟩:=j
 cases d with
 |true=>exact l zn i U f D g bq|false=>exact k zn i U f D g bq
def agq:gu:=λ_ _ _=>False
def aeN:iw X st agq:=λ_ _ _ _ _ _ h=>h.elim
end
abbrev iP:=V->St->aw->(St->aw->Prop)->Prop
abbrev pY:=List V->St->aw->(St->aw->Prop)->Prop
def ob(X:aT)(a:Expr)(t:iP):Prop:=
 ∀(zn:cW)(s:alO)(U:St)(H:aw)(v:V)(u:Value)(Q:St->aw->Prop),Inv X zn U H s->RelV v u->t v U H Q->
  wpAny (model X.prog X.w) X.A (aoc a X.env u) (λ_ b=>∃U' H',Inv X zn U' H' b/\Q U' H') X.dH s
def q2(X:aT)(dE:List Expr)(t:pY):Prop:=
 ∀(zn:cW)(s:alO)(U:St)(H:aw)(vs:List V)(us:List Value)(Q:St->aw->Prop),Inv X zn U H s->Vals vs us->t vs U H Q->
  wpAny (model X.prog X.w) X.A (assignInOrder ((amJ dE X.env).map (·.2)) us) (λ_ a=>∃U' H',Inv X zn U' H' a/\Q U' H') X.dH s
abbrev BU:=V->V->V->aw->(aw->Prop)->Prop
def Hq(X:aT)(t:BU):Prop:=
 ∀(zn:cW)(s:alO)(U:St)(H:aw)(o i v:V)(bK a u:Value)(Q:aw->Prop),Inv X zn U H s->RelV o bK->RelV i a->RelV v u->t o i v H Q->
  wpAny (model X.prog X.w) X.A (setItem bK a u) (λ_ b=>∃H',Inv X zn U H' b/\Q H') X.dH s
section
variable{X:aT}{pos:Pos}
def kF(i:Nat):iP:=λv U H Q=>Q (U.set i (some v)) H
def uk(hN:X.N.Nodup)(hi:X.N[i]? = some x)(a:Loc X.env.scope x)(c:X.fn x=true\/X.env.scope.names.lookup x=some .local:=by first|exact .inl rfl|exact .inr rfl|assumption):ob X (.Name x pos) (kF i):=by
 intro zn s U H v u Q J r h;exact wpAny_assign_Name (QC J hN hi a r (λd b=>⟨_,H,b,h⟩) c)
def Mw:pY:=λvs U H Q=>vs=[]/\Q U H
def Mu(t:iP)(u:pY):pY:=λvs U H Q=>∃v r,vs=v::r/\t v U H λU' H'=>u r U' H' Q
def aex:q2 X [] Mw:=by
 intro zn s U H vs us Q J r h;obtain⟨e,h⟩:=h;subst e;cases r;exact assignInOrder_nil ⟨U,H,J,h⟩
def aev{e:Expr}{a:List Expr}{t:iP}{u:pY}(d:ob X e t)(f:q2 X a u)
  (hs:(amJ (e::a) X.env).map (·.2)=aoc e X.env::(amJ a X.env).map (·.2):=by rfl):q2 X (e::a) (Mu t u):=by
 intro zn s U H vs us Q J r h;obtain⟨v,l,av,h⟩:=h;subst av
 cases r with
 |cons r i=>
  rw[hs];refine assignInOrder_cons (bW (d zn s U H _ _ _ J r h) λ_ k c=>?_);obtain⟨j,b,g,bq⟩:=c;exact f zn k j b _ _ Q g i bq
def DC(K:aN)(n:Nat)(t:pY):iP:=λv U H Q=>∃a xs,v=.ref a/\dx K H a xs/\xs.length=n/\t xs U H Q
def aeu{c:List Expr}{k:Nat}{t:pY}{n:Nat}(m:X.calm=true)(h:q2 X c t)
  (i:(amJ c X.env).length=n:=by rfl) (p:(amJ c X.env).findIdx? (·.1)=none:=by rfl):ob X (.Tuple c k pos) (DC X.K n t):=by
 intro zn s U H v u Q J r hw;obtain⟨a,xs,av,f,hl,hw⟩:=hw;subst av;cases r;obtain⟨its,d,j,hz⟩:=J.tuple f;refine assign_Tuple_tuple (J.ok.hd m) j (by simp[i,<-hl,d.length]) p λh' g=>?_
 have l:Inv X zn U H { s with heap:=h' }:=J.kept (t':=s.toks) λb o e=>g b o (amo (alX e)) e
 exact h zn _ U H xs _ Q l (by simpa using d) hw
def VJ(to a:TE)(t:BU):iP:=λv U H Q=>to U H λo b=>a U b λi c=>t o i v c λd=>Q U d
def aet{o i:Expr}{to c:TE}{t:BU}(f:b1 X o to)(hi:b1 X i c)(hs:Hq X t)
  (g:∀v,aoc (.Subscript o i pos) X.env v=(do
   let bK <-ang [v] (eval o X.env)
   let b <-ang [v,bK] (eval i X.env)
   anY pos
   ang [v,bK,b] (setItem bK b v)
   release [v,bK,b] []):=by intro _;rfl):ob X (.Subscript o i pos) (VJ to c t):=by
 intro zn s U H v u Q J r h;rw[g];refine alI (anh (bW (f zn s U H _ J h) λbK w a=>?_));obtain⟨x,d,l,k,bq⟩:=a;refine alI (anh (bW (hi zn w U d _ l bq) λb s2 a=>?_));obtain⟨y,e,j,n,bO⟩:=a;refine alI (aoU (alI (anh (bW (hs zn s2 U e x y v bK b u _ j k n r bO) λ_ s3 a=>?_))));obtain⟨m,q,p⟩:=a;exact wpAny_release ⟨U,m,q,p⟩
def uF(te:TE)(g:iP):gu:=λD U H=>te U H λx a=>g x U a D.bu
def aeK{cf e:Expr}{te:TE}{g:iP}(he:b1 X e te)(b:ob X cf g)(hs:swapsWithSole [cf] e pos.line X.env=pure false:=by rfl)(hw:swappedStores [cf] e X.env=pure none:=by rfl)
  (c:(amJ [cf] X.env).map (·.2)=[aoc cf X.env]:=by rfl):iw X (.Assign [cf] e pos) (uF te g):=by
 intro zn s U H D J h;refine wpAny_Assign_stores (bW (he zn s U H _ J h) λv i ⟨x,a,f,d,bq⟩=>?_) hs hw;rw[c];exact bW (b zn i U a x v _ f d bq) λ_ s2 q=>q
def FY(hN:X.N.Nodup)(hi:X.N[i]? = some x)(b:Loc X.env.scope x)(he:b1 X e te)(hs:anm e (some (.Name x pos')) pos.line X.env=pure false:=by rfl)(g:X.fn x=true\/X.env.scope.names.lookup x=some .local:=by first|exact .inl rfl|exact .inr rfl|assumption) :
  iw X (.Assign [.Name x pos'] e pos) (uF te (kF i)):=by
 intro zn s U H D J h;refine wpAny_Assign_Name (bW (he zn s U H _ J h) λv j ⟨y,a,f,d,bq⟩=>?_) hs;exact QC f hN hi b d (λs2 c=>⟨_,a,c,bq⟩) g
end
section
variable{X:aT}{pos:Pos}
def GF(c:TT)(cJ:gu):gu:=λD U H=>∃W:Nat->St->aw->Prop,(∃m,W m U H)/\∀m U H,W m U H->
 c U H λb a=>if b=true then ∃N:St->aw->Prop,(∀U' H',N U' H'->∃d,d<m/\W d U' H')/\cJ { D with bu:=N,cx:=N,bk:=D.bu } U a else D.bu U a
def PM(r:apy (model X.prog X.w) X.A X.env X.dH)(B:iy X c o)(y:ix X body cJ):iw X (.While c body [] pos) (GF o cJ):=by
 intro zn s U H D J h;obtain⟨W,⟨E,I⟩,turn⟩:=h;refine wpAny_While (codeAny_whileLoop (λn u=>∃U' H',Inv X zn U' H' u/\W n U' H') ?_ E ⟨U,H,J,I⟩);rintro n G ⟨g,p,z,F⟩;refine anP r (bW (B zn G g p _ z (turn n g p F)) λb s2 x=>?_);obtain⟨q,t,bO⟩:=x
 cases b with
 |true=>
  obtain⟨N,hN,bO⟩:=bO;rw[if_pos rfl];refine anP r (bW (y zn s2 g q _ t bO) λf s3 e=>?_)
  cases f with
  |next=>
   obtain⟨d,a,i,l⟩:=e;obtain⟨j,k,m⟩:=hN d a l;exact⟨j,k,d,a,i,m⟩
  |cont=>
   obtain⟨d,a,i,l⟩:=e;obtain⟨j,k,m⟩:=hN d a l;exact⟨j,k,d,a,i,m⟩
  |brk=>exact e|ret v=>exact e
 |false=>
  rw[if_neg alR];exact ao7 ⟨g,q,t,bO⟩
end
structure iv where
 go:Nat->aw->Prop
 pK:Nat->aw->V->aw->Prop
 stop:Nat->aw->Prop
def gQ(X:aT)(zn:cW)(H:aw)(b:Addr):Prop:=
 H b=none/\b≠X.env.locals/\b∉X.aS/\(b∈X.ex\/X.gN.heap.objs.size<=b)/\(∀x c,X.env.cells.lookup x=some c->c≠b)/\∀p∈X.nX++zn,p.1≠b
def Inv.ry{H H':aw}{s:alO}(J:Inv X zn U H s)(a:s.heap.objs.size<=b)(f:H' b=none):gQ X zn H' b:=by
 refine⟨f,Nat.ne_of_gt (amn J.lt a),J.acX a,.inr (amq J.pn a),λx c e z=>?_,λp d z=>?_⟩
 .obtain⟨v,q⟩:=J.cell x c e
  exact absurd (amn q.lt (by rw[z];exact a)) (amF _)
 .exact absurd (amn (alX (J.pin p d).1) (by rw[z];exact a)) (amF _)
structure Turn(P:al7)(w:World)(K:aN)(cf:Expr)(ct:iv)(aR:List Addr)(it:Addr)(eT:Nat->Heap->Prop):Prop where
 mem:it∈aR
 obj:∀i h,eT i h->∀b∈aR,∃o,h.get? b=some o/\∀v,o.data≠.cell v
 keep:∀i h h',eT i h->(∀b∈aR,∀o,h.get? b=some o->h'.get? b=some o)->eT i h'
 item:∀(X:aT),X.prog=P->X.w=w->X.K=K->X.calm=true->∀(i:Nat)(zn:cW)(s:alO)(U:St)(H:aw)(E:de),Inv X zn U H s->(∀b∈aR,gQ X zn H b)->eT i s.heap->ct.go i H->
  wpAny (model P w) X.A (aoD (.ref it)) (λr s1=>∃u,r=some u/\
   wpAny (model P w) X.A (ao8 cf (.ref it) u) (λ_ s2=>∃x H',Inv X zn U H' s2/\RelV x u/\ct.pK i H x H'/\eT (i+1) s2.heap/\∀b∈aR,H' b=none) E s1) E s
 done:∀(X:aT),X.prog=P->X.w=w->X.K=K->X.calm=true->∀(i:Nat)(zn:cW)(s:alO)(U:St)(H:aw)(E:de),Inv X zn U H s->(∀b∈aR,gQ X zn H b)->eT i s.heap->ct.stop i H->
  wpAny (model P w) X.A (aoD (.ref it)) (λr s1=>r=none/\Inv X zn U H s1) E s
 self:∀(A:ami)(i:Nat)(s:alO)(Q:de)(E:de),eT i s.heap->Q (.ref it) s->wpAny (model P w) A (pyIter (.ref it)) Q E s
abbrev TI:=St->aw->(iv->aw->Prop)->Prop
def Hp(X:aT)(zn:cW)(U:St)(cf:Expr)(R:iv->aw->Prop)(d:Value)(s2:alO):Prop:=
 ∃(it:Addr)(a:List Addr)(eT:Nat->Heap->Prop)(c:iv)(H':aw),d=.ref it/\Inv X zn U H' s2/\Turn X.prog X.w X.K cf c a it eT/\eT 0 s2.heap/\(∀b∈a,gQ X zn H' b)/\R c H'
def j1(X:aT)(cf a:Expr)(wi:TI):Prop:=
 ∀(zn:cW)(s:alO)(U:St)(H:aw)(R:iv->aw->Prop),Inv X zn U H s->wi U H R->
  wpAny (model X.prog X.w) X.A (eval a X.env) (λv b=>wpAny (model X.prog X.w) X.A (pyIter v) (Hp X zn U cf R) X.dH b) X.dH s
def vE{M:Model}{A:ami}{E:de}{s:alO}{cf:Expr}{it:Addr}{u:Value}{o:Obj}{n:String}{vs:Array Value}{Q:Unit->alO->Prop}(b:s.heap.get? it=some o)(d:o.cls=.type n)(hd:o.data=.fields vs)
    (c:["enumerate","zip","dict_itemiterator","dict_reverseitemiterator","odict_iterator","itertools.zip_longest","itertools.pairwise"].contains n=false) (a:Q () s):wpAny M A (ao8 cf (.ref it) u) Q E s:=by
  unfold ao8;cases cf<;>first
    |exact alT a
    |(cases u<;>first
        |exact alT a
        | (refine alI (wpAny_load b ?_)
           rw[d,hd];show wpAny M A (if(["enumerate","zip","dict_itemiterator","dict_reverseitemiterator","odict_iterator","itertools.zip_longest","itertools.pairwise"].contains n&&vs[0]? == some (anS _))=true then _ else _) Q E s;rw[if_neg (by intro h;rw[c,Bool.false_and]at h;cases h)];exact alT a))
def pR(K:aN)(a:Addr):iv:=
 ⟨λi H=>∃xs x,dq K H a xs/\xs[i]? = some x,λi H x H'=>H'=H/\∀xs,dq K H a xs->xs[i]? = some x,λi H=>∃xs,dq K H a xs/\xs.length<=i⟩
def sD(K:aN)(a:Addr):iv:=
 ⟨λi H=>∃xs x,dx K H a xs/\xs[i]? = some x,λi H x H'=>H'=H/\∀xs,dx K H a xs->xs[i]? = some x,λi H=>∃xs,dx K H a xs/\xs.length<=i⟩
def m6(lo:Int)(n:Nat):iv:=⟨λi _=>i<n,λi H x H'=>H'=H/\x=.int (lo+i),λi _=>n<=i⟩
def ag1{P:al7}{w:World}{K:aN}{cf:Expr}(a it:Addr):Turn P w K cf (pR K a) [it] it (λi h=>h.IsListIter it a i) where
 mem:=by simp
 obj:=λi h st b f=>by
  have e:b=it:=by simpa using f
  subst e;obtain⟨o,e,c,d⟩:=st;exact⟨o,e,λv z=>by rw[d]at z;cases z⟩
 keep:=λi h h' st k=>st.at λo e=>k it (by simp) o e
 item:=by
  intro X q hw D G i zn s U H E J j st l;subst q hw D;obtain⟨xs,x,g,m⟩:=l;obtain⟨its,n,p,hz⟩:=J.list g;obtain⟨u,N,O⟩:=n.get m;obtain⟨r,t,Q,B,y,A⟩:=j it (by simp);refine wpAny_pyNext_list_item st p.isList (x:=u) (by simpa using N) λh' F R=>?_
  have L:Inv X zn U H { s with heap:=h' }:=J.turned (t':=s.toks) (λb o f e=>(R.2 b f).trans e) r t B y A;obtain⟨o,e,c,d⟩:=id F;exact⟨u,rfl,vE (s:={ s with heap:=h' }) e c d (by decide) ⟨x,H,L,O,⟨rfl,λys I=>by rw[J.Ow I g];exact m⟩,F,λb f=>(j b f).1⟩⟩
 done:=by
  intro X q hw D G i zn s U H E J j st l;subst q hw D;obtain⟨xs,g,m⟩:=l;obtain⟨its,n,p,hz⟩:=J.list g;obtain⟨r,t,Q,B,y,A⟩:=j it (by simp);have hl:=n.length;exact wpAny_pyNext_list_end (J.ok.hd G) st p.isList (by simp;omega) λh' M=>⟨rfl,J.turned (t':=s.toks) (λb o f e=>M b o f e) r t B y A⟩
 self:=λ_ _ _ _ _ st h=>wpAny_pyIter_listiter st h
def ag3{P:al7}{w:World}{K:aN}{cf:Expr}(a it:Addr):Turn P w K cf (sD K a) [it] it (λi h=>h.IsTupleIter it a i) where
 mem:=by simp
 obj:=λi h st b f=>by
  have e:b=it:=by simpa using f
  subst e;obtain⟨o,e,c,d⟩:=st;exact⟨o,e,λv z=>by rw[d]at z;cases z⟩
 keep:=λi h h' st k=>st.at λo e=>k it (by simp) o e
 item:=by
  intro X q hw D G i zn s U H E J j st l;subst q hw D;obtain⟨xs,x,g,m⟩:=l;obtain⟨its,n,p,hz⟩:=J.tuple g;obtain⟨u,N,O⟩:=n.get m;obtain⟨r,t,Q,B,y,A⟩:=j it (by simp);refine wpAny_pyNext_tuple_item st (show s.heap.IsTuple a its.toArray from p) (x:=u) (by simpa using N) λh' F R=>?_
  have L:Inv X zn U H { s with heap:=h' }:=J.turned (t':=s.toks) (λb o f e=>(R.2 b f).trans e) r t B y A;obtain⟨o,e,c,d⟩:=id F;exact⟨u,rfl,vE (s:={ s with heap:=h' }) e c d (by decide) ⟨x,H,L,O,⟨rfl,λys I=>by rw[J.QO I g];exact m⟩,F,λb f=>(j b f).1⟩⟩
 done:=by
  intro X q hw D G i zn s U H E J j st l;subst q hw D;obtain⟨xs,g,m⟩:=l;obtain⟨its,n,p,hz⟩:=J.tuple g;obtain⟨r,t,Q,B,y,A⟩:=j it (by simp);have hl:=n.length;exact wpAny_pyNext_tuple_end (J.ok.hd G) st (show s.heap.IsTuple a its.toArray from p) (by simp;omega) λh' M=>⟨rfl,J.turned (t':=s.toks) (λb o f e=>M b o f e) r t B y A⟩
 self:=λ_ _ _ _ _ st h=>wpAny_pyIter_tupleiter st h
def ag2{P:al7}{w:World}{K:aN}{cf:Expr}(it:Addr)(lo:Int)(n:Nat):Turn P w K cf (m6 lo n) [it] it (λi h=>IsRangeIter h it (lo+(i:Nat)*1) ((n:Int)-(i:Nat)) 1) where
 mem:=by simp
 obj:=λi h st b a=>by
  have e:b=it:=by simpa using a
  subst e;exact⟨_,st,λv z=>by
   have F:Data.fields _=Data.cell v:=z;cases F⟩
 keep:=λi h h' st k=>k it (by simp) _ st
 item:=by
  intro X f hw r q i zn s U H E J c st d;subst f hw r;obtain⟨g,j,B,p,l,m⟩:=c it (by simp);have W:=Walks.range (prog:=X.prog) (w:=X.w) (J.ok.hd q) it lo 1 n;refine W.item i s _ _ d st λv h' tk x u D=>?_
  obtain⟨t,rfl⟩:=x;have y:Inv X zn U H { s with heap:=h',toks:=tk }:=J.turned (λb o a e=>D b o (by simpa using a) e) g j p l m;refine⟨_,rfl,vE (s:={ s with heap:=h',toks:=tk }) (n:="range_iterator") u rfl rfl (by decide) ⟨.int (lo+i),H,y,⟨t,?_⟩,⟨rfl,rfl⟩,u,λb a=>(c b a).1⟩⟩;rw[Int.mul_one]
 done:=by
  intro X f hw r q i zn s U H E J c st d;subst f hw r;obtain⟨g,j,B,p,l,m⟩:=c it (by simp);exact wpAny_pyNext_range_end (J.ok.hd q) st (by have:n<=i:=d;omega) λh' A=>⟨rfl,J.turned (t':=s.toks) (λb o a e=>A b o a e) g j p l m⟩
 self:=λ_ _ _ _ _ st h=>wpAny_pyIter_rangeiter st h
section
variable{X:aT}{cf:Expr}
def Zm(K:aN)(c:TE):TI:=λU H R=>c U H λx b=>∃a,x=.ref a/\(∃xs,dq K b a xs)/\R (pR K a) b
def Zo(K:aN)(c:TE):TI:=λU H R=>c U H λx b=>∃a,x=.ref a/\(∃xs,dx K b a xs)/\R (sD K a) b
def PH(hl:b1 X l C):j1 X cf l (Zm X.K C):=by
 intro zn s U H R J h;refine bW (hl zn s U H _ J h) λv d i=>?_
 obtain⟨x,f,c,k,bq⟩:=i;obtain⟨a,e,⟨xs,g⟩,q⟩:=bq;subst e;cases k;obtain⟨its,m,p,hz⟩:=c.list g;refine anT p.isList ?_;refine⟨d.heap.objs.size,[d.heap.objs.size],_,_,f,rfl,c.kept (t':=d.toks) λb o e=>alL _ e,ag1 a _,⟨_,alV _ rfl,rfl,rfl⟩,λb j=>?_,q⟩;have e:b=d.heap.objs.size:=by simpa using j
 subst e;exact c.ry (alQ _) (c.cb.fresh (alQ _))
def PI(hl:b1 X l C):j1 X cf l (Zo X.K C):=by
 intro zn s U H R J h;refine bW (hl zn s U H _ J h) λv c i=>?_
 obtain⟨x,f,d,k,bq⟩:=i;obtain⟨a,e,⟨xs,g⟩,q⟩:=bq;subst e;cases k;obtain⟨its,m,p,hz⟩:=d.tuple g;refine aod (show c.heap.IsTuple a its.toArray from p) ?_;refine⟨c.heap.objs.size,[c.heap.objs.size],_,_,f,rfl,d.kept (t':=c.toks) λb o e=>alL _ e,ag3 a _,⟨_,alV _ rfl,rfl,rfl⟩,λb j=>?_,q⟩;have e:b=c.heap.objs.size:=by simpa using j
 subst e;exact d.ry (alQ _) (d.cb.fresh (alQ _))
def P'{zn:cW}{U:St}{H:aw}{s:alO}{R:iv->aw->Prop}{E:de}{lo hi:Int}{t u v:Tok}{tk:Nat}(J:Inv X zn U H s)(d:-(2 ^ 62)<=lo)(f:lo<2 ^ 62)(g:-(2 ^ 62)<=hi)(h:hi<2 ^ 62)
  (q:R (m6 lo (hi-lo).toNat) H):wpAny (model X.prog X.w) X.A (pyIter (.ref s.heap.objs.size)) (Hp X zn U cf R) E { s with heap:=s.heap.push { cls:=.type "range",data:=.fields #[.int lo t,.int hi u,.int 1 v] },toks:=tk }:=by
 refine wpAny_pyIter_range (IsRange.new ..) (small_one d f g h) ?_;have a:Inv X zn U H { s with heap:=s.heap.push { cls:=.type "range",data:=.fields #[.int lo t,.int hi u,.int 1 v] },toks:=tk }:=J.kept λb o e=>alL _ e
 refine⟨(s.heap.push { cls:=.type "range",data:=.fields #[.int lo t,.int hi u,.int 1 v] }).objs.size,[(s.heap.push { cls:=.type "range",data:=.fields #[.int lo t,.int hi u,.int 1 v] }).objs.size],_,_,H,rfl,
  a.kept (t':=tk) λb o e=>alL _ e,ag2 _ lo (hi-lo).toNat,?_,λb c=>?_,q⟩
 .have av:lo+((0:Nat):Int)*1=lo:=by simp
  have aE:(((hi-lo).toNat:Nat):Int)-((0:Nat):Int)=Builtin.Range.rangeSize lo hi 1:=by rw[rangeSize_one];split<;>omega
  show IsRangeIter _ _ (lo+((0:Nat):Int)*1) ((((hi-lo).toNat:Nat):Int)-((0:Nat):Int)) 1;rw[av,aE];exact alV _ rfl
 .have e:b=(s.heap.push { cls:=.type "range",data:=.fields #[.int lo t,.int hi u,.int 1 v] }).objs.size:=by simpa using c
  subst e;exact a.ry (alQ _) (a.cb.fresh (alQ _))
def Ep(b:fQ):TI:=λU H R=>b U H λvs a=>∃j:Int,vs=[.int j]/\-(2 ^ 62)<=j/\j<2 ^ 62/\R (m6 0 j.toNat) a
def Zn(b:fQ):TI:=λU H R=>b U H λvs a=>∃i j:Int,vs=[.int i,.int j]/\(-(2 ^ 62)<=i/\i<2 ^ 62/\-(2 ^ 62)<=j/\j<2 ^ 62)/\R (m6 i (j-i).toNat) a
def FW(b:d_ X "range")(i:X.mg "range"=none)(c:gR X [a] o)(hs:alJ [a] X.env=[(false,eval a X.env)]:=by rfl):j1 X cf (.Call (.Name "range" p) [a] [] pos) (Ep o):=by
 intro zn s U H R J h;refine Call_ (nK J b i boot_range (am6 (bW (c pos zn s U H _ J h) λus l ⟨vs,k,f,d,bq⟩=>?_) hs rfl));obtain⟨j,e,bq,bO,q⟩:=bq;subst e
 cases d with
 |cons r g=>
  cases g;obtain⟨t,rfl⟩:=r;exact call_range_1 (P' f (by omega) (by omega) bq bO (by simpa using q))
def aey{p pos:Pos}(f:d_ X "range")(u:X.mg "range"=none)(g:gR X [a,b] o)(hs:alJ [a,b] X.env=[(false,eval a X.env),(false,eval b X.env)]:=by rfl)(d:alJ [b] X.env=[(false,eval b X.env)]:=by rfl) :
  j1 X cf (.Call (.Name "range" p) [a,b] [] pos) (Zn o):=by
 intro zn s U H R J h;refine Call_ (nK J f u boot_range (am6 (bW (g pos zn s U H _ J h) λus y ⟨vs,x,l,k,bq⟩=>?_) (by rw[hs,d]) (by rw[d];rfl)));obtain⟨i,j,e,⟨bq,bO,n,w⟩,q⟩:=bq;subst e
 cases k with
 |cons r c=>
  cases c with
  |cons m c=>
   cases c;obtain⟨t,rfl⟩:=r;obtain⟨t',rfl⟩:=m;exact call_range_2 (P' l bq bO n w q)
def xA(wi:TI)(g:iP)(cJ:gu):gu:=λD U H=>wi U H λa c=>∃W:Nat->Nat->St->aw->Prop,(∃m,W 0 m U c)/\∀i m U H,W i m U H->
 (a.stop i H/\D.bu U H)\/(a.go i H/\∃N:St->aw->Prop,(∀U' H',N U' H'->∃b,b<m/\W (i+1) b U' H')/\∀x H',a.pK i H x H'->g x U H' λe d=>cJ { D with bu:=N,cx:=N,bk:=D.bu } e d)
def sa(a:List Addr)(h:Heap):List (Addr×Obj):=a.filterMap λb=>(h.get? b).map λo=>(b,o)
def Aa{h:Heap}(a:b∈C)(e:h.get? b=some o):(b,o)∈sa C h:=List.mem_filterMap.mpr ⟨b,a,by rw[e];rfl⟩
def ac8{h:Heap}(a:p∈sa C h):p.1∈C/\h.get? p.1=some p.2:=by
 obtain⟨b,c,e⟩:=List.mem_filterMap.mp a
 cases q:h.get? b with
 |none=>rw[q]at e;cases e
 |some o=>
  rw[q]at e;have d:(b,o)=p:=amf e;subst d;exact⟨c,q⟩
def Inv.pinned{s:alO}(J:Inv X zn U H s)(k:∀b∈C,gQ X zn H b)(g:∀b∈C,∃o,s.heap.get? b=some o/\∀v,o.data≠.cell v):Inv X (zn++sa C s.heap) U H s:=
 J.PJ λp f=>(amy.mp f).elim (λz=>J.pin p (amD _ z)) λz=>by
  obtain⟨a,e⟩:=ac8 z;obtain⟨h,i,j,_⟩:=k p.1 a;obtain⟨o,c,d⟩:=g p.1 a;rw[e]at c;cases c;exact⟨e,h,i,j,d⟩
def Inv.xH{s:alO}(J:Inv X (zn++pl) U H s):Inv X zn U H s:=J.PJ λp a=>J.pin p (amD _ (List.mem_append_left _ a))
def PK{k:Expr}{body:List Stmt}{wi:TI}{g:iP}{cJ:gu}{pos:Pos}(y:apy (model X.prog X.w) X.A X.env X.dH)(Z:X.calm=true)(hi:j1 X cf k wi)(aQ:ob X cf g)(a:ix X body cJ)
  (hs:∀x,amM k X.env x=pure x:=by intro _;rfl):iw X (.For cf k body [] pos) (xA wi g cJ):=by
 intro zn s U H D J h;refine wpAny_For (bW (hi zn s U H _ J h) λv s1 ag=>bW ag λzy s2 ah=>?_) hs;obtain⟨it,z,eT,ct,aI,e,b2,T,bF,V,W,⟨m0,uP⟩,turn⟩:=ah;subst e;have O:∀{H':aw},(∀b∈z,H' b=none)->∀b∈z,gQ X zn H' b:=λaz b a=>⟨az b a,(V b a).2⟩
 refine codeAny_forLoop_any (λn R=>∃i U' H',Inv X zn U' H' R/\eT i R.heap/\(∀b∈z,H' b=none)/\W i n U' H') ?_ m0 ⟨0,U,aI,b2,bF,λb a=>(V b a).1,uP⟩;rintro n s3 ⟨i,B,F,S,Y,Q,sq⟩;rcases turn i n B F sq with⟨stop,kk⟩|⟨go,N,hN,step⟩
 .refine anP y (bW (T.done X rfl rfl rfl Z i zn s3 B F X.dH S (O Q) Y stop) λr s4 t=>?_)
  obtain⟨G,j0⟩:=t;subst G;exact ao7 ⟨B,F,j0,kk⟩
 .refine anP y (bW (T.item X rfl rfl rfl Z i zn s3 B F X.dH S (O Q) Y go) λr s4 t=>?_)
  obtain⟨u,G,cK⟩:=t;subst G;refine anP y (bW cK λ_ s5 t=>?_);obtain⟨x,C,sA,F7,Bs,P,y0⟩:=t;have RG:=sA.pinned (O y0) (T.obj _ _ P);refine anP y (bW (aQ _ s5 B C x u _ RG F7 (step x C Bs)) λ_ gq t=>?_);obtain⟨K,x4,u4,uq⟩:=t;refine anP y (bW (a _ gq K x4 _ u4 uq) λf M q=>?_);have c:∀{p:St}{j:aw},Inv X (zn++sa z s5.heap) p j M->N p j->∃m,m<n/\∃i U' H',Inv X zn U' H' M/\eT i M.heap/\(∀b∈z,H' b=none)/\W i m U' H':=λ{p j} l E=>by
   obtain⟨gp,hm,I⟩:=hN p j E;refine⟨gp,hm,i+1,p,j,l.xH,T.keep _ _ _ P λb a o e=>(l.pin (b,o) (amD _ (amD _ (Aa a e)))).1,λb a=>?_,I⟩;obtain⟨o,e,d⟩:=T.obj _ _ P b a;exact(l.pin (b,o) (amD _ (amD _ (Aa a e)))).2.1
  cases f with
  |next=>obtain⟨p,j,l,E⟩:=q;exact c l E
  |cont=>obtain⟨p,j,l,E⟩:=q;exact c l E
  |brk=>obtain⟨p,j,l,q⟩:=q;exact⟨p,j,l.xH,q⟩
  |ret v=>obtain⟨L,p,j,l,F8,q⟩:=q;exact⟨L,p,j,l.xH,F8,q⟩
end
abbrev fx:=V->V->aw->cE->Prop
def d0(X:aT)(f:Value->Value->Sem Value)(r:fx):Prop:=
 ∀(zn:cW)(s:alO)(U:St)(H:aw)(x y:V)(v u:Value)(Q:cE),Inv X zn U H s->RelV x v->RelV y u->r x y H Q->
  wpAny (model X.prog X.w) X.A (f v u) (g7 X zn U Q) X.dH s
def BW(X:aT)(f:Value->Sem Value)(r:V->aw->cE->Prop):Prop:=
 ∀(zn:cW)(s:alO)(U:St)(H:aw)(x:V)(v:Value)(Q:cE),Inv X zn U H s->RelV x v->r x H Q->
  wpAny (model X.prog X.w) X.A (f v) (g7 X zn U Q) X.dH s
def jY(X:aT)(f:Value)(r:List V->aw->cE->Prop):Prop:=
 ∀(zn:cW)(s:alO)(U:St)(H:aw)(xs:List V)(us:List Value)(Q:cE),Inv X zn U H s->Vals xs us->r xs H Q->
  wpAny (model X.prog X.w) X.A (call f us) (g7 X zn U Q) X.dH s
def xC(r:fx)(c cJ:TE):TE:=λU H Q=>c U H λx a=>cJ U a λy b=>r x y b Q
def agD(r:V->aw->cE->Prop)(b:TE):TE:=λU H Q=>b U H λx a=>r x a Q
def kl(C:Int->Int->Prop)(g:Int->Int->V):fx:=λx y H Q=>∃i j,x=.int i/\y=.int j/\C i j/\Q (g i j) H
def hW(g:Int->Int->V):fx:=λx y H Q=>∃i j,x=.int i/\y=.int j/\Q (g i j) H
def P_(g:Int->V):V->aw->cE->Prop:=λx H Q=>∃i,x=.int i/\Q (g i) H
section
variable{X:aT}{a b:Expr}{bV cJ:TE}{pos:Pos}
def CB(i:b1 X a bV)(g:b1 X b cJ){zn:cW}{s:alO}{U:St}{H:aw}{R:V->V->aw->Prop}(J:Inv X zn U H s)
  (h:bV U H λx d=>cJ U d λy c=>R x y c) {Q:de}{f:Value->Value->Sem Value}
  (p:∀v u s2 x y c,Inv X zn U c s2->RelV x v->RelV y u->R x y c->wpAny (model X.prog X.w) X.A (f v u) Q X.dH s2) :
  wpAny (model X.prog X.w) X.A (eval a X.env) (λv n=>wpAny (model X.prog X.w) X.A (eval b X.env) (λu q=>wpAny (model X.prog X.w) X.A (f v u) Q X.dH q) X.dH n) X.dH s:=by
 refine bW (i zn s U H _ J h) λv r e=>?_
 obtain⟨x,d,l,k,bq⟩:=e;refine bW (g zn r U d _ l bq) λu s2 e=>?_
 obtain⟨y,c,j,m,bO⟩:=e;exact p v u s2 x y c j k m bO
def aem{op:Operator}{r:fx}(e:d0 X (anI op) r)(g:b1 X a bV)(f:b1 X b cJ):b1 X (.BinOp a op b pos) (xC r bV cJ):=by
 intro zn s U H Q J h;exact wpAny_BinOp (CB g f J h λv u s2 x y d i c j q=>e zn s2 U d x y v u Q i c j q)
def aeq{op:UnaryOp}{r:V->aw->cE->Prop}(d:BW X (unaryOp op) r)(e:b1 X a bV):b1 X (.UnaryOp op a pos) (agD r bV):=by
 intro zn s U H Q J h;exact UnaryOp_ (bW (e zn s U H _ J h) λv i ⟨x,c,g,f,bq⟩=>d zn i U c x v Q g f bq)
def uf{f:Value->Value->Sem Value}{C:Int->Int->Prop}{g:Int->Int->Int}
  (c:∀(i j:Int)(t u:Tok)(s:alO)(Q:de)(E:de),C i j->Q (.int (g i j) s.toks) { s with toks:=s.toks+1 }->wpAny (model X.prog X.w) X.A (f (.int i t) (.int j u)) Q E s) :
  d0 X f (kl C λi j=>.int (g i j)):=by
 intro zn s U H x y v u Q J d e h;obtain⟨i,j,rfl,rfl,k,q⟩:=h;obtain⟨t,rfl⟩:=d;obtain⟨t',rfl⟩:=e;exact c i j t t' s _ _ k ⟨.int (g i j),H,J.tok _,⟨_,rfl⟩,q⟩
def Au{f:Value->Value->Sem Value}{g:Int->Int->Int}
  (c:∀(i j:Int)(t u:Tok)(s:alO)(Q:de)(E:de),Q (.int (g i j) s.toks) { s with toks:=s.toks+1 }->wpAny (model X.prog X.w) X.A (f (.int i t) (.int j u)) Q E s) :
  d0 X f (hW λi j=>.int (g i j)):=by
 intro zn s U H x y v u Q J d e h;obtain⟨i,j,rfl,rfl,q⟩:=h;obtain⟨t,rfl⟩:=d;obtain⟨t',rfl⟩:=e;exact c i j t t' s _ _ ⟨.int (g i j),H,J.tok _,⟨_,rfl⟩,q⟩
def As{f:Value->Value->Sem Value}{g:Int->Int->Bool}
  (c:∀(i j:Int)(t u:Tok)(s:alO)(Q:de)(E:de),Q (.bool (g i j)) s->wpAny (model X.prog X.w) X.A (f (.int i t) (.int j u)) Q E s) :
  d0 X f (hW λi j=>.ax (g i j)):=by
 intro zn s U H x y v u Q J d e h;obtain⟨i,j,rfl,rfl,q⟩:=h;obtain⟨t,rfl⟩:=d;obtain⟨t',rfl⟩:=e;exact c i j t t' s _ _ ⟨.ax (g i j),H,J,rfl,q⟩
def xY(i j:Int):Prop:=0<=j/\j<=1000000/\i.natAbs<2 ^ 64
def xX(i j:Int):Prop:=(-(2 ^ 64)<i/\i<2 ^ 64)\/(-(2 ^ 64)<j/\j<2 ^ 64)
def xX.ok{i j:Int}(h:xX i j):IntMulOk i j:=by
 rcases h with⟨o,C⟩|⟨o,C⟩
 .exact .of_left (intBits_le_64 o C)
 .exact .of_right (intBits_le_64 o C)
def ag5(k:Nat):(0:Int)<=2 ^ k:=by
 rw[two_pow_cast];exact Int.natCast_nonneg _
def ade:d0 X (anI .Add) (hW λi j=>.int (i+j)):=Au λ_ _ _ _ _ _ _ q=>add_int q
def adt:d0 X (anI .Sub) (hW λi j=>.int (i-j)):=Au λ_ _ _ _ _ _ _ q=>sub_int q
def adm:d0 X (anI .Mod) (kl (λ_ j=>0<j) λi j=>.int (i % j)):=uf λi j _ _ _ _ _ c q=>by
 have d:(0:Int)<j:=c;exact mod_int' (by omega) (by rw[Int.fmod_eq_emod_of_nonneg i (by omega)];exact q)
def adp:d0 X (anI .Pow) (kl xY λi j=>.int (i ^ j.toNat)):=uf λ_ _ _ _ _ _ _ c q=>pow_int_small c.1 c.2.1 c.2.2 q
def adq:d0 X (anI .LShift) (kl xY λi j=>.int (i*2 ^ j.toNat)):=uf λ_ _ _ _ _ _ _ c q=>lshift_int_small c.1 c.2.1 c.2.2 q
def ads:d0 X (anI .RShift) (kl (λ_ j=>0<=j) λi j=>.int (i / 2 ^ j.toNat)):=uf λi j _ _ _ _ _ c q=>
 rshift_int c (by rw[apF i (ag5 _)];exact q)
def adg:d0 X (anI .BitAnd) (hW λi j=>.int (anu i j)):=Au λ_ _ _ _ _ _ _ q=>and_int q
def ado:d0 X (anI .BitOr) (hW λi j=>.int (aoV i j)):=Au λ_ _ _ _ _ _ _ q=>or_int q
def ag9{f:Value->Sem Value}{g:Int->Int}
  (c:∀(i:Int)(t:Tok)(s:alO)(Q:de)(E:de),Q (.int (g i) s.toks) { s with toks:=s.toks+1 }->wpAny (model X.prog X.w) X.A (f (.int i t)) Q E s) :
  BW X f (P_ λi=>.int (g i)):=by
 intro zn s U H x v Q J d h;obtain⟨i,rfl,q⟩:=h;obtain⟨t,rfl⟩:=d;exact c i t s _ _ ⟨.int (g i),H,J.tok _,⟨_,rfl⟩,q⟩
def ahb:BW X (unaryOp .USub) (P_ λi=>.int (-i)):=ag9 λ_ _ _ _ _ q=>neg_int q
end
section
variable{X:aT}{a b c:Expr}{bV cJ n1:TE}{pos:Pos}
def Dq{s:alO}{Q:cE}(J:Inv X zn U H s)(q:Q (.ax k) H)(e:k=o):g7 X zn U Q (.bool o) s:=by
 subst e;exact⟨.ax k,H,J,rfl,q⟩
def FN:d0 X (amx .Lt) (hW λi j=>.ax (decide (i<j))):=As λ_ _ _ _ _ _ _ q=>lt_int q
def r8:d0 X (amx .LtE) (hW λi j=>.ax (decide (i<=j))):=As λ_ _ _ _ _ _ _ q=>le_int q
def adj:d0 X (amx .Gt) (hW λi j=>.ax (decide (j<i))):=As λ_ _ _ _ _ _ _ q=>gt_int q
def Pk:d0 X (amx .GtE) (hW λi j=>.ax (decide (j<=i))):=As λ_ _ _ _ _ _ _ q=>ge_int q
def Pm:d0 X (amx .In) (λx y H Q=>∃i j,x=.str i/\y=.str j/\Q (.ax (!(an8 j i 0 j.length 1).isEmpty)) H):=by
 intro zn s U H x y v u Q J d e h;obtain⟨i,j,rfl,rfl,q⟩:=h;obtain⟨t,rfl⟩:=d;obtain⟨t',rfl⟩:=e;exact in_str (Dq J q rfl)
def Pn:d0 X (amx .Is) (λx y H Q=>y=.aH/\Q (.ax (decide (x=.aH))) H):=by
 intro zn s U H x y v u Q J d e h;obtain⟨rfl,q⟩:=h;cases e;refine is_none_gen (Dq J q ?_);cases x<;>first
  |(cases d;rfl)
  |(obtain⟨t,rfl⟩:=d;rfl)
def Po:d0 X (amx .IsNot) (λx y H Q=>y=.aH/\Q (.ax (!decide (x=.aH))) H):=by
 intro zn s U H x y v u Q J d e h;obtain⟨rfl,q⟩:=h;cases e;refine isnot_none_gen (Dq J q ?_);cases x<;>first
  |(cases d;rfl)
  |(obtain⟨t,rfl⟩:=d;rfl)
def iE(b:Expr){op:CmpOp}(h:op≠.In:=by decide)(d:op≠.NotIn:=by decide):anE op b=false:=by
 have av:(op==CmpOp.In)=false:=by cases op<;>first|rfl|exact absurd rfl h
 have aE:(op==CmpOp.NotIn)=false:=by cases op<;>first|rfl|exact absurd rfl d
 cases b<;>simp[anE,av,aE]
def aea{op:CmpOp}{r:fx}(f:d0 X (amx op) r)(i:b1 X a bV)(g:b1 X b cJ)(l:anE op b=false):b1 X (.Compare a [op] [b] pos) (xC r bV cJ):=by
 intro zn s U H Q J h;exact wpAny_Compare1 (CB i g J h λv u s2 x y e j d k q=>f zn s2 U e x y v u Q j d k q) l
def xD(t:TE):TT:=λU H Q=>t U H λx H'=>∃k,x=.ax k/\Q k H'
theorem aeR{op:CmpOp}{r:fx}(g:d0 X (amx op) r)(j:b1 X a bV)(i:b1 X b cJ)(B:anE op b=false):iy X (.Compare a [op] [b] pos) (xD (xC r bV cJ)):=by
 intro zn s U H Q J h;refine wpAny_isTrue_Compare1 (bW (j zn s U H _ J h) λv D ⟨x,d,n,m,bq⟩=>bW (i zn D U d _ n bq) λu s2 ⟨y,f,l,q,bO⟩=>
  bW (g zn s2 U f x y v u _ l m q bO) λc s3 ⟨z,p,w,A,k,e,t⟩=>?_) B
 subst e;cases A;exact amY ⟨p,w,t⟩
def GC(r g:fx)(bV cJ n1:TE):TE:=λU H Q=>bV U H λx e=>cJ U e λy f=>r x y f λz d=>∃k,z=.ax k/\
 (if k=true then n1 U d λh i=>g y h i Q else Q (.ax false) d)
def ad9{op f:CmpOp}{r g:fx}(q:d0 X (amx op) r)(F:d0 X (amx f) g)(w:b1 X a bV)(t:b1 X b cJ)(K:b1 X c n1)
  (L:lastMarks [op,f] [b,c]=false:=by with_unfolding_all rfl):b1 X (.Compare a [op,f] [b,c] pos) (GC r g bV cJ n1):=by
 intro zn s U H Q J h;refine Compare_chain (bW (w zn s U H _ J h) λv P ⟨x,n,D,B,bq⟩=>chain_link (bW (t zn P U n _ D bq) λu s2 ⟨y,p,A,j,bO⟩=>
  bW (q zn s2 U p x y v u _ A B j bO) λd s3 ⟨z,i,m,I,k,e,l⟩=>?_)) L
 subst e;cases I;refine amY ?_
 cases k with
 |false=>exact ite_ff ⟨.ax false,i,m,rfl,l⟩|true=>exact ite_tt (chain_last (bW (K zn s3 U i _ m l) λE R ⟨O,G,M,S,N⟩=>F zn R U G y O u E Q M j S N))
def aeQ{op f:CmpOp}{r g:fx}(A:d0 X (amx op) r)(L:d0 X (amx f) g)(D:b1 X a bV)(B:b1 X b cJ)(O:b1 X c n1)
  (P:lastMarks [op,f] [b,c]=false:=by with_unfolding_all rfl):iy X (.Compare a [op,f] [b,c] pos) (xD (GC r g bV cJ n1)):=by
 intro zn s U H Q J h;refine isTrue_chain (bW (D zn s U H _ J h) λv Y ⟨x,q,I,F,bq⟩=>test_link (bW (B zn Y U q _ I bq) λu s2 ⟨y,t,E,j,bO⟩=>
  bW (A zn s2 U t x y v u _ E F j bO) λd s3 ⟨z,i,m,N,k,e,l⟩=>?_)) P
 subst e;cases N;refine amY ?_
 cases k with
 |false=>
  obtain⟨jc,G,R⟩:=l;cases G;exact ite_ff ⟨i,m,R⟩
 |true=>
  refine ite_tt (test_last (bW (O zn s3 U i _ m l) λK Z ⟨W,M,T,C,V⟩=>bW (L zn Z U M y W u K _ T j C V) λd' s5 w=>?_));obtain⟨eC,S,o,p,d7,aE,n⟩:=w;subst aE;cases p;exact amY ⟨S,o,n⟩
def tC:(alP:Nat)<2 ^ 63:=by rw[ama];decide
def adf:d0 X (anI .Add) (λx y H Q=>∃i j,x=.str i/\y=.str j/\i.length+j.length<=alP/\Q (.str (i++j)) H):=by
 intro zn s U H x y v u Q J d e h;obtain⟨i,j,rfl,rfl,hz,q⟩:=h;obtain⟨t,rfl⟩:=d;obtain⟨t',rfl⟩:=e;exact add_str (λt' tk=>⟨.str (i++j),H,J.tok _,⟨_,rfl⟩,q⟩) hz
def vals1(r:Vals [x] us):∃u,us=[u]/\RelV x u:=by
 cases r with
 |cons d e=>cases e;exact⟨_,rfl,d⟩
def vals2(r:Vals [x,y] us):∃u d,us=[u,d]/\RelV x u/\RelV y d:=by
 cases r with
 |cons e f=>
  cases f with
  |cons g h=>cases h;exact⟨_,_,rfl,e,g⟩
def T':jY X (.builtin "abs") (λxs H Q=>∃i,xs=[.int i]/\Q (.int (if i<0 then -i else i)) H):=by
 intro zn s U H xs us Q J r h;obtain⟨i,rfl,q⟩:=h;obtain⟨u,rfl,t,rfl⟩:=vals1 r;exact call_abs_int λu tk=>⟨.int (if i<0 then -i else i),H,J.tok _,⟨_,rfl⟩,q⟩
def Uh(e:X.calm=true):jY X (.builtin "max") (λxs H Q=>∃i j,xs=[.int i,.int j]/\Q (.int (if j > i then j else i)) H):=by
 intro zn s U H xs us Q J r h;obtain⟨i,j,rfl,q⟩:=h;obtain⟨u,f,rfl,⟨t,rfl⟩,⟨t',rfl⟩⟩:=vals2 r;refine max_two_ints (J.ok.hd e) λh' tk k=>⟨_,H,J.kept k,?_,q⟩
 by_cases d:j > i
 .rw[if_pos d,if_pos d];exact⟨_,rfl⟩
 .rw[if_neg d,if_neg d];exact⟨_,rfl⟩
def Ui(e:X.calm=true):jY X (.builtin "min") (λxs H Q=>∃i j,xs=[.int i,.int j]/\Q (.int (if j<i then j else i)) H):=by
 intro zn s U H xs us Q J r h;obtain⟨i,j,rfl,q⟩:=h;obtain⟨u,f,rfl,⟨t,rfl⟩,⟨t',rfl⟩⟩:=vals2 r;refine min_two_ints (J.ok.hd e) λh' tk k=>⟨_,H,J.kept k,?_,q⟩
 by_cases d:j<i
 .rw[if_pos d,if_pos d];exact⟨_,rfl⟩
 .rw[if_neg d,if_neg d];exact⟨_,rfl⟩
end
structure q0(h:Heap)(x b' C:Addr)(ee:bo):Prop where
 obj:h.get? x=some (aoC C b')
 ns:h.Ns1 b' ee
 ne:b'≠x
def aaK{h:Heap}{d:bo}(n:h.Ns1 C d):∃c,h.get? C=some c/\∀name,W.lookIn name c=some (d name):=by
 obtain⟨o,b,cm,i,hd,j,_,k⟩:=n;refine⟨o,i,λname=>?_⟩;have e:=k name;unfold nsFind apz at e;rw[<-Array.find?_toList]at e;unfold W.lookIn;rw[hd];dsimp only;split
 .rename_i y q
  rw[q]at e;exact congrArg some e
 .rename_i q
  rw[q]at e;have a:b.toList.any (·.refKey)=false:=by
   rw[List.any_eq_false];intro y g;obtain⟨z,t,l⟩:=j y (Array.mem_toList_iff.mp g);simp[DictEntry.refKey,l]
  have f:¬b.toList.any (·.refKey)=true:=by rw[a];exact alR
  rw[if_neg f];exact congrArg some e
def q0.look{b:bo}(J:q0 h x U C b):∃a,W.InstAt h x (aoC C U) C (some a)/\∀name,W.lookIn name a=some (b name):=
 let⟨a,o,hl⟩:=aaK J.ns
 ⟨a,⟨J.obj,rfl,rfl,o⟩,hl⟩
section
variable{prog:al7}{w:World}{A:ami}{E:de}{s:alO}{K:aN}{x b' C f:Addr}{ee:bo}{name:Str}{v:Value}
def get_map{a:Bool}{Q:de}(X:K.In s.heap)(J:q0 s.heap x b' C ee)(b:apS K C name=true)(cD:aqe K C=true)
  (c:anQ K (.ref C) name=some none) (d:ee name=some v) (g:W.handedIn v=true) (h:Q v { s with toks:=s.toks+1 }) :
  wpAny (model prog w) A (getAttr (.ref x) name a) Q E s:=by
 obtain⟨i,e,hl⟩:=J.look;exact W.get_value X e (W.plainGet_of b).1 (W.findObj_own cD c rfl (by rw[hl,d])) g h
def VX{pl:Sem Bool}{Q:Value×List Value->alO->Prop}(X:K.In s.heap)(J:q0 s.heap x b' C ee)(a:apS K C name=true)
  (g:anQ K (.ref C) name=some (some (.ref f))) (b:W.isFn K (.ref f)=true) (c:ee name=none) (h:Q (.ref f,[.ref x]) s) :
  wpAny (model prog w) A (anL (.ref x) name pl) Q E s:=by
 obtain⟨e,d,hl⟩:=J.look;exact W.method_fn X d (W.plainGet_of a).1 (W.plainGet_of a).2 g (beq_iff_eq.mp b) (by show(W.lookIn name e).map (·.isSome)=some false;rw[hl,c];rfl) h
def afI{ns:List Str}{Q:Unit->alO->Prop}(X:K.In s.heap)(J:q0 s.heap x b' C ee)
  (hs:anQ K (.ref C) "__setattr__"=some (some (.builtin "object.__setattr__"))) (l:W.plainOver K C=true) (t:W.takerIn K C name=some none) (cD:aqe K C=true)
  (hw:Within ee ns) (B:ns.length<=alP)
  (h:∀h',q0 h' x b' C (λy=>if y=name then some v else ee y)->apZ b' s.heap h'->Q () { s with heap:=h',toks:=s.toks+2 }) :
  wpAny (model prog w) A (setAttr (.ref x) name v) Q E s:=by
 obtain⟨z,c,hl⟩:=J.look;refine W.set_plain X c hs (W.osa_open (s:={ s with toks:=s.toks+1 }) (r:=none) X c l t λb=>?_);obtain⟨cd,u,g⟩:=W.any_some cD;have m:s.heap.get? x=some ⟨.ref C,some b',.plain,#[]⟩:=J.obj;refine alI (alT (alI (alI (wpAny_loadPart m (alI (W.Looks.here (s:={ s with toks:=s.toks+1 }) (W.looks_clsIn X u) ?_))))));rw[g];refine alT (a:=some b') (alI (alT (alI ?_)));refine wpAny_nsSet1 (s:={ s with toks:=s.toks+1 }) J.ns λh' e d=>?_
 obtain⟨q,p,n,i,k,j⟩:=e.count (Within.cons name v hw);refine alI (wpAny_lookBehind i (by rw[k];exact pastItsLine_dict (amq j (by rw[amk];omega))) ?_);exact alT (h _ ⟨(d.2 _ (anH J.ne)).trans J.obj,e,J.ne⟩ d)
def aa3{R:Result->alO->Prop}{vs:List Value}{a:List (Str×Value)}(X:K.In s.heap)(c:W.makesIn K C=true)
  (hi:anQ K (.ref C) "__init__"=some (some (.ref f))) (b:W.typeIn K (.ref f)=some (.type "function"))
  (h:aow (model prog w) (A.under (.builtin "type.__call__" ⟨.ref C::vs,a⟩)) (.call (.ref f) ⟨.ref (s.heap.objs.size+1)::vs,a⟩) (W.InitBack (s.heap.objs.size+1) R)
   { s with heap:=(s.heap.push anV).push (aoC C s.heap.objs.size) }) :
  aow (model prog w) A (.call (.ref C) ⟨vs,a⟩) R s:=by
 obtain⟨cD,g,d,t,os⟩:=s;exact W.make_core (W.makes_of X c) (W.looks_findIn X hi) (λself=>W.bind_fn X self b) (.inl rfl) h
end
def ik(f:Str)(v:V):List (Str×V)->List (Str×V)
 |[]=>[(f,v)]
 |(g,x)::r=>if g=f then(g,v)::r else(g,x)::ik f v r
theorem OA(f g:Str)(v:V):∀aS:List (Str×V),(ik f v aS).lookup g=if g=f then some v else aS.lookup g
 |[]=>by
  show ans g [(f,v)]=_
  by_cases h:g=f
  .have a:(g==f)=true:=beq_iff_eq.mpr h
   simp only[ans,a,if_pos h]
  .have a:(g==f)=false:=beq_eq_false_iff_ne.mpr h
   simp only[ans,a,if_neg h]
 |(k,x)::r=>by
  have c:=OA f g v r;rw[show ik f v ((k,x)::r)=(if k=f then(k,v)::r else(k,x)::ik f v r)from rfl]
  by_cases b:k=f
  .rw[if_pos b]
   by_cases h:g=k
   .have a:(g==k)=true:=beq_iff_eq.mpr h
    simp only[ans,a,if_pos (h.trans b)]
   .have a:(g==k)=false:=beq_eq_false_iff_ne.mpr h
    simp only[ans,a,if_neg (λe:g=f=>h (e.trans b.symm))]
  .rw[if_neg b]
   by_cases h:g=k
   .have a:(g==k)=true:=beq_iff_eq.mpr h
    simp only[ans,a,if_neg (λe:g=f=>b (h.symm.trans e))]
   .have a:(g==k)=false:=beq_eq_false_iff_ne.mpr h
    simp only[ans,a];exact c
theorem EK(f:Str)(v:V):∀aS:List (Str×V),f∈(ik f v aS).map (·.1)/\∀g,g∈aS.map (·.1)->g∈(ik f v aS).map (·.1)
 |[]=>⟨by simp[ik],λg h=>by simp at h⟩
 |(k,x)::r=>by
  obtain⟨b,c⟩:=EK f v r;rw[show ik f v ((k,x)::r)=(if k=f then(k,v)::r else(k,x)::ik f v r)from rfl]
  by_cases a:k=f
  .rw[if_pos a]
   subst a;exact⟨by simp,λg h=>by simpa using h⟩
  .rw[if_neg a]
   refine⟨?_,λg h=>?_⟩
   .rw[alZ]
    exact alW _ b
   .rw[alZ]at h ⊢
    rcases alY.mp h with e|e
    .exact alY.mpr (.inl e)
    .exact alW _ (c g e)
theorem Ot(f:Str)(v:V):∀aS:List (Str×V),(ik f v aS).length<=aS.length+1
 |[]=>by simp[ik]|(k,x)::r=>by
  have b:=Ot f v r;rw[show ik f v ((k,x)::r)=(if k=f then(k,v)::r else(k,x)::ik f v r)from rfl]
  by_cases a:k=f
  .rw[if_pos a,amk,amk];omega
  .rw[if_neg a,amk,amk];omega
def m_.some_of{v:V}(r:m_ (some v) o):∃u,o=some u/\RelV v u:=by
 cases o with
 |none=>exact(show False from r).elim|some u=>exact⟨u,rfl,r⟩
def m_.none_of(r:m_ none o):o=none:=by
 cases o with
 |none=>rfl|some u=>exact(show False from r).elim
def Wu{v:V}(r:RelV v u):W.handedIn u=true:=by
 cases v with
 |aH=>cases(show u=aob from r);rfl
 |ax b=>cases(show u=apQ b from r);rfl
 |int i=>obtain⟨t,e⟩:=(show ∃t,u=aqt i t from r);cases e;rfl
 |str x=>obtain⟨t,e⟩:=(show ∃t,u=aqu x t from r);cases e;rfl
 |yx b=>obtain⟨t,e⟩:=(show ∃t,u=Value.bytes b t from r);cases e;rfl
 |yX b=>obtain⟨t,e⟩:=(show ∃t,u=Value.float b t from r);cases e;rfl
 |ref a=>cases(show u=amI a from r);rfl
 |ty n=>cases(show u=aql n from r);rfl
section
variable{P:al7}{w:World}{H:aw}{h:Heap}{a C b':Addr}{aS:List (Str×V)}
def Eu(cb:gb P w H h)(e:H a=some (.ins C b' aS)):∃b,q0 h a b' C b/\(∀f,m_ (aS.lookup f) (b f))/\Within b (aS.map (·.1))/\aS.length<=1000/\H b'=some (.own a):=by
 obtain⟨d,z,ne,a8,b,n,r,q⟩:=(show iO P w H h a (.ins C b' aS)from cb a _ e);exact⟨b,⟨a8,n,ne⟩,r,q,z,d⟩
end
structure i4(K:aN)(C:Addr):Prop where
 kX:apS K C Str.empty=true
 hd:aqe K C=true
 po:W.plainOver K C=true
 mR:anQ K (.ref C) "__setattr__"=some (some (.builtin "object.__setattr__"))
def i4.get{K:aN}{C:Addr}(c:i4 K C)(f:Str):apS K C f=true:=c.kX
def qY(K:aN)(C:Addr)(f:Str):Prop:=anQ K (.ref C) f=some none
def qY.agO{K:aN}{C:Addr}{f:Str}(n:qY K C f):W.takerIn K C f=some none:=by
 unfold W.takerIn;rw[show anQ K (.ref C) f=some none from n];rfl
structure Meth(K:aN)(C:Addr)(m:Str)(f:Addr):Prop where
 at_:anQ K (.ref C) m=some (some (.ref f))
 fn:W.isFn K (.ref f)=true
 kp:anJ K (.ref f)=true
section
variable{X:aT}{zn:cW}{U:St}{H:aw}{s:alO}{a C b':Addr}{aS:List (Str×V)}{f:Str}{v:V}{A:ami}{E:de}
def VY{b:Bool}{Q:de}(J:Inv X zn U H s)(e:H a=some (.ins C b' aS))(c:i4 X.K C)(n:qY X.K C f)(l:aS.lookup f=some v)
  (h:∀u d,Inv X zn U H d->RelV v u->Q u d):wpAny (model X.prog X.w) A (getAttr (.ref a) f b) Q E s:=by
 obtain⟨j,O,r,_,_,_⟩:=Eu J.cb e;obtain⟨u,i,g⟩:=m_.some_of (v:=v) (o:=j f) (by rw[<-l];exact r f);exact get_map J.f3 O (c.get f) c.hd n i (Wu g) (h u _ (J.tok _) g)
def DF{m:Str}{g:Addr}{pl:Sem Bool}{Q:Value×List Value->alO->Prop}(J:Inv X zn U H s)(e:H a=some (.ins C b' aS))(c:i4 X.K C)(k:Meth X.K C m g)(l:aS.lookup m=none)
  (h:Q (.ref g,[.ref a]) s):wpAny (model X.prog X.w) A (anL (.ref a) m pl) Q E s:=by
 obtain⟨d,O,r,_,_,_⟩:=Eu J.cb e;have b:d m=none:=m_.none_of (by rw[<-l];exact r m);exact VX J.f3 O (c.get m) k.at_ k.fn b h
def afK{y:V}{u:Value}{Q:Unit->alO->Prop}(J:Inv X zn U H s)(e:H a=some (.ins C b' aS))(c:i4 X.K C)(n:qY X.K C f)(hl:aS.length<1000)(p:RelV y u)
  (h:∀i,Inv X zn U (upd H a (.ins C b' (ik f y aS))) i->Q () i):wpAny (model X.prog X.w) A (setAttr (.ref a) f u) Q E s:=by
 obtain⟨k,O,r,wi,_,j⟩:=Eu J.cb e;have hz:(aS.map (·.1)).length<=alP:=by rw[alM,ama];omega
 refine afI J.f3 O c.mR c.po n.agO c.hd wi hz λh' d t=>h _ ?_
 have hd:∃o,h'.get? b'=some o:=let⟨o,_,_,bH,_⟩:=d.ns;⟨o,bH⟩
 refine J.write (x:=a) (e:=b') (by rw[e];exact ao9) (.inr j) (λb q m z=>(t.2 b m).trans z) hd ?_;refine⟨by rw[c1 O.ne];exact j,?_,O.ne,d.obj,_,d.ns,λg=>?_,λg l=>?_⟩
 .have:=Ot f y aS;omega
 .show m_ ((ik f y aS).lookup g) (if g=f then some u else k g)
  rw[OA]
  by_cases q:g=f
  .rw[if_pos q,if_pos q];exact p
  .rw[if_neg q,if_neg q];exact r g
 .by_cases q:g=f
  .rw[q];exact(EK f y aS).1
  .refine(EK f y aS).2 g (wi g λz=>l ?_)
   show(if g=f then some u else k g)=none;rw[if_neg q];exact z
theorem Inv.made(J:Inv X zn U H s):Inv X zn U (upd (upd H s.heap.objs.size (.own (s.heap.objs.size+1))) (s.heap.objs.size+1) (.ins C s.heap.objs.size []))
  { s with heap:=(s.heap.push anV).push (aoC C s.heap.objs.size) }:=by
 have av:(s.heap.push anV).get? s.heap.objs.size=some anV:=alV s.heap rfl;have aE:((s.heap.push anV).push (aoC C s.heap.objs.size)).get? (s.heap.objs.size+1)=some (aoC C s.heap.objs.size):=by
  have:=alV (s.heap.push anV) (o:=aoC C s.heap.objs.size) rfl
  rwa[aon]at this
 have cX:(s.heap.push anV).Ns s.heap.objs.size (λ_=>none):=⟨anV,#[],_,av,rfl,(λe he=>absurd he (by simp)),λ_=>rfl⟩;have d:=J.laid (a:=s.heap.objs.size) (o:=.own (s.heap.objs.size+1)) (h':=s.heap.push anV) (t':=s.toks) (λb u q=>alL _ q) (alQ _) ⟨_,av⟩;refine d.laid (a:=s.heap.objs.size+1) (o:=.ins C s.heap.objs.size []) (t':=s.toks) (λb u q=>alL _ q) (aoE (aon _ _)) ?_;have ne:s.heap.objs.size≠s.heap.objs.size+1:=amo (aoX _);refine⟨by rw[c1 ne,dZ],amt _,ne,aE,λ_=>none,(Heap.Ns1.of_empty cX).at λo q=>alL _ q,λ_=>ao9,λy c=>absurd rfl c⟩
def Si{prog:al7}{w:World}{env:Env}{e:Expr}{f:Str}{pos:Pos}{s:alO}{Q:de}(b:ani e f env (eval e env)=eval e env)
  (h:wpAny (model prog w) A (eval e env) (λo c=>wpAny (model prog w) A (getAttr o f true) Q E c) E s):wpAny (model prog w) A (eval (.Attribute e f pos) env) Q E s:=
 Attribute_any_ h (by rw[arm_eval_Attribute,b])
end
def agm(K:aN)(d:TE)(f:Str):TE:=λU H Q=>d U H λx b=>∃a C c aS v,x=.ref a/\b a=some (.ins C c aS)/\i4 K C/\qY K C f/\aS.lookup f=some v/\Q v b
def afC(K:aN)(g d:TE)(f:Str):gu:=λD U H=>d U H λy e=>g U e λx b=>∃a C c aS,x=.ref a/\b a=some (.ins C c aS)/\i4 K C/\qY K C f/\aS.length<1000/\
 D.bu U (upd b a (.ins C c (ik f y aS)))
section
variable{X:aT}{o e value:Expr}{f:Str}{pos pos':Pos}{bV A6:TE}
def aeb(he:b1 X e bV)(i:ani e f X.env (eval e X.env)=eval e X.env):b1 X (.Attribute e f pos) (agm X.K bV f):=by
 intro zn s U H Q J h;refine Si i (bW (he zn s U H _ J h) λu t g=>?_);obtain⟨x,b,k,d,a,C,r,aS,v,ex,m,c,n,l,q⟩:=g;subst ex;obtain rfl:u=amI a:=d;exact VY k m c n l λu' s2 j p=>⟨v,b,j,p,q⟩
def aeM(g:b1 X o bV)(j:b1 X value A6)(hs:anm value (some (.Attribute o f pos')) pos.line X.env=pure false):iw X (.Assign [.Attribute o f pos'] value pos) (afC X.K bV A6 f):=by
 intro zn s U H D J h;refine plainObj_wpAny_Assign_Attribute (bW (j zn s U H _ J h) λu t ⟨y,b,m,k,q⟩=>bW (g zn t U b _ m q) λbK s2 ⟨x,w,i,d,a,C,z,aS,ex,p,c,n,l,bO⟩=>?_) hs;subst ex;obtain rfl:bK=amI a:=d;exact afK i p c n l k λs3 r=>⟨U,_,r,bO⟩
def ala{pl:Sem Bool}{m:Str}{b:Pos}{args:List Expr}{zn:cW}{s:alO}{U:St}{H:aw}{Q:de}{te:TE}(he:b1 X e te)(J:Inv X zn U H s)
  (h:te U H λx i=>∃a C j aS g,x=.ref a/\i a=some (.ins C j aS)/\i4 X.K C/\Meth X.K C m g/\aS.lookup m=none/\
   ∀d,Inv X zn U i d->wpAny (model X.prog X.w) X.A (aog pos (.ref g) [.ref a] (amg pos (alJ args X.env)) (ant pos (amU [] X.env))) Q X.dH d)
  (r:eval (.Call (.Attribute e m b) args [] pos) X.env=(do
   let bK <-eval e X.env
   anY b.atName
   let(f,first) <-ang [bK] (anL bK m pl)
   aog pos f first (amg pos (alJ args X.env)) (ant pos (amU [] X.env)))) :
  wpAny (model X.prog X.w) X.A (eval (.Call (.Attribute e m b) args [] pos) X.env) Q X.dH s:=by
 refine ap9 (pl:=pl) (bW (he zn s U H _ J h) λu d ⟨x,i,n,p,a,C,j,aS,g,ex,t,c,k,l,q⟩=>?_) r;subst ex;obtain rfl:u=amI a:=p;exact DF n t c k l (q d n)
end
structure cB(k:Nat)(A:ami):Prop where
 hd:A.handled=none
 vr:A.depth+3*k+5<recursionLimit
 un:A.units+16*k+200<cLine
def cB.mono(r:cB k A)(h:j<=k):cB j A:=⟨r.hd,by have:=r.vr;omega,by have:=r.un;omega⟩
def cB.deeper{A:ami}(r:cB (k+1) A)(env:Env):cB k (A.deeper env):=
 ⟨r.hd,by have:=r.vr;show A.depth+1+3*k+5 < _;omega,by have:=r.un;show A.units+3+16*k+200 < _;omega⟩
def cB.in1{A:ami}(r:cB (k+1) A):cB k A.in1:=
 ⟨r.hd,by have:=r.vr;show A.depth+3*k+5 < _;omega,by have:=r.un;show A.units+1+16*k+200 < _;omega⟩
def aa2{A:ami}:(A.under (.builtin "type.__call__" ⟨.ref C::us,kw⟩)).depth=A.depth+1:=by
 first|rfl|simp[aqx,Code.weight,Code.isCreation,Code.isGuard,Code.isCaller,Code.frames,Code.isFrame,guardIds]
def aa4{A:ami}:(A.under (.builtin "type.__call__" ⟨.ref C::us,kw⟩)).units=A.units+1:=by
 first|rfl|simp[aqx,Code.cUnits,Code.frames,Code.isFrame]
def cB.make{A:ami}(r:cB (k+1) A)(C:Addr)(us:List Value)(a:List (Str×Value)):cB k (A.under (.builtin "type.__call__" ⟨.ref C::us,a⟩)):=
 ⟨r.hd,by have:=r.vr;rw[aa2];omega,by have:=r.un;rw[aa4];omega⟩
def cB.depth{A:ami}(r:cB k A):A.depth<recursionLimit:=by have:=r.vr;omega
def cB.units{A:ami}(r:cB k A):A.units+64<cLine:=by have:=r.un;omega
def cB.ahc{A:ami}(r:cB k A):A.units<cLine:=by have:=r.un;omega
def xB:fQ:=λ_ H Q=>Q [] H
def agk(c:TE)(d:fQ):fQ:=λU H Q=>c U H λx a=>d U a λxs b=>Q (x::xs) b
section
variable{X:aT}{e:Expr}{ay:List Expr}{te:TE}{t:fQ}{pos:Pos}
def Aw:gR X [] xB:=λ_ _ _ _ H Q J h=>apN ⟨[],H,J,.nil,h⟩
theorem uj(f:b1 X e te)(b:gR X ay t)(hs:alJ (e::ay) X.env=(false,eval e X.env)::alJ ay X.env:=by rfl):gR X (e::ay) (agk te t):=by
 intro pos zn s U H Q J h;rw[hs];show wpAny _ _ (spliced ((false,eval e X.env)::amg pos (alJ ay X.env))) _ _ s;refine apA (bW (f zn s U H _ J h) λu l d=>?_);obtain⟨x,a,j,i,bq⟩:=d;exact bW (b pos zn l U a _ j bq) λus s2 ⟨xs,c,g,k,bO⟩=>⟨x::xs,c,g,.cons i k,bO⟩
def agC(t:fQ):TE:=λU H Q=>t U H λxs a=>xs.length<=alP/\∀p,a p=none->Q (.ref p) (upd a p (.t xs))
def ago(t:fQ):TE:=λU H Q=>t U H λxs a=>xs.length<=alP/\∀p,a p=none->Q (.ref p) (upd a p (.l xs))
theorem aep{o}(h:gR X ay t):b1 X (.Tuple ay o pos) (agC t):=by
 intro zn s U H Q J f;refine wpAny_Tuple_spliced (bW (h pos zn s U H _ J f) λus a ⟨xs,c,d,r,z,q⟩=>⟨by rw[<-r.length];exact z,?_⟩);have g:c a.heap.objs.size=none:=d.cb.fresh (alQ _);refine⟨.ref a.heap.objs.size,upd c a.heap.objs.size (.t xs),d.laid (t':=a.toks) (λb u e=>alL _ e) (alQ _) ?_,rfl,q _ g⟩;exact⟨z,us,r,⟨_,alV _ rfl,rfl,_,rfl⟩⟩
theorem PA(h:gR X ay t):b1 X (.List ay pos) (ago t):=by
 intro zn s U H Q J f;refine wpAny_List_spliced (bW (h pos zn s U H _ J f) λus a ⟨xs,c,d,r,z,q⟩=>⟨by rw[<-r.length];exact z,?_⟩);have g:c a.heap.objs.size=none:=d.cb.fresh (alQ _);refine⟨.ref a.heap.objs.size,upd c a.heap.objs.size (.l xs),d.laid (t':=a.toks) (λb u e=>alL _ e) (alQ _) ?_,rfl,q _ g⟩;exact⟨z,us,0,r,alV _ rfl⟩
end
abbrev ej:=List V->aw->cE->gw->Prop
abbrev m2:=List Env->aw->alO->gw->Value->alO->Prop
structure lb(P:al7)(w:World)(K:aN)(mg:bo)(base:Heap)(A:ami)(outer:List Env)(s:alO)(H:aw):Prop where
 frames:A.frames=some outer
 mod:Mod K mg base
 bs:∀b o,base.get? b=some o->s.heap.get? b=some o/\H b=none
 mh:base.objs.size<=s.heap.objs.size
 kE:s.heap.FunFrames base outer
 p':∀b∈ml outer,H b=none
 cb:gb P w H s.heap
 bare:ao2 s.gens
def hy(outer:List Env)(P:al7)(w:World)(H:aw)(s:alO)(Q:cE)(u:Value)(a:alO):Prop:=
 ∃v H',a.os=s.os/\ao2 a.gens/\gH (ml outer) [] H H' s.heap a.heap/\gb P w H' a.heap/\RelV v u/\Q v H'
def Ha(b:m2)(outer:List Env)(P:al7)(w:World)(H:aw)(s:alO)(Q:cE)(E:gw)(r:Result)(a:alO):Prop:=
 match r with
 |.ok (.ret u)=>hy outer P w H s Q u a|.ok _=>False|.error e=>b outer H s E e a
structure e5(P:al7)(w:World)(K:aN)(mg:bo)(base:Heap)(es:m2)(k:Nat)(f:Addr)(fd:amT)(ps:List Str)(sp:ej):Prop where
 len:∀vs H Q E,sp vs H Q E->vs.length=ps.length
 run:∀(A:ami)(outer:List Env)(s:alO)(H:aw)(args:Args)(us:List Value)(vs:List V)(Q:cE)(E:gw),cB k A->lb P w K mg base A outer s H->BindsTo s fd args (ps.zip us)->Vals vs us->sp vs H Q E->
  aow (model P w) A (.call (.ref f) args) (Ha es outer P w H s Q E) s
def e5.mono{P:al7}{w:World}{K:aN}{mg:bo}{base:Heap}{a:m2}{j k:Nat}{f:Addr}{b:amT}{ps:List Str}{sp:ej}(F:e5 P w K mg base a j f b ps sp)(h:j<=k) :
  e5 P w K mg base a k f b ps sp:=⟨F.len,λA outer s H args us vs Q E c=>F.run A outer s H args us vs Q E (c.mono h)⟩
def e5.imp{P:al7}{w:World}{K:aN}{mg:bo}{base:Heap}{b:m2}{k:Nat}{f:Addr}{c:amT}{ps:List Str}{sp a:ej}(F:e5 P w K mg base b k f c ps sp)
  (h:∀vs H Q E,a vs H Q E->sp vs H Q E):e5 P w K mg base b k f c ps a:=
 ⟨λvs H Q E q=>F.len vs H Q E (h _ _ _ _ q),λA outer s H args us vs Q E d he e g hs=>F.run A outer s H args us vs Q E d he e g (h _ _ _ _ hs)⟩
def lb.make{P:al7}{w:World}{K:aN}{mg:bo}{base:Heap}{A:ami}{outer:List Env}{s:alO}{H:aw}(e:lb P w K mg base A outer s H)(C:Addr)(us:List Value)(a:List (Str×Value)) :
  lb P w K mg base (A.under (.builtin "type.__call__" ⟨.ref C::us,a⟩)) outer s H:=⟨by first|exact e.frames|(simpa[aqx,Code.envs,Code.isFrame,pushEnvs]using e.frames),e.mod,e.bs,e.mh,e.kE,e.p',e.cb,e.bare⟩
def lb.in1{P:al7}{w:World}{K:aN}{mg:bo}{base:Heap}{A:ami}{outer:List Env}{s:alO}{H:aw}(e:lb P w K mg base A outer s H) :
  lb P w K mg base A.in1 outer s H:=⟨e.frames,e.mod,e.bs,e.mh,e.kE,e.p',e.cb,e.bare⟩
section
variable{X:aT}{zn:cW}{U:St}{H:aw}{s a3:alO}
def Inv.vw(J:Inv X zn U H s):lb X.prog X.w X.K X.mg X.base X.A X.stack s H:=
 ⟨J.ok.frames,J.ok.mod,J.bs,amq J.ok.mh J.pn,J.stack,J.QB,J.cb,J.bare⟩
def Inv.after(J:Inv X zn U H s)(h:hy X.stack X.prog X.w H s Q u a3):g7 X zn U Q u a3:=by
 obtain⟨v,H',os,bare,un,cb,r,q⟩:=h;obtain⟨cD,g,d,t,a⟩:=a3;obtain rfl:a=s.os:=os;exact⟨v,H',J.call (h':=cD) (g':=g) (d':=d) (t':=t) (ch:=[]) un cb bare (λb z=>absurd z (by simp)),r,q⟩
end
def QH(sp:ej)(dvs:List V)(E:gw)(t:fQ):TE:=λU H Q=>t U H λvs a=>sp (vs++dvs) a Q E
def QI(C:Addr)(m:Str)(sp:ej)(dvs:List V)(E:gw)(e:TE)(t:fQ):TE:=λU H Q=>e U H λx b=>∃a d aS,x=.ref a/\b a=some (.ins C d aS)/\aS.lookup m=none/\
 t U b λvs c=>sp (x::(vs++dvs)) c Q E
def agp(C:Addr)(sp:ej)(dvs:List V)(E:gw)(t:fQ):TE:=λU H Q=>t U H λvs b=>∀x a,b x=none->b a=none->a≠x->
 sp (.ref x::(vs++dvs)) (upd (upd b a (.own x)) x (.ins C a [])) (λv c=>v=.aH/\Q (.ref x) c) E
def Binds(K:aN)(a:amT)(ps:List Str)(ds:List Value):Prop:=
 ∀(s:alO)(us:List Value),K.In s.heap->(us++ds).length=ps.length->BindsTo s a ⟨us,[]⟩ (ps.zip (us++ds))
def Binds.all{K:aN}{a:amT}{ps:List Str}(h:∀us:List Value,us.length=ps.length->an0 a ⟨us,[]⟩=pure (ps.zip us)):Binds K a ps []:=λs us _ hl=>by
 rw[am2]at hl ⊢;exact .of_eq (h us hl)
def Passes(b:m2)(X:aT)(E:gw):Prop:=∀(zn:cW)(U:St)(H:aw)(s:alO)(e:Value)(a:alO),Inv X zn U H s->b X.stack H s E e a->X.dH e a
section
variable{X:aT}{es:m2}{k:Nat}{f C:Addr}{fd:amT}{ps:List Str}{sp:ej}{dvs:List V}{ds:List Value}{E:gw}{x m:Str}{p pos apos:Pos}{e o:Expr}{ay:List Expr}{bV:TE}{t:fQ}
theorem xm{zn:cW}{U:St}{H:aw}{s:alO}{Q:cE}{us:List Value}{vs:List V}(F:e5 X.prog X.w X.K X.mg X.base es k f fd ps sp)(d:cB k X.A)(i:Binds X.K fd ps ds)(hd:Vals dvs ds)(j:Passes es X E)
  (J:Inv X zn U H s) (r:Vals vs us) (h:sp (vs++dvs) H Q E):wpAny (model X.prog X.w) X.A (call (.ref f) us) (g7 X zn U Q) X.dH s:=by
 have b:Vals (vs++dvs) (us++ds):=r.append hd;have hl:(us++ds).length=ps.length:=by rw[<-b.length];exact F.len _ _ _ _ h
 refine wpAny_call (aoo (F.run X.A X.stack s H ⟨us,[]⟩ (us++ds) (vs++dvs) Q E d J.vw (i s us J.f3 hl) b h) λr c a=>?_)
 cases r with
 |error e=>exact j zn U H s e c J a|ok g=>
  cases g with
  |ret u=>exact J.after a|next=>exact amu a
  |brk=>exact amu a|cont=>exact amu a
def ad4(F:e5 X.prog X.w X.K X.mg X.base es k f fd ps sp)(b:cB k X.A)(c:d_ X x)(u:X.mg x=some (.ref f))(j:anJ X.K (.ref f)=true)(d:Binds X.K fd ps ds)(hd:Vals dvs ds)(g:Passes es X E)
  (i:gR X (e::ay) t) (l:(x==("__debug__":Str))=false:=by decide) (he:alJ (e::ay) X.env=(false,eval e X.env)::alJ ay X.env:=by rfl) (n:(amg pos (alJ ay X.env)).any (·.1)=false:=by rfl) :
  b1 X (.Call (.Name x p) (e::ay) [] pos) (QH sp dvs E t):=by
 intro zn s U H Q J h;refine am7 (tB J c u ?_ l);refine ap0 (h₀:=X.base) J.ok.mod.tw j (bW (i pos zn s U H _ J h) λus z ⟨vs,y,a,r,q⟩=>⟨a.f3,?_⟩) he n;exact xm F b d hd g a r q
def ad5(F:e5 X.prog X.w X.K X.mg X.base es k f fd ps sp)(a:cB k X.A)(b:d_ X x)(j:X.mg x=some (.ref f))(g:anJ X.K (.ref f)=true)(c:Binds X.K fd ps ds)(hd:Vals dvs ds)(d:Passes es X E)
  (i:(x==("__debug__":Str))=false:=by decide):b1 X (.Call (.Name x p) [] [] pos) (QH sp dvs E xB):=by
 intro zn s U H Q J h;refine am7 (tB J b j ?_ i);exact W.callWith_K0 J.f3 g (xm (us:=[]) F a c hd d J .nil h)
theorem PB{pl:Sem Bool}(he:b1 X o bV)(c:i4 X.K C)(g:Meth X.K C m f)(F:e5 X.prog X.w X.K X.mg X.base es k f fd ps sp)(n:cB k X.A)(y:Binds X.K fd ps ds)(hd:Vals dvs ds)(z:Passes es X E)(B:gR X (e::ay) t)
  (L:alJ (e::ay) X.env=(false,eval e X.env)::alJ ay X.env:=by rfl) (I:(amg pos (alJ ay X.env)).any (·.1)=false:=by rfl)
  (D:eval (.Call (.Attribute o m apos) (e::ay) [] pos) X.env=(do
   let bK <-eval o X.env
   anY apos.atName
   let(f,first) <-ang [bK] (anL bK m pl)
   aog pos f first (amg pos (alJ (e::ay) X.env)) (ant pos (amU [] X.env))):=by rfl) :
  b1 X (.Call (.Attribute o m apos) (e::ay) [] pos) (QI C m sp dvs E bV t):=by
 intro zn s U H Q J h;refine ap9 (pl:=pl) (bW (he zn s U H _ J h) λu M ⟨x,i,d,j,a,O,aS,ex,G,l,q⟩=>?_) D;subst ex;obtain rfl:u=amI a:=j;refine DF d G c g l ?_;refine ap0 (first:=[.ref a]) (h₀:=X.base) J.ok.mod.tw g.kp (bW (B pos zn M U i _ d q) λus s2 ⟨vs,N,b,r,bO⟩=>⟨b.f3,?_⟩) L I;exact xm (us:=.ref a::us) (vs:=.ref a::vs) F n y hd z b (.cons rfl r) bO
theorem aei{pl:Sem Bool}(he:b1 X o bV)(c:i4 X.K C)(d:Meth X.K C m f)(F:e5 X.prog X.w X.K X.mg X.base es k f fd ps sp)(i:cB k X.A)(j:Binds X.K fd ps ds)(hd:Vals dvs ds)(n:Passes es X E)
  (r:eval (.Call (.Attribute o m apos) [] [] pos) X.env=(do
   let bK <-eval o X.env
   anY apos.atName
   let(f,first) <-ang [bK] (anL bK m pl)
   aog pos f first (amg pos (alJ [] X.env)) (ant pos (amU [] X.env))):=by rfl) :
  b1 X (.Call (.Attribute o m apos) [] [] pos) (QI C m sp dvs E bV xB):=by
 intro zn s U H Q J h;refine ap9 (pl:=pl) (bW (he zn s U H _ J h) λu D ⟨x,z,b,g,a,B,aS,ex,y,l,q⟩=>?_) r;subst ex;obtain rfl:u=amI a:=g;refine DF b y c d l ?_;exact W.callWith_K0 (first:=[.ref a]) b.f3 d.kp (xm (us:=[.ref a]) (vs:=[.ref a]) F i j hd n b (.cons rfl .nil) q)
structure Hm(K:aN)(C f:Addr):Prop where
 makes:W.makesIn K C=true
 init:anQ K (.ref C) "__init__"=some (some (.ref f))
 fn:W.isFn K (.ref f)=true
 kp:anJ K (.ref C)=true
theorem afx{zn:cW}{U:St}{H:aw}{s:alO}{Q:cE}{us:List Value}{vs:List V}(M:Hm X.K C f)(F:e5 X.prog X.w X.K X.mg X.base es k f fd ps sp)(j:cB (k+1) X.A)(q:Binds X.K fd ps ds)(hd:Vals dvs ds)
  (y:Passes es X E) (J:Inv X zn U H s) (r:Vals vs us)
  (h:∀x b,H x=none->H b=none->b≠x->sp (.ref x::(vs++dvs)) (upd (upd H b (.own x)) x (.ins C b [])) (λv l=>v=.aH/\Q (.ref x) l) E) :
  wpAny (model X.prog X.w) X.A (call (.ref C) us) (g7 X zn U Q) X.dH s:=by
 have d:=h (s.heap.objs.size+1) s.heap.objs.size (J.cb.fresh (apx _)) (J.cb.fresh (alQ _)) (amo (aoX _));have c:=Inv.made (C:=C) J;have g:Vals (V.ref (s.heap.objs.size+1)::(vs++dvs)) (amI (s.heap.objs.size+1)::(us++ds)):=.cons rfl (r.append hd);have hl:(amI (s.heap.objs.size+1)::us++ds).length=ps.length:=by
  have e:=g.length;rw[F.len _ _ _ _ d]at e;exact e.symm
 refine wpAny_call (aa3 (f:=f) J.f3 M.makes M.init (beq_iff_eq.mp M.fn) (aoo (F.run _ X.stack _ _ ⟨amI (s.heap.objs.size+1)::us,[]⟩ (amI (s.heap.objs.size+1)::(us++ds)) _ _ E (j.make C us [])
  (c.vw.make C us []) (q _ (amI (s.heap.objs.size+1)::us) c.f3 hl) g d) λr i a=>?_))
 cases r with
 |error e=>exact y zn U _ _ e i c a|ok n=>
  cases n with
  |ret u=>
   obtain⟨v,H',D,z,G,B⟩:=c.after a;subst G;exact⟨z,⟨V.ref (s.heap.objs.size+1),H',D,rfl,B⟩⟩
  |next=>exact amu a
  |brk=>exact amu a|cont=>exact amu a
def aeh(M:Hm X.K C f)(F:e5 X.prog X.w X.K X.mg X.base es k f fd ps sp)(b:cB (k+1) X.A)(c:d_ X x)(n:X.mg x=some (.ref C))(d:Binds X.K fd ps ds)(hd:Vals dvs ds)(g:Passes es X E)
  (i:gR X (e::ay) t) (j:(x==("__debug__":Str))=false:=by decide) (he:alJ (e::ay) X.env=(false,eval e X.env)::alJ ay X.env:=by rfl) (l:(amg pos (alJ ay X.env)).any (·.1)=false:=by rfl) :
  b1 X (.Call (.Name x p) (e::ay) [] pos) (agp C sp dvs E t):=by
 intro zn s U H Q J h;refine am7 (tB J c n ?_ j);refine ap0 (h₀:=X.base) J.ok.mod.tw M.kp (bW (i pos zn s U H _ J h) λus y ⟨vs,u,a,r,q⟩=>⟨a.f3,?_⟩) he l;exact afx M F b d hd g a r q
end
structure gP(N P:List Str)(sc:Scope):Prop where
 kind:sc.kind=.function:=by rfl
 co:sc.isCoroutine=false:=by rfl
 gen:sc.isGenerator=false:=by rfl
 fC:N.Nodup:=by decide +kernel
 pre:N.take P.length=P:=by rfl
 par:∀x∈P,sc.names.lookup x=some .local\/sc.names.lookup x=some .cell:=by decide +kernel
 acW:∀y∈sc.names,y.2≠.free:=by decide +kernel
theorem Ju{kindOf:Str->Option aoh}{x:Str}:∀{binds:List (Str×Value)}{m:bo},(∀v,(x,v)∉binds)->bindL kindOf binds m x=m x
 |[],_,_=>rfl|(n,v)::r,m,h=>by
  unfold bindL;rw[Ju λw hw=>h w (alW _ hw)];split
  .have:x≠n:=by rintro rfl;exact h v al2
   simp[this]
  .rfl
theorem Js{kindOf:Str->Option aoh}{x:Str}:∀{binds:List (Str×Value)}{m:bo},(∀v,(x,v)∉binds)->bindC kindOf binds m x=m x
 |[],_,_=>rfl|(n,v)::r,m,h=>by
  unfold bindC;rw[Js λw hw=>h w (alW _ hw)];split
  .rfl
  .have:x≠n:=by rintro rfl;exact h v al2
   simp[this]
theorem Jt{kindOf:Str->Option aoh}{v:Value}:∀{P:List Str}{vs:List Value}{i:Nat}{m:bo},P.Nodup->P[i]? = some x->vs[i]? = some v->kindOf x=some .local->
  bindL kindOf (P.zip vs) m x=some v
 |[],_,_,_,_,h,_,_=>by simp at h| _::_,[],_,_,_,_,h,_=>by simp at h|p::P,w::vs,0,m,fC,o,C,J=>by
  simp at o C;subst o;subst C;show bindL kindOf ((p,w)::P.zip vs) m p=_;unfold bindL;rw[Ju λv a=>(amK.mp fC).1 (aox a).1,if_pos J];simp
 |p::P,w::vs,i+1,m,fC,o,C,J=>by
  show bindL kindOf ((p,w)::P.zip vs) m x=_;unfold bindL;exact Jt (i:=i) (amK.mp fC).2 (by simpa using o) (by simpa using C) J
theorem Jr{kindOf:Str->Option aoh}{v:Value}:∀{P:List Str}{vs:List Value}{i:Nat}{m:bo},P.Nodup->P[i]? = some x->vs[i]? = some v->kindOf x≠some .local->
  bindC kindOf (P.zip vs) m x=some v
 |[],_,_,_,_,h,_,_=>by simp at h| _::_,[],_,_,_,_,h,_=>by simp at h|p::P,w::vs,0,m,fC,o,C,J=>by
  simp at o C;subst o;subst C;show bindC kindOf ((p,w)::P.zip vs) m p=_;unfold bindC;rw[Js λv a=>(amK.mp fC).1 (aox a).1,if_neg J];simp
 |p::P,w::vs,i+1,m,fC,o,C,J=>by
  show bindC kindOf ((p,w)::P.zip vs) m x=_;unfold bindC;exact Jr (i:=i) (amK.mp fC).2 (by simpa using o) (by simpa using C) J
def start(N:List Str)(vs:List V):St:=vs.map some++amm (N.length-vs.length) none
def gU(b:m2)(P:al7)(w:World)(K:aN)(mg:bo)(base:Heap)(N:List Str)(qual:Str)(scope:Scope)(f:Addr)(cd:Value)(A:ami)(outer:List Env)(s:alO)(H:aw)(E:gw):aT where
 prog:=P
 w:=w
 K:=K
 mg:=mg
 base:=base
 A:=A.deeper (aop qual scope s.heap.objs.size f cd)
 N:=N
 gN:=s
 H₀:=H
 env:=aop qual scope s.heap.objs.size f cd
 outer:=outer
 stack:=aop qual scope s.heap.objs.size f cd::outer
 ex:=[]
 calm:=true
 fn:=λ_=>true
 nX:=[]
 dH:=λe c=>wpAny (model P w) (A.deeper (aop qual scope s.heap.objs.size f cd)) (leaving (aop qual scope s.heap.objs.size f cd) e) (λ_ a=>b outer H s E e a) (λd a=>b outer H s E d a) c
def JK{a:Scope}(h:a.names.lookup x=some .cell):∃c,(cellsFrom n a.names []).lookup x=some c:=by
 have q:=ap1 a.names n [] (.inl h);exact ap2.mp q
def NG{G:m2}{P:al7}{w:World}{K:aN}{mg:bo}{base:Heap}{N ps:List Str}{qual:Str}{scope:Scope}{f:Addr}{cd:Value}{A:ami}{outer:List Env}{s I:alO}{H:aw}{E:gw}{us:List Value}{vs:List V}
  (S:gP N ps scope) (hd:A.handled=none) (g:lb P w K mg base A outer s H) (hl:vs.length=ps.length) (r:Vals vs us)
  (x:InCallC s s.heap.objs.size (bindL (aop qual scope s.heap.objs.size f cd).kindOf (ps.zip us) λ_=>none) (cellsFrom (s.heap.objs.size+1) scope.names []) (bindC (aop qual scope s.heap.objs.size f cd).kindOf (ps.zip us) λ_=>none) I) :
  Inv (gU G P w K mg base N qual scope f cd A outer s H E) [] (start N vs) H I:=by
 have Q:ps.length<=N.length:=by have:=congrArg anz S.pre;rw[amV]at this;omega
 obtain⟨m,tk,rfl,D⟩:=x.done;have t:∀b:Addr,b∉(gU G P w K mg base N qual scope f cd A outer s H E).ex:=λb z=>absurd (show b∈([]:List Addr)from z) (by simp)
 refine⟨⟨g.mod,S.kind,rfl,rfl,alQ _,λy z c m d=>?_,λy j=>?_,λy c _ h=>?_,λ_=>hd,Around.frames_deeper g.frames,.inr ⟨rfl,rfl⟩,λb z=>absurd z (t b),g.bs,g.mh,λb _ _=>t b,λb z=>absurd z (t b),g.kE,g.p'⟩,
  rfl,g.bare,gH.kept D,⟨_,x.toInCall.ns,λi y v m d O=>?_⟩,λy c h=>⟨_,x.cell y c h⟩,g.cb.fresh (alQ _),λy c h=>?_,λp l=>absurd (show p∈([]:cW)from l) (by simp),g.cb.kept D,?_⟩
 .exact name_of_addr x.apart (anc m) (anc d)
 .have j:scope.names.lookup y=some .cell\/scope.names.lookup y=some .free:=j
  rcases j with j|j
  .exact JK j
  .exact absurd rfl (S.acW _ (anc j))
 .exact anr (x.above y c (anc h))
 .have hi:i<vs.length:=by
   unfold start at d
   by_cases hi:i<vs.length
   .exact hi
   .rw[al6 (by simpa using hi)]at d
    rw[ank]at d;split at d<;>cases d
  have L:vs[i]? = some v:=by
   unfold start at d;rw[al8 (by simpa using hi),al4]at d
   cases e:vs[i]? with
   |none=>rw[e]at d;cases d
   |some a=>rw[e]at d;cases d;rfl
  obtain⟨u,F,M⟩:=r.get L;have l:ps[i]? = some y:=by
   rw[<-S.pre,List.getElem?_take_of_lt (by omega)];exact m
  have B:ps.Nodup:=by rw[<-S.pre];exact S.fC.sublist (List.take_sublist _ _)
  refine⟨u,M,?_⟩;rcases S.par y (amh l)with k|k
  .exact .inl ⟨k,Jt B l F k⟩
  .obtain⟨c,e⟩:=JK (n:=s.heap.objs.size+1) k
   refine .inr ⟨.inl k,c,e,?_⟩;have q:=x.cell y c e;rw[Jr B l F (by show scope.names.lookup y≠_;rw[k];decide)]at q;exact q
 .exact g.cb.fresh (anr (x.above y c (anc h)))
 .unfold start
  show _=N.length;rw[alN,alM,amG];omega
def Du{h:m2}{P:al7}{w:World}{K:aN}{mg:bo}{base:Heap}{k:Nat}{f:Addr}{name qual:Str}{params:aoF}{body:List Stmt}{scope:Scope}{F dr g D c cx cS:Value}{p Y:Option Addr}
  {Z:Array (Option Value)}{N ps:List Str}{sp:ej}(U:K.lookup f=some ⟨cS,Y,.func (anF name qual params body scope F dr g D p c cx),Z⟩) (C:apn K c qual=true) (S:gP N ps scope)
  (len:∀vs H Q E,sp vs H Q E->vs.length=ps.length)
  (vN:∀(A:ami)(outer:List Env)(s:alO)(H:aw)(vs:List V)(Q:cE)(E:gw),cB k (A.deeper (aop qual scope s.heap.objs.size f c))->sp vs H Q E->
   ∃t,ix (gU h P w K mg base N qual scope f c A outer s H E) body t/\t { bu:=λ_ H'=>Q .aH H',cp:=Q } (start N vs) H) :
  e5 P w K mg base h (k+1) f (anF name qual params body scope F dr g D p c cx) ps sp:=by
 refine⟨len,λA outer s H args us vs Q E j d T r B=>?_⟩;have hl:=len _ _ _ _ B;have z:K.In s.heap:=d.mod.tw.keeps λb o e=>(d.bs b o e).1
 have m:s.heap.NoLimit:=d.mod.nolimit.keeps λb o e=>(d.bs b o e).1
 have I:∀y∈ps.zip us,scope.names.lookup y.1=some .local\/(scope.names.lookup y.1=some .cell/\((cellsFrom (s.heap.objs.size+1) scope.names []).lookup y.1).isSome=true):=λO R=>by
  obtain⟨n,v⟩:=O;rcases S.par n (aox R).1 with q|q
  .exact .inl q
  .exact .inr ⟨q,ap1 _ _ _ (.inl q)⟩
 refine codeAny_call_function j.depth (z _ _ U) rfl S.co S.gen rfl (W.codeRec_of z C) (T _ _ _ _ ?_);refine wpAny_newFunctionEnv_cells S.kind I λenv he G x=>?_
 subst he;refine⟨m.keeps x.toInCall.keep,codeAny_func ?_⟩;obtain⟨t,X,L⟩:=vN A outer s H vs Q E (j.deeper _) B;have J:Inv (gU h P w K mg base N qual scope f c A outer s H E) [] (start N vs) H G:=NG S j.hd d hl r x;refine amH (X [] G (start N vs) H _ J L) (λM i hs=>?_) λe i hs=>hs
 have fin:∀{U':St}{H':aw}{v:V}{u:Value},Inv (gU h P w K mg base N qual scope f c A outer s H E) [] U' H' i->RelV v u->Q v H'->hy outer P w H s Q u i:=
  λ{U' H' v u} a l q=>⟨v,H',a.os,a.bare,a.base,a.cb,l,q⟩
 cases M with
 |ret u=>
  obtain⟨v,U',H',a,l,q⟩:=hs;exact fin a l q
 |next=>
  obtain⟨U',H',a,q⟩:=hs;exact fin (v:=V.aH) (u:=aob) a rfl q
 |brk=>
  obtain⟨_,_,_,q⟩:=hs;exact amu q
 |cont=>
  obtain⟨_,_,_,q⟩:=hs;exact amu q
section
variable{X:aT}{x:Str}{p pos:Pos}{e:Expr}{ay:List Expr}{t:fQ}{id T:String}{r:List V->aw->cE->Prop}
def GB(r:List V->aw->cE->Prop)(t:fQ):TE:=λU H Q=>t U H λvs a=>r vs a Q
def ad6(l:jY X (.builtin id) r)(b:d_ X x)(m:X.mg x=none)(g:amB x=some (.builtin id))(c:gR X (e::ay) t)(d:x≠"__name__":=by decide)(j:(x==("__debug__":Str))=false:=by decide)
  (he:alJ (e::ay) X.env=(false,eval e X.env)::alJ ay X.env:=by rfl) (k:(amg pos (alJ ay X.env)).any (·.1)=false:=by rfl):b1 X (.Call (.Name x p) (e::ay) [] pos) (GB r t):=by
 intro zn s U H Q J h;refine am7 (nK J b m g ?_ d j);exact PyProof.Rows.callWith_builtin1 (bW (c pos zn s U H _ J h) λus n ⟨vs,a,i,f,bq⟩=>l zn n U a vs us Q i f bq) he k
def ad7(l:jY X (.type T) r)(b:d_ X x)(m:X.mg x=none)(g:amB x=some (.type T))(c:gR X (e::ay) t)(d:x≠"__name__":=by decide)(j:(x==("__debug__":Str))=false:=by decide)
  (he:alJ (e::ay) X.env=(false,eval e X.env)::alJ ay X.env:=by rfl) (k:(amg pos (alJ ay X.env)).any (·.1)=false:=by rfl):b1 X (.Call (.Name x p) (e::ay) [] pos) (GB r t):=by
 intro zn s U H Q J h;refine am7 (nK J b m g ?_ d j);exact am6 (bW (c pos zn s U H _ J h) λus n ⟨vs,a,i,f,bq⟩=>l zn n U a vs us Q i f bq) he k
end
end aA
namespace c4
open PySem PyProof.Rows
def U7(A:ami)(s:alO)(a:Int)(t:Tok)(c:Int)(u:Tok):∃e,SeqAt.EqAt A s (.int a t) (.int c u) e/\(e=true↔a=c):=
 ⟨(a==c),aqy a t c u,by simp⟩
section
variable{prog:al7}{w:World}{A:ami}{E:de}{s:alO}
def cu(n d:Nat):Option Int->Nat
 |none=>d|some v=>if v<0 then(v+(n:Int)).toNat else min v.toNat n
def AL(n d:Nat):cu n d none=d:=rfl
def AK(n d k:Nat):cu n d (some (k:Int))=min k n:=by
 show(if(k:Int)<0 then((k:Int)+(n:Int)).toNat else min (k:Int).toNat n)=min k n;rw[if_neg (by omega),apO]
def afD(n d:Nat)(hd:d<=n)(o:Option Int):cu n d o<=n:=by
 cases o with
 |none=>exact hd|some v=>
  show(if v<0 then(v+(n:Int)).toNat else min v.toNat n)<=n
  by_cases a:v<0
  .rw[if_pos a];omega
  .rw[if_neg a];exact Nat.min_le_right _ _
def JO(v:Int)(n d:Nat):(if v<0 then max (v+(n:Int)) 0 else min v (n:Int))=((cu n d (some v):Nat):Int):=by
 show(if v<0 then max (v+(n:Int)) 0 else min v (n:Int))=(((if v<0 then(v+(n:Int)).toNat else min v.toNat n):Nat):Int)
 by_cases a:v<0
 .simp only[if_pos a];omega
 .simp only[if_neg a];omega
def R3(lo hi:Option Int)(n:Nat):aoy lo hi 1 (n:Int)=(((cu n 0 lo:Nat):Int),((cu n n hi:Nat):Int)):=by
 have a:¬((1:Int)<0):=by omega
 unfold aoy;simp only[a,if_false];refine Prod.ext ?_ ?_
 .cases lo with
  |none=>rfl|some v=>exact JO v n 0
 .cases hi with
  |none=>rfl|some v=>exact JO v n n
def aeF(i j:Nat):anU (i:Int) (j:Int) 1=j-i:=by
 unfold anU;have a:(1:Int) > 0:=by omega
 simp only[a,if_true,Int.ediv_one];split<;>omega
def Qv{v:Value}{o:Option Int}{Q:Option Int->alO->Prop}(p:aoN v o)(h:Q o s):wpAny (model prog w) A (Builtin.Slice.slicePartIndex v) Q E s:=by
 cases p with
 |none=>exact slicePart_none h|int i t=>exact slicePart_int h
def Qu{bc:Addr}{a b:Value}{lo hi:Option Int}{n:Nat}{Q:Int×Int×Nat->alO->Prop}(hs:s.heap.IsSliceOf bc a b .none)(pl:aoN a lo)(e:aoN b hi)
  (h:Q (((cu n 0 lo:Nat):Int),1,cu n n hi-cu n 0 lo) s):wpAny (model prog w) A (apG (.ref bc) (pure (n:Int))) Q E s:=by
 obtain⟨os,d,f,c⟩:=id hs;unfold apG Builtin.Slice.sliceFields;refine alI (alI (am3 d c (x:=a) rfl (alI (am3 d c (x:=b) rfl (alI (am3 d c (x:=.none) rfl (alT ?_)))))));refine alI (slicePart_none ?_);show wpAny _ _ (if((1:Int)==0)=true then _ else _) _ _ s;rw[if_neg (by decide)];refine alI (Qv pl (alI (Qv e (alI (alT ?_)))));show wpAny _ _ (match aoy lo hi 1 (n:Int)with|(lo,hi)=>pure (lo,(1:Int),anU lo hi 1)) _ _ s;rw[R3 lo hi n];show wpAny _ _ (pure (((cu n 0 lo:Nat):Int),(1:Int),anU ((cu n 0 lo:Nat):Int) ((cu n n hi:Nat):Int) 1)) _ _ s;rw[aeF];exact alT h
def aeB(xs:Array Value)(i k:Nat):((ame k).filterMap λ(m:Nat)=>xs[((i:Int)+(m:Int)*1).toNat]?).toArray=((xs.toList.drop i).take k).toArray:=by
 have e:(λ(m:Nat)=>xs[((i:Int)+(m:Int)*1).toNat]?)=λm=>xs[i+m]?:=by
  funext m
  have:((i:Int)+(m:Int)*1).toNat=i+m:=by omega
  rw[this]
 rw[e];have:=pick_run xs i k;rw[List.filterMap_map]at this;have aE:((λx=>xs[x]?)∘λx=>i+x)=λm=>xs[i+m]?:=rfl
 rw[aE]at this;rw[this]
def VS{t bc:Addr}{a:Array Value}{d e:Value}{lo hi:Option Int}{Q:de}(b:IsTup s.heap t a)(hs:s.heap.IsSliceOf bc d e .none)(pl:aoN d lo)(i:aoN e hi)
  (hw:¬(cu a.size 0 lo=0/\cu a.size a.size hi=a.size))
  (h:Q (.ref s.heap.objs.size) { s with heap:=s.heap.push { cls:=.type "tuple",data:=.seq ((a.toList.drop (cu a.size 0 lo)).take (cu a.size a.size hi-cu a.size 0 lo)).toArray } })
  (n:a.size<=alP):wpAny (model prog w) A (ao3 (.ref t) (.ref bc)) Q E s:=by
 have c:sizeOk (.seq ((a.toList.drop (cu a.size 0 lo)).take (cu a.size a.size hi-cu a.size 0 lo)).toArray):=by
  show((a.toList.drop (cu a.size 0 lo)).take (cu a.size a.size hi-cu a.size 0 lo)).toArray.size<=alP;rw[alS,amV,amL,amA];omega
 have l:cu a.size a.size hi<=a.size:=afD _ _ (alQ _) hi;obtain⟨os,j,k,p⟩:=id hs;have f:s.TypeIs (.ref bc) "slice":=⟨os,j,k⟩;unfold ao3
 try with_reducible refine anh ?_
 first|refine alI (alT ?_)|skip
 refine alI (wpAny_sequenceKey b.typeIs (by decide) ?_);refine alI (anl (name:=al3 "__getitem__") b.typeIs amS
  (an1 amS b.typeIs entry_tuple_getitem ?_ (args_tuple_getitem _ _)))
 show wpAny _ _ (apH (.ref t) >>= _) _ _ s;refine alI (tupleItemsOf_ b ?_);refine alI (wpAny_typeOf f ?_);rw[if_pos (by decide)];refine alI (Qu hs pl i ?_);have g:¬((((cu a.size 0 lo:Nat):Int)==0&&(1:Int)==1&&(cu a.size a.size hi-cu a.size 0 lo)==a.size)=true):=by
  intro q;rw[amc,amc]at q;have bq:((cu a.size 0 lo:Nat):Int)=0:=eq_of_beq q.1.1;have bO:cu a.size a.size hi-cu a.size 0 lo=a.size:=eq_of_beq q.2;exact hw ⟨by omega,by omega⟩
 show wpAny _ _ (if(((cu a.size 0 lo:Nat):Int)==0&&(1:Int)==1&&(cu a.size a.size hi-cu a.size 0 lo)==a.size)=true then _ else _) _ _ s;rw[if_neg g,aeB]
 first
  |exact alI (m:=an2 _) (anD (alT ⟨_,rfl,alT h⟩) c)
  |exact alI (m:=an2 _) (anD (alI (alT (alT ⟨_,rfl,alT h⟩))) c)
  |exact alI (alI (m:=an2 _) (anD (alT (alT ⟨_,rfl,alT h⟩)) c))
  |exact alI (alI (m:=an2 _) (anD (alT ⟨_,rfl,alT h⟩) c))
end
end c4
namespace aA
open PySem PySem.Spec PyProof.Rows
abbrev dM:=St->aw->(Option Int->aw->Prop)->Prop
def u6(X:aT)(e:Option Expr)(t:dM):Prop:=
 ∀(zn:cW)(s:alO)(U:St)(H:aw)(Q:Option Int->aw->Prop),Inv X zn U H s->t U H Q->
  wpAny (model X.prog X.w) X.A (evalPart e X.env) (λu a=>∃o H',Inv X zn U H' a/\aoN u o/\Q o H') X.dH s
def ags:dM:=λ_ H Q=>Q none H
def agw(t:TE):dM:=λU H Q=>t U H λx a=>∃i,x=.int i/\Q (some i) a
def intsAre_of{ns:List Int}:∀{us:List Value},Vals (ns.map V.int) us->anZ us ns:=by
 induction ns with
 |nil=>intro us r;rw[List.map_nil]at r;cases r;exact .nil
 |cons n ns a=>
  intro us r;rw[alZ]at r
  cases r with
  |cons b c=>
   obtain⟨t,e⟩:=b;subst e;exact .cons n t (a c)
section
variable{X:aT}{e:Expr}{te:TE}{lo hi:Option Expr}{jq A0:dM}{pos cj:Pos}
def aeG:u6 X none ags:=by
 intro zn s U H Q J h;rw[evalPart_none];exact alT ⟨none,H,J,.none,h⟩
def aeH(h:b1 X e te):u6 X (some e) (agw te):=by
 intro zn s U H Q J hw;rw[evalPart_some];refine bW (h zn s U H _ J hw) λu f b=>?_
 obtain⟨x,a,d,c,bq⟩:=b;obtain⟨i,rfl,q⟩:=bq;obtain⟨t,rfl⟩:=c;exact⟨some i,a,d,.int i t,q⟩
def od(X:aT)(r:V->Option Int->Option Int->aw->cE->Prop):Prop:=
 ∀(zn:cW)(s:alO)(U:St)(H:aw)(x:V)(v a b:Value)(lo hi:Option Int)(bc:Addr)(Q:cE),Inv X zn U H s->RelV x v->s.heap.IsSliceOf bc a b .none->aoN a lo->aoN b hi->r x lo hi H Q->
  ∃T id,typeLookup (.type T) "__getitem__"=pure (some (.builtin id))/\s.TypeIs v T/\wpAny (model X.prog X.w) X.A (ao3 v (.ref bc)) (g7 X zn U Q) X.dH s
def od.or{r b:V->Option Int->Option Int->aw->cE->Prop}(h:od X r)(h':od X b):od X (λx lo hi H Q=>r x lo hi H Q\/b x lo hi H Q):=by
 intro zn s U H x v c d lo hi bc Q J a hs pl f q;rcases q with q|q
 .exact h zn s U H x v c d lo hi bc Q J a hs pl f q
 .exact h' zn s U H x v c d lo hi bc Q J a hs pl f q
def agA(r:V->Option Int->Option Int->aw->cE->Prop)(te:TE)(jq A0:dM):TE:=λU H Q=>te U H λx a=>jq U a λl b=>A0 U b λu c=>r x l u c Q
def FU{r:V->Option Int->Option Int->aw->cE->Prop}(i:od X r)(he:b1 X e te)(hl:u6 X lo jq)(y:u6 X hi A0):b1 X (.Subscript e (.Slice lo hi none cj) pos) (agA r te jq A0):=by
 intro zn s U H Q J h;refine Subscript_ (bW (he zn s U H _ J h) λv G d=>?_);obtain⟨x,g,t,p,bq⟩:=d;refine wpAny_Slice (bW (hl zn G U g _ t bq) λa s2 ⟨l,j,m,pl,bO⟩=>bW (y zn s2 U j _ m bO) λc s3 d=>?_);obtain⟨u,f,B,F,z⟩:=d;rw[evalPart_none];refine alT ?_;have E:Inv X zn U f { s3 with heap:=s3.heap.push { cls:=.type "slice",data:=.fields #[a,c,.none] } }:=B.kept (t':=s3.toks) λb a8 q=>alL _ q
 obtain⟨T,id,D,n,k⟩:=i zn { s3 with heap:=s3.heap.push { cls:=.type "slice",data:=.fields #[a,c,.none] } } U f x v a c l u s3.heap.objs.size Q E p (Heap.IsSliceOf.new ..) pl F z;show wpAny (model X.prog X.w) X.A (subscriptTail e (.Slice lo hi none cj) v (.ref s3.heap.objs.size)) (g7 X zn U Q) X.dH { s3 with heap:=s3.heap.push { cls:=.type "slice",data:=.fields #[a,c,.none] } };exact tail_any (ops:=[.ref s3.heap.objs.size,v]) n D k (by with_unfolding_all rfl)
def p3(xs:List V)(lo hi:Option Int):List V:=(xs.drop (c4.cu xs.length 0 lo)).take (c4.cu xs.length xs.length hi-c4.cu xs.length 0 lo)
def J1(xs:List V)(lo hi:Option Int):(p3 xs lo hi).length<=xs.length:=by
 unfold p3;rw[amV,amL];omega
def afe(K:aN):V->Option Int->Option Int->aw->cE->Prop:=λx lo hi H Q=>∃a xs,x=.ref a/\dx K H a xs/\
 ¬(c4.cu xs.length 0 lo=0/\c4.cu xs.length xs.length hi=xs.length)/\∀p,H p=none->Q (.ref p) (upd H p (.t (p3 xs lo hi)))
theorem Qt:od X (afe X.K):=by
 intro zn s U H x v j k lo hi bc Q J f hs pl i h;obtain⟨a,xs,rfl,g,hw,q⟩:=h;cases f;obtain⟨its,r,d,hz⟩:=J.tuple g;have c:its.toArray.size=xs.length:=by rw[alS];exact r.length.symm
 refine⟨"tuple",_,amS.lookup,d.typeIs,?_⟩;refine c4.VS d hs pl i (by rw[c];exact hw) ?_ (by rw[c];exact hz);rw[c];refine⟨.ref s.heap.objs.size,_,J.laid (t':=s.toks) (o:=.t (p3 xs lo hi)) (λb a8 q=>alL _ q) (alQ _) ?_,rfl,q _ (J.cb.fresh (alQ _))⟩;exact⟨amq (J1 xs lo hi) hz,_,(r.drop (c4.cu xs.length 0 lo)).take (c4.cu xs.length xs.length hi-c4.cu xs.length 0 lo),IsTup.new _ _⟩
end
def lJ(n:Nat)(i:Int):Option Nat:=if 0<=i then(if i<n then some i.toNat else none)else if -(n:Int)<=i then some (i+n).toNat else none
def d1{α:Type}(xs:List α)(i:Int):Option α:=(lJ xs.length i).bind λj=>xs[j]?
def NO{i:Int}(h:lJ n i=some j):seqIndex? i n=some j/\j<n/\-(n:Int)<=i/\i<n:=by
 unfold lJ at h
 by_cases b:0<=i
 .rw[if_pos b]at h
  by_cases a:i<n
  .rw[if_pos a]at h
   have e:i.toNat=j:=amf h;exact⟨by rw[seqIndex_of b a,e],by omega,by omega,a⟩
  .rw[if_neg a]at h;cases h
 .rw[if_neg b]at h
  by_cases a:-(n:Int)<=i
  .rw[if_pos a]at h
   have e:(i+n).toNat=j:=amf h;exact⟨by rw[seqIndex_neg (by omega) a,e],by omega,a,by omega⟩
  .rw[if_neg a]at h;cases h
def yo{α:Type}{xs:List α}{i:Int}{v:α}(h:d1 xs i=some v):∃j,seqIndex? i xs.length=some j/\xs[j]? = some v/\j<xs.length/\-(xs.length:Int)<=i/\i<xs.length:=by
 unfold d1 at h
 cases e:lJ xs.length i with
 |none=>rw[e]at h;cases h
 |some j=>
  rw[e]at h;obtain⟨a,b,c,d⟩:=NO e;exact⟨j,a,h,b,c,d⟩
def HG{α:Type}{xs:List α}{j:Nat}{v:α}(h:xs[j]? = some v):d1 xs (j:Int)=some v:=by
 have a:j<xs.length:=(alK.mp h).1;have e:lJ xs.length (j:Int)=some j:=by
  unfold lJ;rw[if_pos (by omega),if_pos (by omega)];simp
 unfold d1;rw[e];exact h
def Hr(b:Expr):Prop:=∀o i,aqf b false o i=operate [o,i] (ao3 o i)
def m7(X:aT)(r:fx):Prop:=
 ∀(value a:Expr)(zn:cW)(s:alO)(U:St)(H:aw)(x y:V)(v u:Value)(Q:cE),Inv X zn U H s->RelV x v->RelV y u->r x y H Q->
  aqf a false v u=operate [v,u] (ao3 v u)->wpAny (model X.prog X.w) X.A (subscriptTail value a v u) (g7 X zn U Q) X.dH s
def u5(X:aT)(id:String)(r:V->List V->aw->cE->Prop):Prop:=
 ∀(zn:cW)(s:alO)(U:St)(H:aw)(x:V)(xs:List V)(v:Value)(us:List Value)(Q:cE),Inv X zn U H s->RelV x v->Vals xs us->r x xs H Q->
  wpAny (model X.prog X.w) X.A (call (.builtin id) (v::us)) (g7 X zn U Q) X.dH s
section
variable{X:aT}{a b:Expr}{bV cJ:TE}{pos:Pos}
def m7.or{r f:fx}(h:m7 X r)(h':m7 X f):m7 X (λx y H Q=>r x y H Q\/f x y H Q):=by
 intro value c zn s U H x y v u Q J d e q hs;rcases q with q|q
 .exact h value c zn s U H x y v u Q J d e q hs
 .exact h' value c zn s U H x y v u Q J d e q hs
def aef{r:fx}(d:m7 X r)(g:b1 X a bV)(f:b1 X b cJ)(hs:Hr b):b1 X (.Subscript a b pos) (xC r bV cJ):=by
 intro zn s U H Q J h;exact Subscript_ (CB g f J h λv u s2 x y e i c j q=>d a b zn s2 U e x y v u Q i c j q (hs _ _))
def P7(K:aN):fx:=λx y H Q=>∃p xs i v,x=.ref p/\y=.int i/\dq K H p xs/\d1 xs i=some v/\Q v H
def P9(K:aN):fx:=λx y H Q=>∃p xs i v,x=.ref p/\y=.int i/\dx K H p xs/\d1 xs i=some v/\Q v H
def P8:fx:=λx y H Q=>∃z i c,x=.str z/\y=.int i/\z.length<=alP/\d1 z.cps.toList i=some c/\Q (.str ⟨#[c]⟩) H
def ZJ:m7 X (P7 X.K):=by
 intro value e zn s U H x y v u Q J m A h hs;obtain⟨p,xs,i,z,rfl,rfl,l,he,q⟩:=h;cases m;obtain⟨t,rfl⟩:=A;obtain⟨its,r,pl,hz⟩:=J.list l;obtain⟨j,c,n,G,B,D⟩:=yo he;obtain⟨w,g,E⟩:=r.get n;have hl:=r.length;have F:=tC;have fin:g7 X zn U Q w s:=⟨z,H,J,E,q⟩
 by_cases f:0<=i
 .have d:i.toNat=j:=by
   rw[seqIndex_of f D]at c;exact amf c
  exact item_listR pl.isList f (by omega) (by rw[d];simpa using g) fin hs
 .have d:(i+(its.toArray.size:Int)).toNat=j:=by
   rw[seqIndex_neg (by omega) B]at c;rw[alS,<-hl];exact amf c
  exact subscriptTail_builtinR (x:=w) pl.isList.typeIs slot_list_getitem.lookup
   (wpAny_getItem_list_neg (Q:=λr k=>r=w/\g7 X zn U Q r k) pl.isList (by omega) (by rw[alS]<;>omega) (by omega) (by rw[d];simpa using g) ⟨rfl,fin⟩) hs
def ZL:m7 X (P9 X.K):=by
 intro value c zn s U H x y v u Q J f l h hs;obtain⟨p,xs,i,z,rfl,rfl,e,he,q⟩:=h;cases f;obtain⟨t,rfl⟩:=l;obtain⟨its,r,pl,hz⟩:=J.tuple e;obtain⟨j,g,k,B,D,E⟩:=yo he;obtain⟨w,m,n⟩:=r.get k;have hl:=r.length;have A:=tC;have fin:g7 X zn U Q w s:=⟨z,H,J,n,q⟩;exact subscriptTail_builtinR (x:=w) pl.typeIs slot_tuple_getitem.lookup
  (getItem_tuple (j:=j) (Q:=λr d=>r=w/\g7 X zn U Q r d) pl (by omega) (by omega) (by rw[alS,<-hl];exact g) (by simpa using m) ⟨rfl,fin⟩) hs
def ZK:m7 X P8:=by
 intro value d zn s U H x y v u Q J f k h hs;obtain⟨z,i,c,rfl,rfl,hz,he,q⟩:=h;obtain⟨t,rfl⟩:=f;obtain⟨t',rfl⟩:=k;obtain⟨j,e,g,p,l,m⟩:=yo he;have hl:z.cps.toList.length=z.length:=by simp[Str.length]
 rw[hl]at e l m;have n:=tC;exact tail_any (typeIs_str s z t) slot_str_getitem.lookup (getItem_str (c:=c) (by
  have av:decide (i < -(2 ^ 63:Int))=false:=decide_eq_false (by omega);have aE:decide (i≥2 ^ 63)=false:=decide_eq_false (by omega);rw[av,aE,Bool.or_false]) (by rw[e];simpa using g) ⟨.str ⟨#[c]⟩,H,J.tok _,⟨_,rfl⟩,q⟩) hs
def P6(K:aN):fx:=λx y H Q=>P7 K x y H Q\/P9 K x y H Q\/P8 x y H Q
def hk:m7 X (P6 X.K):=ZJ.or (ZL.or ZK)
def aa6(its:List Value)(n j:Nat)(u:Value):amj (·.setIfInBounds j u) { cls:=.type "list",data:=.seq its.toArray n }={ cls:=.type "list",data:=.seq (its.set j u).toArray n }:=by
 simp[amj]
def Inv.l{zn:cW}{U:St}{H:aw}{s:alO}{p:Addr}{xs:List V}(J:Inv X zn U H s)(h:H p=some (.l xs)) :
  ∃(its:List Value)(n:Nat),Vals xs its/\s.heap.get? p=some { cls:=.type "list",data:=.seq its.toArray n }/\xs.length<=alP:=by
 obtain⟨z,its,n,r,e⟩:=J.cb p _ h;exact⟨its,n,r,e,z⟩
theorem Inv.aaP{zn:cW}{U:St}{H:aw}{s:alO}{p:Addr}{xs ys:List V}{its its':List Value}{n c:Nat}{f:Obj->Obj}(J:Inv X zn U H s)(h:H p=some (.l xs))
  (g:s.heap.get? p=some { cls:=.type "list",data:=.seq its.toArray n }) (d:f { cls:=.type "list",data:=.seq its.toArray n }={ cls:=.type "list",data:=.seq its'.toArray c }) (r:Vals ys its') (hz:ys.length<=alP) (t:Nat) :
  Inv X zn U (upd H p (.l ys)) { s with heap:=s.heap.update p f,toks:=t }:=by
 have e:(s.heap.update p f).get? p=some { cls:=.type "list",data:=.seq its'.toArray c }:=by
  rw[Heap.get?_update_self f g (by rw[d]<;>rfl),d]
 refine J.write (x:=p) (e:=p) (by rw[h];trivial) (.inl rfl) (λb u i q=>(aqg _ _ (anH i)).trans q) ⟨_,e⟩ ?_;exact⟨hz,its',c,r,e⟩
def afc:V->V->V->aw->(aw->Prop)->Prop:=λo i v H Q=>∃p xs k j,o=.ref p/\i=.int k/\H p=some (.l xs)/\lJ xs.length k=some j/\Q (upd H p (.l (xs.set j v)))
def set_list:Hq X afc:=by
 intro zn s U H o i v bK F u Q J B e A h;obtain⟨p,xs,k,j,rfl,rfl,g,z,q⟩:=h;cases B;obtain⟨t,rfl⟩:=e;obtain⟨its,n,r,d,hz⟩:=J.l g;obtain⟨c,D,m,w⟩:=NO z;have hl:=r.length;have E:=tC;have x:Inv X zn U (upd H p (.l (xs.set j v))) { s with heap:=s.heap.update p (amj (·.setIfInBounds j u)) }:=
  J.aaP g d (aa6 its n j u) (r.set A j) (by rw[amr];exact hz) s.toks
 by_cases y:0<=k
 .have f:k.toNat=j:=by
   rw[seqIndex_of y w]at c;exact amf c
  exact W.ki_setAt d y (by omega) (by rw[alS,<-hl];exact w) (by rw[f];exact⟨_,x,q⟩)
 .have f:(k+(its.toArray.size:Int)).toNat=j:=by
   rw[seqIndex_neg (by omega) m]at c;rw[alS,<-hl];exact amf c
  exact W.ki_setBack d (by omega) (by rw[alS,<-hl];exact m) (by omega) (by rw[f];exact⟨_,x,q⟩)
def Qw(lo hi:Option Int)(n:Nat):(anW lo hi none n).1=((c4.cu n 0 lo:Nat):Int)/\(anW lo hi none n).2.1=((c4.cu n n hi:Nat):Int)/\(anW lo hi none n).2.2=1:=by
 refine⟨?_,?_,rfl⟩
 .cases lo with
  |none=>simp[anW,c4.cu]|some i=>
   simp only[anW,c4.cu,Option.getD_none,show(1:Int) > 0 by decide,if_true]
   by_cases h:i<0
   .simp only[h,if_true]<;>omega
   .simp only[h,if_false]<;>omega
 .cases hi with
  |none=>simp[anW,c4.cu]|some i=>
   simp only[anW,c4.cu,Option.getD_none,show(1:Int) > 0 by decide,if_true]
   by_cases h:i<0
   .simp only[h,if_true]<;>omega
   .simp only[h,if_false]<;>omega
def afQ(its:List Value)(lo hi:Option Int):slicePick its.toArray lo hi none=((its.drop (c4.cu its.length 0 lo)).take (c4.cu its.length its.length hi-c4.cu its.length 0 lo)).toArray:=by
 obtain⟨c,d,e⟩:=Qw lo hi its.toArray.size;unfold slicePick;rw[c,d,e];simp only[sliceRange_one,pick_run,alS]<;>rfl
def afd(K:aN):V->Option Int->Option Int->aw->cE->Prop:=λx lo hi H Q=>∃a xs,x=.ref a/\dq K H a xs/\∀p,H p=none->Q (.ref p) (upd H p (.l (p3 xs lo hi)))
theorem afN:od X (afd X.K):=by
 intro zn s U H x v i j lo hi bc Q J e hs pl g h;obtain⟨a,xs,rfl,f,q⟩:=h;cases e;obtain⟨its,r,d,hz⟩:=J.list f;have c:=r.length;refine⟨"list",_,slot_list_getitem.lookup,d.isList.typeIs,?_⟩;refine wpAny_getItem_list_slice d.isList hs pl g .none (by simp) ?_ (by rw[alS]<;>omega);rw[afQ,<-c];refine⟨.ref s.heap.objs.size,_,J.laid (t':=s.toks) (o:=.l (p3 xs lo hi)) (λb a8 q=>alL _ q) (alQ _) ?_,rfl,q _ (J.cb.fresh (alQ _))⟩;exact⟨amq (J1 xs lo hi) hz,_,0,(r.drop (c4.cu xs.length 0 lo)).take (c4.cu xs.length xs.length hi-c4.cu xs.length 0 lo),alV _ rfl⟩
def ny:V->Bool
 |.aH=>true|.ax _=>true|.int _=>true|.str _=>true|_=>false
def nu:V->V->Bool
 |.aH,.aH=>true|.ax a,.ax b=>a==b|.ax a,.int b=>(if a then 1 else 0)==b|.int a,.ax b=>a==(if b then 1 else 0)|.int a,.int b=>a==b|.str a,.str b=>a==b|_,_=>false
theorem U6{s:alO}{u v:Value}(d:RelV y u)(c:RelV x v)(f:ny y=true)(e:ny x=true):SeqAt.EqAt A s u v (nu y x):=by
 cases y with
 |aH=>
  cases d
  cases x with
  |aH=>cases c;exact SeqAt.EqAt.same _
  |ax b=>cases c;exact SeqAt.EqAt.none_bool b
  |int b=>obtain⟨t,rfl⟩:=c;exact SeqAt.EqAt.none_int b t
  |str b=>obtain⟨t,rfl⟩:=c;exact SeqAt.EqAt.none_str b t
  |_=>exact absurd (show false=true from e) alR
 |ax a=>
  cases d
  cases x with
  |aH=>cases c;exact SeqAt.EqAt.bool_none a
  |ax b=>cases c;exact SeqAt.EqAt.bool_bool a b
  |int b=>obtain⟨t,rfl⟩:=c;exact SeqAt.EqAt.bool_int a b t
  |str b=>obtain⟨t,rfl⟩:=c;exact SeqAt.EqAt.bool_str a b t
  |_=>exact absurd (show false=true from e) alR
 |int a=>
  obtain⟨t',rfl⟩:=d
  cases x with
  |aH=>cases c;exact SeqAt.EqAt.int_none a t'
  |ax b=>cases c;exact SeqAt.EqAt.int_bool a t' b
  |int b=>obtain⟨t,rfl⟩:=c;exact aqy a t' b t
  |str b=>obtain⟨t,rfl⟩:=c;exact aqv a t' b t
  |_=>exact absurd (show false=true from e) alR
 |str a=>
  obtain⟨t',rfl⟩:=d
  cases x with
  |aH=>cases c;exact SeqAt.EqAt.str_none a t'
  |ax b=>cases c;exact SeqAt.EqAt.str_bool a t' b
  |int b=>obtain⟨t,rfl⟩:=c;exact aqw a t' b t
  |str b=>obtain⟨t,rfl⟩:=c;exact SeqAt.EqAt.str_str a t' b t
  |_=>exact absurd (show false=true from e) alR
 |_=>exact absurd (show false=true from f) alR
def ox(x:V)(u:Value):Bool:=match u with
 |.none=>nu .aH x|.bool b=>nu (.ax b) x|.int i _=>nu (.int i) x|.str z _=>nu (.str z) x|_=>false
theorem L9(r:RelV y u)(f:ny y=true):ox x u=nu y x:=by
 cases y with
 |aH=>cases r;rfl
 |ax b=>cases r;rfl
 |int i=>obtain⟨t,rfl⟩:=r;rfl
 |str z=>obtain⟨t,rfl⟩:=r;rfl
 |_=>exact absurd (show false=true from f) alR
theorem B4:∀{xs:List V}{us:List Value},Vals xs us->xs.all ny=true->us.any (ox x)=xs.any λy=>nu y x
 |_,_,.nil,_=>rfl|y::xs,u::us,.cons r t,f=>by
  rw[aoa,amc]at f;rw[apI,apI,L9 r f.1,B4 t f.2]
theorem Fl{s:alO}{v:Value}(d:RelV x v)(e:ny x=true):∀{xs:List V}{us:List Value},Vals xs us->xs.all ny=true->∀u∈us,SeqAt.EqAt A s u v (ox x u)
 |_,_,.nil,_=>λu c=>by cases c
 |y::xs,u::us,.cons r t,f=>λu' c=>by
  rw[aoa,amc]at f;rcases alY.mp c with rfl|c
  .rw[L9 r f.1];exact U6 r d f.1 e
  .exact Fl d e t f.2 u' c
def Es(x:V)(xs:List V):Bool:=xs.any λy=>nu y x
def P4(K:aN)(neg:Bool):fx:=λx y H Q=>∃p xs,y=.ref p/\(dq K H p xs\/dx K H p xs)/\ny x=true/\xs.all ny=true/\Q (.ax (if neg then !Es x xs else Es x xs)) H
def Pl:d0 X (amx .In) (P4 X.K false):=by
 intro zn s U H x y v u Q J d f h;obtain⟨p,xs,rfl,c,e,aS,q⟩:=h;cases f;rcases c with c|c
 .obtain⟨its,r,pl,hz⟩:=J.list c
  refine SeqAt.in_listAt (ox x) pl.isList (λw hw=>Fl d e r aS w (by simpa using hw)) ⟨.ax _,H,J,rfl,?_⟩;rw[show its.toArray.any (ox x)=its.any (ox x)by simp,B4 r aS];exact q
 .obtain⟨its,r,pl,hz⟩:=J.tuple c
  refine SeqAt.in_tupleAt (ox x) pl (λw hw=>Fl d e r aS w (by simpa using hw)) ⟨.ax _,H,J,rfl,?_⟩;rw[show its.toArray.any (ox x)=its.any (ox x)by simp,B4 r aS];exact q
def Ud:jY X (.builtin "len") (λxs H Q=>∃p ys,xs=[.ref p]/\(dq X.K H p ys\/dx X.K H p ys)/\Q (.int ys.length) H):=by
 intro zn s U H xs us Q J r h;obtain⟨p,ys,rfl,d,q⟩:=h;obtain⟨u,rfl,f⟩:=vals1 r;cases f;have g:=tC;rcases d with d|d
 .obtain⟨its,e,pl,hz⟩:=J.list d
  have c:=e.length;exact Calls.call_len_list pl.isList (by simp only[alS]<;>omega) ⟨.int ys.length,H,J.tok _,⟨s.toks+1,by rw[alS,c]⟩,q⟩
 .obtain⟨its,e,pl,hz⟩:=J.tuple d
  have c:=e.length;exact len_tuple pl (by simp only[alS]<;>omega) ⟨.int ys.length,H,J.tok _,⟨s.toks+1,by rw[alS,c]⟩,q⟩
def Ue:jY X (.builtin "len") (λxs H Q=>∃z,xs=[.str z]/\z.length<=alP/\Q (.int z.length) H):=by
 intro zn s U H xs us Q J r h;obtain⟨z,rfl,hz,q⟩:=h;obtain⟨u,rfl,t,rfl⟩:=vals1 r;have c:=tC;exact len_str (by omega) ⟨.int z.length,H,J.tok _,⟨_,rfl⟩,q⟩
theorem Ug:jY X (.type "list") (λxs H Q=>∃p ys,xs=[.ref p]/\(dq X.K H p ys\/dx X.K H p ys)/\∀l,H l=none->Q (.ref l) (upd H l (.l ys))):=by
 intro zn s U H xs us Q J r h;obtain⟨p,ys,rfl,d,q⟩:=h;obtain⟨u,rfl,k⟩:=vals1 r;cases k;have fin:∀(its:List Value),Vals ys its->ys.length<=alP->∀(h':Heap)(c':Nat),(∀b j,s.heap.get? b=some j->h'.get? b=some j)->
   h'.get? s.heap.objs.size=some { cls:=.type "list",dict:=none,data:=.seq its.toArray c',slots:=#[] }->g7 X zn U Q (.ref s.heap.objs.size) { s with heap:=h' }:=λits c hz h' c' kp e=>
  ⟨.ref s.heap.objs.size,_,J.laid (t':=s.toks) kp (alQ _) (show iO X.prog X.w _ h' _ (.l ys)from⟨hz,its,c',c,e⟩),rfl,q _ (J.cb.fresh (alQ _))⟩
 rcases d with d|d
 .obtain⟨its,c,pl,hz⟩:=J.list d
  have f:=c.length;obtain⟨o,g,i,n,hd⟩:=pl.isList;exact call_list_seq p (.inl rfl) g i hd (λh' c' kp e=>fin its c hz h' c' kp e) (by simp only[alS]<;>omega)
 .obtain⟨its,c,pl,hz⟩:=J.tuple d
  have f:=c.length;obtain⟨o,g,i,n,hd⟩:=pl;exact call_list_seq p (.inr rfl) g i hd (λh' c' kp e=>fin its c hz h' c' kp e) (by simp only[alS]<;>omega)
theorem yE:jY X (.type "tuple") (λxs H Q=>∃p ys,xs=[.ref p]/\((dq X.K H p ys/\∀l,H l=none->Q (.ref l) (upd H l (.t ys)))\/(dx X.K H p ys/\Q (.ref p) H))):=by
 intro zn s U H xs us Q J r h;obtain⟨p,ys,rfl,h⟩:=h;obtain⟨u,rfl,g⟩:=vals1 r;cases g;rcases h with⟨C,q⟩|⟨C,q⟩
 .obtain⟨its,c,pl,hz⟩:=J.list C
  have f:=c.length;refine call_tuple_list pl.isList (λh' kp=>?_) (by simp only[alS]<;>omega);have d:Inv X zn U H { s with heap:=h' }:=J.kept (t':=s.toks) kp;have i:Inv X zn U (upd H h'.objs.size (.t ys)) { s with heap:=h'.push { cls:=.type "tuple",data:=.seq its.toArray } }:=
   d.laid (t':=s.toks) (λb o e=>alL _ e) (alQ _) (show iO X.prog X.w _ _ _ (.t ys)from⟨hz,its,c,IsTup.new _ _⟩)
  exact⟨.ref h'.objs.size,_,i,rfl,q _ (d.cb.fresh (alQ _))⟩
 .obtain⟨its,c,pl,hz⟩:=J.tuple C
  exact call_tuple_same pl ⟨.ref p,H,J,rfl,q⟩
def A7(K:aN)(T:String)(x:V)(H:aw):Prop:=match x with
 |.str _=>T="str"|.int _=>T="int"|.ref p=>(T="list"/\∃xs,dq K H p xs)\/(T="tuple"/\∃o,K.lookup p=some o/\o.cls=.type "tuple"/\o.dict=none)\/
   (T="dict"/\((∃c,H p=some (.sT c))\/∃c,H p=some (.fR c)))\/(T="set"/\∃S n,H p=some (.set S n))
 |_=>False
def QS{s:alO}{v:Value}(J:Inv X zn U H s)(r:RelV x v)(ty:A7 X.K T x H) :
  s.TypeIs v T/\∀a,v=.ref a->∃a8,s.heap.get? a=some a8/\a8.dict=none:=by
 cases x with
 |str z=>
  obtain⟨t,rfl⟩:=r;cases(show T="str" from ty);exact⟨typeIs_str s z t,λ_ e=>nomatch e⟩
 |int i=>
  obtain⟨t,rfl⟩:=r;cases(show T="int" from ty);exact⟨typeIs_int s i t,λ_ e=>nomatch e⟩
 |ref p=>
  cases r;rcases ty with⟨rfl,xs,a5⟩|⟨rfl,o,C,hc,hd⟩|⟨rfl,C⟩|⟨rfl,S,n,C⟩
  .obtain⟨its,_,pl,_⟩:=J.list a5
   refine⟨pl.isList.typeIs,λa e=>?_⟩;cases e;obtain⟨o,n,e,c,hd,_⟩:=pl;exact⟨o,e,hd⟩
  .refine⟨⟨o,J.f3 p o C,hc⟩,λa e=>?_⟩
   cases e;exact⟨o,J.f3 _ o C,hd⟩
  .have z:∃o,s.heap.get? p=some o/\o.ExactDict:=by
    rcases C with⟨dm,C⟩|⟨dm,C⟩
    .obtain⟨_,_,_,_,o,_,_,e,ex,_⟩:=J.cb p _ C
     exact⟨o,e,ex⟩
    .obtain⟨_,_,_,_,o,_,_,e,ex,_⟩:=J.cb p _ C
     exact⟨o,e,ex⟩
   obtain⟨o,e,ex⟩:=z;refine⟨⟨o,e,ex.1⟩,λa aE=>?_⟩;cases aE;exact⟨o,e,ex.2.1⟩
  .obtain⟨o,_,_,_,e,ex,_⟩:=J.cb p _ C
   refine⟨⟨o,e,ex.1⟩,λa aE=>?_⟩;cases aE;exact⟨o,e,ex.2.1⟩
 |_=>exact amu ty
def agj(K:aN)(T:String)(r:V->List V->aw->cE->Prop)(to:TE):TE:=λU H Q=>to U H λx c=>A7 K T x c/\r x [] c Q
def agi(K:aN)(T:String)(r:V->List V->aw->cE->Prop)(to:TE)(t:fQ):TE:=λU H Q=>to U H λx c=>A7 K T x c/\t U c λxs d=>r x xs d Q
variable{o e:Expr}{ay:List Expr}{to:TE}{t:fQ}{name:Str}{apos dw:Pos}{T id:String}{r:V->List V->aw->cE->Prop}
def Py(f:PlainAttrs T)(slot:Slot T name id)(q:typeOf (.builtin id)=pure (.type "method_descriptor"))(m:u5 X id r)(j:b1 X o to)
  (n:ani o name X.env (eval o X.env)=eval o X.env:=by rfl) (p:(apos.endLine==dw.line)=true:=by rfl):b1 X (.Call (.Attribute o name apos) [] [] dw) (agj X.K T r to):=by
 intro zn s U H Q J h;refine wpAny_Call_method0_late n p (bW (j zn s U H _ J h) λv u i=>?_);obtain⟨x,g,d,c,ty,bq⟩:=i;obtain⟨k,l⟩:=QS d c ty;exact⟨T,id,f,slot,q,k,l,aoO rfl (PySem.evalArgs_none (m zn u U g x [] v [] Q d c .nil bq))⟩
def FR(g:PlainAttrs T)(slot:Slot T name id)(B:typeOf (.builtin id)=pure (.type "method_descriptor"))(w:u5 X id r)(l:b1 X o to)(p:gR X (e::ay) t)
  (z:ani o name X.env (eval o X.env)=eval o X.env:=by rfl)
  (D:((amg dw (alJ (e::ay) X.env)).all (λx=>!x.1)&&(ant dw (amU [] X.env)).all (λx=>x.1.isSome)
&&decide ((e::ay).length+([]:List aoK).length+(if([]:List aoK).isEmpty then 0 else 1)<30))=true:=by rfl)
  (A:(apos.endLine==dw.line)=true:=by rfl) (hs:alJ (e::ay) X.env=(false,eval e X.env)::alJ ay X.env:=by rfl) (y:(amg dw (alJ ay X.env)).any (·.1)=false:=by rfl) :
  b1 X (.Call (.Attribute o name apos) (e::ay) [] dw) (agi X.K T r to t):=by
 intro zn s U H Q J h;refine wpAny_Call_method_late z D A rfl (bW (l zn s U H _ J h) λv E k=>?_);obtain⟨x,i,d,c,ty,bq⟩:=k;obtain⟨m,n⟩:=QS d c ty;refine⟨T,id,g,slot,B,m,n,?_⟩;have f:=p dw zn E U i _ d bq;rw[hs]at f ⊢;refine aoO (by show(false||(amg dw (alJ ay X.env)).any (·.1))=false;rw[y]<;>rfl) (Calls.evalArgs_plain ?_);exact bW f λus s2 ⟨vs,j,q,u,bO⟩=>w zn s2 U j x vs v us Q q c u bO
end
def qX(X:aT)(id:String)(r:V->List V->aw->cE->Prop):Prop:=
 ∀(zn:cW)(s:alO)(U:St)(H:aw)(x:V)(xs:List V)(v:Value)(us:List Value)(Q:cE),Inv X zn U H s->RelV x v->Vals xs us->r x xs H Q->
  wpAny (model X.prog X.w) X.A (call (.builtin id) (v::us)) (g7 X zn U Q) X.dH s
def Vals.one:∀{x:V}{us:List Value},Vals [x] us->∃u,us=[u]/\RelV x u
 |_,_,.cons r .nil=>⟨_,rfl,r⟩
def Vals.zero:∀{us:List Value},Vals [] us->us=[]
 |_,.nil=>rfl
def Vals.dropLast{xs:List V}{us:List Value}(h:Vals xs us):Vals xs.dropLast us.dropLast:=by
 induction h with
 |nil=>exact .nil|cons r t a=>
  cases t with
  |nil=>exact .nil|cons q t'=>exact .cons r a
def U_{α:Type}(l:List α):l.eraseIdx (l.length-1)=l.dropLast:=by
 induction l with
 |nil=>rfl|cons a r c=>
  cases r with
  |nil=>rfl|cons b r=>
   have e:(a::b::r).length-1=((b::r).length-1)+1:=by
    have d:(a::b::r).length=r.length+2:=rfl;have f:(b::r).length=r.length+1:=rfl;omega
   rw[e,List.eraseIdx_cons_succ,c]
   all_goals rfl
section
variable{X:aT}{zn:cW}{U:St}{H:aw}{s:alO}{l:Addr}{xs ys:List V}
def Inv.wg{its its':List Value}{n:Nat}{f:Array Value->Array Value}{t':Nat}(J:Inv X zn U H s)(d:H l=some (.l xs))
  (e:s.heap.get? l=some { cls:=.type "list",data:=.seq its.toArray n }) (g:f its.toArray=its'.toArray) (b:Vals ys its') (hz:ys.length<=alP) :
  Inv X zn U (upd H l (.l ys)) { s with heap:=s.heap.update l (amj f),toks:=t' }:=by
 have q:=IsL.update e f;rw[g]at q;refine J.write (x:=l) (e:=l) (by rw[d];exact trivial) (.inl rfl) (λh u a c=>(aqg s.heap (amj f) (anH a)).trans c) ⟨_,q⟩ ?_;exact⟨hz,its',_,b,q⟩
def Inv.Ox{t':Nat}(J:Inv X zn U H s)(a:Vals ys its)(hz:ys.length<=alP) :
  Inv X zn U (upd H s.heap.objs.size (.l ys)) { s with heap:=s.heap.push { cls:=.type "list",data:=.seq its.toArray },toks:=t' }:=
 J.laid (λ_ _ q=>alL _ q) (alQ _) ⟨hz,its,0,a,alV _ rfl⟩
def Inv.fresh(J:Inv X zn U H s):H s.heap.objs.size=none:=J.cb.fresh (alQ _)
def Inv.qo(J:Inv X zn U H s)(a:H l=some (.l xs)):xs.length<=alP/\∃(its:List Value)(n:Nat),Vals xs its/\xs.length=its.length/\s.heap.get? l=some { cls:=.type "list",data:=.seq its.toArray n }:=by
 obtain⟨z,its,n,r,e⟩:=J.cb l _ a;exact⟨z,its,n,r,r.length,e⟩
def O5(h:n<=alP):anA n=false:=by
 unfold anA;exact decide_eq_false (by omega)
end
section
variable{X:aT}
def PZ:V->List V->aw->cE->Prop:=λx vs H Q=>∃l xs y,x=.ref l/\vs=[y]/\H l=some (.l xs)/\xs.length<alP/\Q .aH (upd H l (.l (xs++[y])))
def t4:qX X "list.append" PZ:=by
 intro zn s U H x vs v us Q J b c h;obtain⟨l,xs,y,rfl,rfl,a,hz,q⟩:=h;cases b;obtain⟨u,rfl,d⟩:=c.one;obtain⟨z,its,n,r,hl,e⟩:=J.qo a;refine apT F.slot_list_append ⟨_,e,rfl⟩ F.entry_list_append (F.args_list_append_2 _ _) (PySem.list_append l its.toArray n u (by rw[alS];omega)) ⟨e,?_⟩;refine⟨.aH,_,J.wg (its':=its++[u]) a e (by simp) (r.append (.cons d .nil)) ?_,rfl,q⟩;rw[alN,am0];omega
def P2:V->List V->aw->cE->Prop:=λx vs H Q=>∃l b xs a,x=.ref l/\vs=[.ref b]/\H l=some (.l xs)/\H b=some (.l a)/\xs.length+a.length<=alP/\Q .aH (upd H l (.l (xs++a)))
def abj:qX X "list.extend" P2:=by
 intro zn s U H x vs v us Q J f g h;obtain⟨l,b,xs,y,rfl,rfl,c,p,hz,q⟩:=h;cases f;obtain⟨u,rfl,j⟩:=g.one;cases j;obtain⟨z,its,n,r,hl,e⟩:=J.qo c;obtain⟨t,a,k,i,w,aE⟩:=J.qo p;have m:its.toArray.size+a.toArray.size<=alP:=by rw[alS,alS];omega
 have d:¬(!its.toArray.isEmpty&&anA (its.toArray.size+a.toArray.size))=true:=by
  rw[O5 m,Bool.and_false];exact alR
 refine apT F.slot_list_extend ⟨_,e,rfl⟩ F.entry_list_extend (F.args_list_extend_2 _ _)
  (AutoSeq1.list_extend_list_list_0 l its.toArray n b a.toArray k d (by rw[alS];omega) (by omega)) ⟨e,aE,?_⟩
 refine⟨.aH,_,J.wg (its':=its++a) c e (by simp) (r.append i) ?_,rfl,q⟩;rw[alN];omega
def afb:V->List V->aw->cE->Prop:=λx vs H Q=>∃l xs y,x=.ref l/\vs=[]/\H l=some (.l xs)/\xs[xs.length-1]? = some y/\Q y (upd H l (.l xs.dropLast))
def alb:qX X "list.pop" afb:=by
 intro zn s U H x vs v us Q J d g h;obtain⟨l,xs,y,rfl,rfl,a,f,q⟩:=h;cases d;have b:=g.zero;subst b;obtain⟨z,its,n,r,hl,e⟩:=J.qo a;obtain⟨u,i,j⟩:=r.get f;have c:its.toArray[its.toArray.size-1]? = some u:=by
  show its.toArray[its.length-1]? = some u;rw[<-aoq,<-hl];exact i
 refine apT F.slot_list_pop ⟨_,e,rfl⟩ F.entry_list_pop (F.args_list_pop_1 _) (MeetsSeq.list_pop_last l its.toArray n u c (by rw[alS];omega)) ⟨e,?_⟩;refine⟨y,_,J.wg (its':=its.dropLast) a e ?_ r.dropLast ?_,j,q⟩
 .show its.toArray.eraseIdxIfInBounds (its.toArray.size-1)=its.dropLast.toArray
  rw[alS,List.eraseIdxIfInBounds_toArray,U_]
 .rw[List.length_dropLast]
  omega
def afa:V->List V->aw->cE->Prop:=λx vs H Q=>∃l xs,x=.ref l/\vs=[]/\H l=some (.l xs)/\Q .aH (upd H l (.l []))
def abh:qX X "list.clear" afa:=by
 intro zn s U H x vs v us Q J c d h;obtain⟨l,xs,rfl,rfl,a,q⟩:=h;cases c;have b:=d.zero;subst b;obtain⟨z,its,n,r,hl,e⟩:=J.qo a;refine apT F.slot_list_clear ⟨_,e,rfl⟩ F.entry_list_clear (F.args_list_clear_1 _) (AutoSeq1.list_clear_list_0 l its.toArray n (by rw[alS];omega)) ⟨e,?_⟩;exact⟨.aH,_,J.wg (its':=[]) (ys:=[]) a e rfl .nil (amt _),rfl,q⟩
def P0:fx:=λx y H Q=>∃l b xs a,x=.ref l/\y=.ref b/\H l=some (.l xs)/\H b=some (.l a)/\xs.length+a.length<=alP/\∀p,H p=none->Q (.ref p) (upd H p (.l (xs++a)))
def adh:d0 X (anI .Add) P0:=by
 intro zn s U H x y v u Q J c d h;obtain⟨l,b,xs,t,rfl,rfl,i,j,hz,q⟩:=h;cases c;cases d;obtain⟨z,its,n,r,hl,e⟩:=J.qo i;obtain⟨m,a,k,g,p,aE⟩:=J.qo j;refine P.add_list e aE ?_ (by rw[alS,alS];omega);have f:its.toArray++a.toArray=(its++a).toArray:=by simp
 rw[f];exact⟨.ref _,_,J.Ox (t':=s.toks) (r.append g) (by rw[alN];omega),rfl,q _ J.fresh⟩
end
end aA
namespace G7
open PySem PySem.W PySem.Calls PyProof.Rows
def Zx:∀(ns:List Int)(vs:List Value),WellAll P h vs (ns.map WData.int)->anZ vs ns:=by
 intro ns
 induction ns with
 |nil=>
  intro vs w;rw[List.map_nil]at w;cases w;exact .nil
 |cons n ns c=>
  intro vs w;rw[alZ]at w
  cases w with
  |cons a b=>
   cases a;exact .cons _ _ (c _ b)
def afG{l:OpenLaw}{n:Nat}(t:l.most=some n){P:Params}{h:Heap}{args:List WData}{b:List Value}
  (j:l.row.toRowW.claim.pre args=true) (k:WellAll P h b args) :
  ∃a vs ns,b=[amI a]/\args=[WData.list (ns.map WData.int)]/\h.get? a=some { cls:=.type "list",data:=.seq vs.toArray }/\anZ vs ns/\ns.length<=n:=by
 have y:WShape.hasAll [] args [.list .int]=true:=(pre_splitW j).1;have i:l.pre.holds [] { args:=args }=true:=(pre_splitW j).2;obtain⟨d,r,rfl,p,s⟩:=hasAllW_cons y;obtain rfl:=hasAllW_nil s;obtain⟨xs,rfl,u⟩:=hasW_list p;obtain⟨ns,rfl⟩:=items_int u;have e:ns.length<=n:=by
  unfold OpenLaw.pre at i;have f:(WTm.not (.lt (.lit (.int (n:Int))) (.len (.arg 0)))).holds [] { args:=[.list (ns.map .int)] }=true:=by
   have f:=(holds_andW i).1;rw[t]at f;exact f
  have g:=condW_of f (w_not (w_lt w_lit (w_len_list (w_arg rfl))));rw[alM]at g;refine Nat.le_of_not_lt λq=>?_
  have w:(n:Int)<((ns.length:Nat):Int):=by omega
  first
   |(rw[decide_eq_true w]at g;exact absurd g (by decide))
   |(simp at g;omega)
 cases k with
 |cons z x=>
  cases x
  cases z with
  |list m c=>exact⟨_,_,ns,rfl,rfl,m,Zx ns _ c,e⟩
def aeI(l:OpenLaw)(args:List WData):l.row.toRowW.claim.post args (.bool true) args=true:=
 postW_of (r:=l.row.toRowW) (X:=(true==true))
  (show WShape.has [] (.bool true) .bool=true by first|rfl|decide|simp[WShape.has,WShape.arms,WShape.armsAll])
  (show(WTm.eq .res (.lit (.bool true))).value [] { args:=args,res:=some (.bool true),after:=args }=some (.bool (true==true))from w_eq_bool (w_res rfl) w_lit) rfl
def Sh{l:OpenLaw}{n:Nat}{q:al7}{c:List Str}{t:(Str->Option Value)->Heap->Prop}{p:World->Heap->Prop}{d:DefRec}
  (I:l.most=some n) (u:d.params.defaults=[])
  (call:∀(w:World)(gN b:alO)(mg j:bo)(fa:Addr)(o:Obj)(k cd e:Value)(a:Addr)(vs:List Value)(ns:List Int),
   Ground q c [] t w gN mg j b.heap->p w b.heap->
   b.heap.get? fa=some o->o.data=.func (docDef d.name d.params d.body d.scope k cd e)->b.heap.CodeRec cd d.name->mg d.name=some (.ref fa)->
   b.heap.get? a=some { cls:=.type "list",data:=.seq vs.toArray }->anZ vs ns->ns.length<=n->b.gens=#[]->
   aow (model l.prog w) apY (.call (.ref fa) ⟨[.ref a],[]⟩) (λr i=>r=.ok (.ret (.bool true))/\OldK b.heap i.heap/\i.os=b.os/\ao2 i.gens) b) :
  WalkO q c t p l.row.toRowW d [] (λf vs=>PySem.call f vs):=by
 intro w gN b mg j G Y fa o k cd e O dr B hd M m P A args s as Q E H y F;obtain rfl:O=.none:=Dflts.none m u;obtain rfl:dr=.none:=Dflts.noKw m;obtain⟨a,vs,ns,rfl,rfl,x,g,h⟩:=afG I Q y;refine enter_call (aoo (call w gN b mg j fa o k cd e a vs ns G Y B (fd_plain hd) M P x g h A) λr i z=>?_);obtain⟨rfl,D,K,L⟩:=z;exact⟨.inl ⟨.bool true,.bool true,[],rfl,λ_=>rfl,.bool true,aeI l _,λ_=>⟨List.Pairwise.nil,λ_ N=>(nomatch N)⟩⟩,D,K,L⟩
end G7
namespace aA
open PySem PySem.Spec PyProof.Rows
theorem QX:∀{vs:List Value}{ns:List Int},anZ vs ns->Vals (ns.map V.int) vs
 |_,_,.nil=>.nil|_,_,.cons n t h=>.cons ⟨t,rfl⟩ (QX h)
abbrev iL{K:aN}{h:Heap}(_:K.In h):aN:=K
def inClass(s:Stmt)(j:Nat):Stmt:=match s with
 |.ClassDef _ _ _ body _ _ _ _ _ _ _=>body.getD j (.Pass ⟨0,0,0,0⟩)|_=>.Pass ⟨0,0,0,0⟩
def iS(s:Stmt):aoF:=match s with
 |.FunctionDef _ a _ _ _ _ _ _ _ _=>a|_=>{ posonlyargs:=[],args:=[],vararg:=none,kwonlyargs:=[],kw_defaults:=[],kwarg:=none,defaults:=[] }
def fJ(s:Stmt):List Stmt:=match s with
 |.FunctionDef _ _ b _ _ _ _ _ _ _=>b|_=>[]
def df(s:Stmt):Scope:=match s with
 |.FunctionDef _ _ _ _ _ _ a _ _ _=>a|_=>{ kind:=.function,names:=[],isGenerator:=false,isCoroutine:=false }
abbrev ey:m2:=λ_ _ _ _ _ _=>False
abbrev i5:gw:=λ_ _ _=>False
def r9:Passes ey X i5:=λ_ _ _ _ _ _ _ h=>h.elim
structure lg(K:aN)(x qual:Str)(st:Stmt)(f:Addr)(fd:amT):Prop where
 ex:∃(cS:Value)(da:Option Addr)(dr doc pm:Value)(an:Option Addr)(bJ cx:Value)(f7:Array (Option Value)),
  fd=anF x qual (iS st) (fJ st) (df st) .none dr doc pm an bJ cx/\K.lookup f=some ⟨cS,da,.func fd,f7⟩/\apn K bJ qual=true
 kp:anJ K (.ref f)=true
section
variable{P:al7}{w:World}{K:aN}{mg:bo}{base:Heap}
def lg.ok{x qual:Str}{st:Stmt}{f:Addr}{b:amT}{N ps:List Str}{k:Nat}{sp:ej}(F:lg K x qual st f b)(S:gP N ps (df st))(len:∀vs H Q E,sp vs H Q E->vs.length=ps.length)
  (j:∀(a:Value)(A:ami)(outer:List Env)(s:alO)(H:aw)(vs:List V)(Q:cE)(E:gw),cB k (A.deeper (aop qual (df st) s.heap.objs.size f a))->sp vs H Q E->
   ∃t,ix (gU ey P w K mg base N qual (df st) f a A outer s H E).gB (fJ st) t/\t { bu:=λ_ H'=>Q .aH H',cp:=Q } (start N vs) H):e5 P w K mg base ey (k+1) f b ps sp:=by
 obtain⟨cS,m,dr,d,p,l,a,cx,n,rfl,i,e⟩:=F.ex;refine Du i e S len λA outer s H vs Q E c g=>?_
 obtain⟨t,h,q⟩:=j a A outer s H vs Q E c g;exact⟨t,h.gB,q⟩
def lg.binds{x qual:Str}{st:Stmt}{f:Addr}{e:amT}{ps:List Str}(F:lg K x qual st f e)
  (h:∀(dr a d:Value)(b:Option Addr)(c cx:Value)(us:List Value),us.length=ps.length->an0 (anF x qual (iS st) (fJ st) (df st) .none dr a d b c cx) ⟨us,[]⟩=pure (ps.zip us)):Binds K e ps []:=by
 obtain⟨cS,g,dr,a,d,b,c,cx,i,rfl,k,j⟩:=F.ex;exact .all (h dr a d b c cx)
def y2{x qual:Str}{st:Stmt}{f:Addr}{cS:Value}{g d:Option Addr}{h:Array (Option Value)}{dr a e b cx:Value}(l:K.lookup f=some ⟨cS,g,.func (anF x qual (iS st) (fJ st) (df st) .none dr a e d b cx),h⟩)
  (c:apn K b qual=true) (k:anJ K (.ref f)=true):lg K x qual st f (anF x qual (iS st) (fJ st) (df st) .none dr a e d b cx):=⟨⟨cS,g,dr,a,e,d,b,cx,h,rfl,l,c⟩,k⟩
end
def fU(h:n<=1000):n<alP:=Nat.lt_of_le_of_lt h (by decide)
def oP{A B:Prop}(h:B):if false=true then A else B:=by
 rw[if_neg alR];exact h
def oQ{A B:Prop}(h:A):if true=true then A else B:=by
 rw[if_pos rfl];exact h
end aA
set_option maxHeartbeats 4000000
namespace aA
open PySem PySem.Spec PyProof.Rows
section
variable{κ:Type}[DecidableEq κ]
def GP(a:List (κ×V))(k:κ):Option V:=(a.find? λkv=>decide (kv.1=k)).map (·.2)
end
def BM(i:Expr):Prop:=∀bK a,aqf i false bK a=operate [bK,a] (ao3 bK a)
def af8{prog:al7}{w:World}{A:ami}{E:de}{s:alO}{env:Env}{value a:Expr}{pos:Pos}{T id:String}{Q:de}
  (hl:typeLookup (.type T) "__getitem__"=pure (some (.builtin id))) (hs:BM a)
  (h:wpAny (model prog w) A (eval value env) (λo d=>wpAny (model prog w) A (eval a env) (λi b=>b.TypeIs o T/\wpAny (model prog w) A (ao3 o i) Q E b) E d) E s) :
  wpAny (model prog w) A (eval (.Subscript value a pos) env) Q E s:=by
 refine Subscript_ (amH h (λo d g=>amH g (λi b c=>?_) λ_ _ x=>x) λ_ _ x=>x);obtain⟨e,c⟩:=c;unfold subscriptTail;refine alI ?_;rw[getitemInPython_of_ne e.not_modules];refine alI (wpAny_specialOf e hl ?_);have fin:wpAny (model prog w) A (aqf a false o i) (λr f=>wpAny (model prog w) A (letTemporaryGo value o r >>= λ_=>pure r) Q E f) E b:=by
  rw[hs o i];exact wpAny_operating (amH c (λr f j=>alI (wpAny_letTemporaryGo (alT j))) λ_ _ x=>x)
 first
  |exact alT (alI fin)
  |exact alI (alT (alI fin))
  |exact alI fin
structure fX(X:aT)(o:Expr)(m:Str)(apos:Pos)(e:Expr)(dw:Pos):Prop where
 base:ani o m X.env (eval o X.env)=eval o X.env
 Vl:((amg dw (alJ [e] X.env)).all (λx=>!x.1)&&(ant dw (amU [] X.env)).all (λx=>x.1.isSome)
&&decide (([e]:List Expr).length+([]:List aoK).length+(if([]:List aoK).isEmpty then 0 else 1)<30))=true
 line:(apos.endLine==dw.line)=true
 trees:amg dw (alJ [e] X.env)=[(false,eval e X.env)]
class a4 where
 il:Addr->Prop
 ur:Addr->Str
def o8:gG->Prop
 |.f' _=>False|_=>True
def rd(c:Addr)(q:Str):Heap->Prop:=λh=>h.CodeRec (.ref c) q
def RV[a4](H:aw)(P:Addr):Prop:=∃ps:Array Value,H P=some (.f' ps)/\aqa ps.toList/\∀pos a,ao4 pos ps.toList=some a->∃c,a=.ref c/\H c=some (.ext (rd c (a4.ur P)))
def TabsOk[a4](H:aw):Prop:=∀P,a4.il P->RV H P
structure ez[a4](H H':aw):Prop where
 at':∀b o,H b=some o->(h:o8 o:=by exact trivial)->H' b=some o
 cJ:∀b ps,H b=some (.f' ps)->∃lN,H' b=some (.f' lN)
 bY:TabsOk H->TabsOk H'
variable[a4]
def abq(o:gG):o8 o\/∃ps,o=.f' ps:=by cases o<;>first|exact .inl trivial|exact .inr ⟨_,rfl⟩
def ez.refl(H:aw):ez H H:=⟨λ_ _ h _=>h,λ_ ps h=>⟨ps,h⟩,id⟩
def ez.trans(a:ez H H1)(b:ez H1 C):ez H C:=
 ⟨λc o h n=>b.at' c o (a.at' c o h n) n,λc ps h=>let⟨p1,av⟩:=a.cJ c ps h;b.cJ c p1 av,λg=>b.bY (a.bY g)⟩
def ez.some{H H':aw}(s:ez H H')(h:H b≠none):H' b≠none:=by
 cases e:H b with
 |none=>exact absurd e h|some o=>
  rcases abq o with n|⟨ps,rfl⟩
  .rw[s.at' b o e n];intro z;cases z
  .obtain⟨p,q⟩:=s.cJ b ps e;rw[q];intro z;cases z
def ez.free{H H':aw}(e:ez H H')(h:H' l=Option.none):H l=Option.none:=by
 cases q:H l with
 |none=>rfl| some o=>exact absurd h (e.some (by rw[q];intro z;cases z))
def ez.seq{K:aN}{H H':aw}{a:Addr}{xs:List V}(e:ez H H')(h:dq K H a xs):dq K H' a xs:=by
 rcases h with(h|⟨o,h⟩)|h
 .exact .inl (.inl (e.at' _ _ h))
 .exact .inl (.inr ⟨o,e.at' _ _ h⟩)
 .exact .inr h
def TabsOk.put{H:aw}(g:TabsOk H)(o:gG)(a:∀ps,H p≠some (.f' ps))(b:∀q,H p≠some (.ext (rd p q))):TabsOk (upd H p o):=λP d=>by
 obtain⟨ps,e,t,c⟩:=g P d;refine⟨ps,by rw[c1 (by rintro rfl;exact a _ e)];exact e,t,λpos h f=>?_⟩;obtain⟨c',av,aE⟩:=c pos h f;exact⟨c',av,by rw[c1 (by rintro rfl;exact b _ aE)];exact aE⟩
def TabsOk.new{H:aw}(g:TabsOk H)(h:H p=none)(o:gG):TabsOk (upd H p o):=g.put o (λps=>by rw[h];intro z;cases z) (λa=>by rw[h];intro z;cases z)
def TabsOk.l{H:aw}{p:Addr}{a:List V}(g:TabsOk H)(h:H p=some (.l a))(o:gG):TabsOk (upd H p o):=g.put o (λps=>by rw[h];intro z;cases z) (λb=>by rw[h];intro z;cases z)
def uA{H:aw}(h:H p=none)(o:gG):ez H (upd H p o):=
 ⟨λb u q _=>by rw[c1 (kV q h)];exact q,λb ps q=>⟨ps,by rw[c1 (kV q h)];exact q⟩,λg=>g.new h o⟩
def uN{a H:aw}{D:Addr}(c:a D=none)(s:ez a H)(hl:H D=some (.l zs))(o:gG):ez a (upd H D o):=
 ⟨λb u q n=>by rw[c1 (kV q c)];exact s.at' b u q n,λb ps q=>by rw[c1 (kV q c)];exact s.cJ b ps q,λg=>(s.bY g).l hl o⟩
end aA
namespace aA
open PySem
def oq(env:Env):List (Str×aoh)->List (Str×Addr)->List (Str×Addr)
 |[],acc=>acc|(n,k)::r,acc=>if(k==aou)=true then oq env r ((n,(env.cells.lookup n).getD 0)::acc)else oq env r acc
abbrev nr(scope:Scope)(env:Env):List (Str×Addr):=oq env scope.names []
def JP{scope:Scope}{env:Env}(h:∀y∈scope.names,y.2=.free->∃c,env.cells.lookup y.1=some c):aoe scope env=pure (nr scope env):=by
 unfold aoe nr;generalize scope.names=ns at h;generalize([]:List (Str×Addr))=acc;show(forIn ns acc _ >>= _)=_
 induction ns generalizing acc with
 |nil=>rfl|cons y r e=>
  obtain⟨n,k⟩:=y;rw[aqb];have b:=λacc=>e (λy f=>h y (alW _ f)) acc
  by_cases a:(k==aou)=true
  .have g:k=.free:=by simpa using a
   obtain⟨c,d⟩:=h (n,k) al2 g;have av:cellOf env n=pure c:=by unfold cellOf;rw[d]
   simp only[a,if_true,av,pure_bind,oq,d,Option.getD_some];exact b _
  .simp only[a,oq]
   exact b _
theorem CQ{env:Env}:∀{ns:List (Str×aoh)}{acc:List (Str×Addr)}{p:Str×Addr},p∈oq env ns acc->p∈acc\/∃k,(p.1,k)∈ns/\k=aou/\p.2=(env.cells.lookup p.1).getD 0
 |[],_,_,h=>.inl h|(n,k)::r,acc,p,h=>by
  unfold oq at h;split at h
  .rename_i c
   rcases CQ h with h|⟨o,a,b⟩
   .rcases alY.mp h with rfl|h
    .exact .inr ⟨k,al2,by simpa using c,rfl⟩
    .exact .inl h
   .exact .inr ⟨o,alW _ a,b⟩
  .rcases CQ h with h|⟨o,a,b⟩
   .exact .inl h
   .exact .inr ⟨o,alW _ a,b⟩
theorem CP:∀{ns:List (Str×aoh)}{acc:List (Str×Addr)}{y:Str},((y,aou)∈ns\/∃c,(y,c)∈acc)->∃c,(y,c)∈oq env ns acc
 |[],_,_,h=>by
  rcases h with h|h
  .cases h
  .exact h
 |(n,k)::r,acc,y,h=>by
  unfold oq;split
  .refine CP ?_
   rcases h with h|⟨c,h⟩
   .rcases alY.mp h with e|h
    .cases e;exact .inr ⟨_,al2⟩
    .exact .inl h
   .exact .inr ⟨c,alW _ h⟩
  .rename_i a
   refine CP ?_;rcases h with h|h
   .rcases alY.mp h with e|h
    .cases e;exact absurd rfl a
    .exact .inl h
   .exact .inr h
theorem Oz{α:Type}{y:Str}{c:α}:∀{l:List (Str×α)},(y,c)∈l->∃c',l.lookup y=some c'
 |(n,k)::r,h=>by
  by_cases e:(y==n)=true
  .exact⟨k,by rw[al0,e]⟩
  .have a:(y==n)=false:=by simpa using e
   rcases alY.mp h with z|z
   .cases z;simp at e
   .obtain⟨c',q⟩:=Oz z
    exact⟨c',by rw[al0,a];exact q⟩
def Us{scope:Scope}{env:Env}(h:∀y∈scope.names,y.2=.free->∃c,env.cells.lookup y.1=some c)(e:(nr scope env).lookup y=some c):env.cells.lookup y=some c:=by
 rcases CQ (anc e)with z|⟨k,a,b,d⟩
 .cases z
 .obtain⟨c',q⟩:=h _ a b
  have d':c=(env.cells.lookup y).getD 0:=d;have f:env.cells.lookup y=some c':=q;rw[f]at d' ⊢;exact congrArg some d'.symm
def JN{scope:Scope}(h:scope.names.lookup y=some .free):∃c,(nr scope env).lookup y=some c:=by
 obtain⟨c,q⟩:=CP (env:=env) (acc:=[]) (.inl (anc h));exact Oz q
theorem OI{g:Str×aoh->Str×aoh}{y:Str}(c:∀p,(g p).1=p.1)(d:∀p,p.2≠.cell->(g p).2=.cell\/(g p).2=.free->p.2=.free) :
  ∀{ns:List (Str×aoh)},(∀z∈ns,z.2≠apJ)->((ns.map g).lookup y=some .cell\/(ns.map g).lookup y=some .free)->ns.lookup y=some .free
 | [],_,h=>by simp at h|p::r,hc,h=>by
  rw[alZ]at h;have f:=OI (g:=g) (y:=y) c d (ns:=r) λz hz=>hc z (alW _ hz)
  have b:=hc p al2;have bq:=c p;have bO:=d p b;generalize g p=q at h bq bO;obtain⟨kk,a⟩:=q;obtain⟨n,k⟩:=p;have bq:kk=n:=bq;subst bq;have bO:a=.cell\/a=.free->k=.free:=bO;rw[al0]at h ⊢
  cases e:(y==kk)with
  |true=>
   rw[e]at h;have h':some a=some apJ\/some a=some aou:=h;exact congrArg some (bO (h'.imp amf amf))
  |false=>
   rw[e]at h;exact f h
def afi{scope:Scope}(c:∀z∈scope.names,z.2≠apJ)(h:(relabel scope env).names.lookup y=some .cell\/(relabel scope env).names.lookup y=some .free):scope.names.lookup y=some .free:=by
 refine OI (λp=>?_) (λp a q=>?_) c h
 .obtain⟨n,k⟩:=p
  dsimp only;split<;>rfl
 .obtain⟨n,k⟩:=p
  dsimp only at q a ⊢;split at q
  .rename_i b
   have:=(amc _ _▸(amc _ _▸b).1).1;simpa using this
  .exact q.elim (λz=>absurd z a) id
end aA
namespace aA
open PySem PySem.Spec PyProof.Rows
def cO(X:aT)(scope:Scope)(N:List Str)(C:Addr)(a:List Addr)(s:alO)(H:aw):aT where
 prog:=X.prog
 w:=X.w
 K:=X.K
 mg:=X.mg
 base:=X.base
 A:=X.A
 N:=N
 gN:=s
 H₀:=H
 env:=compEnvC scope (nr scope X.env) C X.env
 outer:=X.stack
 stack:=X.stack
 ex:=a
 fn:=λ_=>false
 calm:=X.calm
 nX:=[]
 dH:=λ_ _=>False
structure la(esc scope:Scope)(EN N:List Str)(n:Nat)(cap:List Nat):Prop where
 kind:scope.kind=.function
 cell:∀y∈scope.names,y.2≠.cell
 loc:∀y∈scope.names,y.2=.local->scope.names.lookup y.1=some .local
 free:∀y∈scope.names,y.2=.free->esc.names.lookup y.1=some .cell\/esc.names.lookup y.1=some .free
 fC:N.Nodup
 len:N.length=n+cap.length
 Uk:∀j<cap.length,N[n+j]? = EN[cap.getD j 0]?/\∀x,N[n+j]? = some x->scope.names.lookup x=some .free
def fZ(n:Nat)(cap:List Nat)(U:St):St:=amm n none++cap.map λk=>(U[k]?).join
def Uy{cap:List Nat}:(fZ n cap U).length=n+cap.length:=by
 unfold fZ;rw[alN,amG,alM]
def Ux{cap:List Nat}{U:St}{v:V}(h:(fZ n cap U)[i]? = some (some v)):∃j,i=n+j/\j<cap.length/\U[cap.getD j 0]? = some (some v):=by
 unfold fZ at h
 by_cases hi:i<n
 .rw[al8 (by simpa using hi),ank,if_pos hi]at h
  cases h
 .rw[al6 (by simpa using hi),amG,al4]at h
  cases e:cap[i-n]? with
  |none=>rw[e]at h;cases h
  |some k=>
   rw[e]at h;have hl:i-n<cap.length:=(alK.mp e).1;refine⟨i-n,by omega,hl,?_⟩;have h':(U[k]?).join=some v:=amf h;rw[amC,e,Option.getD_some]
   cases q:U[k]? with
   |none=>rw[q]at h';cases h'
   |some z=>rw[q]at h';exact congrArg some h'
section
variable{X:aT}{scope esc:Scope}{EN N:List Str}{n:Nat}{cap:List Nat}{zn:cW}{U:St}{H:aw}{s:alO}{aR:List Addr}
def Zz{h':Heap}{tk:Nat}{m:bo}(S:la esc scope EN N n cap)(he:X.env.scope=esc)(hN:X.N=EN)(J:Inv X zn U H s)(g:∀b∈aR,gQ X zn H b)(L:∀b∈aR,∃o,s.heap.get? b=some o)
  (W:h'.Ns s.heap.objs.size m) (k:∀b o,s.heap.get? b=some o->h'.get? b=some o) :
  Inv (cO X scope N s.heap.objs.size aR s H) [] (fZ n cap U) H { s with heap:=h',toks:=tk }:=by
 have V:∀y∈scope.names,y.2=.free->∃c,X.env.cells.lookup y.1=some c:=λy A Q=>by
  refine J.ok.has y.1 ?_;show X.env.scope.names.lookup y.1=_\/X.env.scope.names.lookup y.1=_;rw[he];exact S.free y A Q
 have up:∀{y:Str}{c:Addr},(nr scope X.env).lookup y=some c->X.env.cells.lookup y=some c:=λ{y c} e=>Us V e
 have G:∀y,(cO X scope N s.heap.objs.size aR s H).env.kindOf y=some .cell\/(cO X scope N s.heap.objs.size aR s H).env.kindOf y=some .free->scope.names.lookup y=some .free:=λy h=>afi S.cell h
 have a:∀c v,s.heap.IsCell c v->h'.IsCell c v:=λc v ⟨o,e,d⟩=>⟨o,k c o e,d⟩
 refine⟨⟨J.ok.mod,S.kind,J.ok.glob,J.ok.blt,alQ _,λx y c M O=>J.ok.inj x y c (up M) (up O),λy A=>JN (G y A),λ_ _ z=>absurd z alR,J.ok.hd,J.ok.frames,.inl rfl,λb f=>⟨?_,λx c e=>(g b f).2.2.2.2.1 x c (up e)⟩,J.bs,amq J.ok.mh J.pn,λb o e f=>?_,λb f hz=>?_,J.stack,J.QB⟩,
  rfl,J.bare,gH.kept k,⟨m,W,λi x v av aE cX=>?_⟩,λx c e=>?_,J.cb.fresh (alQ _),λx c e=>J.mj x c (up e),λp K=>absurd (show p∈([]:cW)from K) (by simp),J.cb.kept k,?_⟩
 .obtain⟨o,e⟩:=L b f
  exact amo (alX e)
 .rcases(g b f).2.2.2.1 with z|z
  .exact J.ok.w0 b o e z
  .exact absurd (amn (alX e) (amq J.ok.mh z)) (amF _)
 .rcases alY.mp (J.Gw b hz)with z|z
  .exact(g b f).2.1 z
  .exact(g b f).2.2.1 z
 .obtain⟨j,rfl,I,eZ⟩:=Ux aE
  obtain⟨bf,ae⟩:=S.Uk j I;have av:N[n+j]? = some x:=av;have t:=ae x av;rw[av,<-hN]at bf;obtain⟨c,D⟩:=JN (env:=X.env) t;obtain⟨Y,P,hl⟩:=J.loc;have F:X.env.scope.names.lookup x=some .cell\/X.env.scope.names.lookup x=some .free:=by
   rw[he];exact S.free (x,.free) (anc t) rfl
  obtain⟨u,r,l⟩:=hl _ x v bf.symm eZ (F.elim (λz=>.inr (.inl z)) λz=>.inr (.inr z));refine⟨u,r,.inr ⟨?_,c,D,?_⟩⟩
  .rcases cX with z|z|z
   .exfalso
    have R:(relabel scope X.env).names.lookup x=some .local:=z;have hz:∀ns:List (Str×aoh),ns.lookup x=some .free->(ns.map λ(n,k)=>if(k==aou&&X.env.scope.kind==.function&&X.env.kindOf n==some .cell)then(n,apJ)else(n,k)).lookup x≠some .local:=by
     intro ns
     induction ns with
     |nil=>intro h;simp at h|cons p r B=>
      obtain⟨nX,T⟩:=p;intro h;rw[alZ];rw[al0]at h
      cases q:(x==nX)with
      |true=>
       rw[q]at h;have h':T=.free:=amf h;subst h';dsimp only;split
       .rw[al0,q];intro w;cases w
       .rw[al0,q];intro w;cases w
      |false=>
       rw[q]at h;dsimp only;split
       .rw[al0,q];exact B h
       .rw[al0,q];exact B h
    exact hz _ t R
   .exact .inl z
   .exact .inr z
  .rcases l with⟨q,_⟩|⟨_,c',lB,z⟩
   .exfalso
    have E:X.env.scope.names.lookup x=some .local:=q;rcases F with w|w<;>rw[w]at E<;>cases E
   .rw[up D]at lB
    cases lB;exact a c _ z
 .obtain⟨v,z⟩:=J.cell x c (up e)
  exact⟨v,a c v z⟩
 .show(fZ n cap U).length=N.length
  rw[Uy,S.len]
def Zy{N:List Str}(J:Inv X zn U H s)(d:∀b∈aR,gQ X zn H b)(c:Inv (cO X scope N C aR s H) ali U' H' o):Inv X zn U H' o:=
 J.T9 c.os c.base c.cb c.bare λb a=>⟨(d b a).2.2.2.1,(d b a).2.1,(d b a).2.2.2.2.1,(d b a).2.2.2.2.2⟩
end
section
variable{X:aT}
def sG(X:aT)(a:List Expr)(t:TT):Prop:=
 ∀(zn:cW)(s:alO)(U:St)(H:aw)(Q:Bool->aw->Prop),Inv X zn U H s->t U H Q->
  wpAny (model X.prog X.w) X.A (forIn a true λc r=>if r=true then do let ok <-isTrue c X.env (eval c X.env);pure (apa ok)else pure (apa r)) (BS X zn U Q) X.dH s
def GD:TT:=λ_ H Q=>Q true H
def PF:sG X [] GD:=λ_ _ _ H _ J h=>wpAny_tests_nil ⟨H,J,h⟩
def aes(h:iy X c t):sG X [c] t:=λzn s U H Q J a=>wpAny_tests_one (h zn s U H Q J a)
end
section
variable{prog:al7}{w:World}{A:ami}{R:Result->alO->Prop}{s:alO}
def Ut{d a b:Expr}{e:List Expr}{scope:Scope}{pos:Pos}{it acc:Value}{env:Env}(J:Nat->alO->Prop)
  (turn:∀n s,J n s->wpAny (model prog w) A (aoD it) (λr f=>match r with
   |none=>R (.ok .next) f| some v=>wpAny (model prog w) A (ao8 a it v) (λ_ j=>wpAny (model prog w) A (aoc a env v) (λ_ p=>
     wpAny (model prog w) A (forIn e true λc r=>if r=true then do let ok <-isTrue c env (eval c env);pure (apa ok)else pure (apa r)) (λok g=>
      if ok=true then wpAny (model prog w) A (eval d env) (λx i=>
       wpAny (model prog w) A (call (.builtin "list.append") [acc,x]) (λ_ k=>∃m,m<n/\J m k) (λ_ _=>False) i) (λ_ _=>False) g
      else ∃m,m<n/\J m g) (λ_ _=>False) p) (λ_ _=>False) j) (λ_ _=>False) f) (λ_ _=>False) s)
  (n:Nat) (h:J n s) :
  aow (model prog w) A (.compLoop (.ListComp d [⟨a,b,e,0⟩] scope pos) 0 it acc env) R s:=by
 refine codeAny_loop rfl J (λn s u=>?_) n h;show wpAny _ A ((compTurn (.ListComp d [⟨a,b,e,0⟩] scope pos) 0 it acc env).onRaise (λx=>do noteFrame x env;theTreesLotGoes x)) _ _ s;refine wpAny_noted ?_;rw[compTurn_list];refine alI (aoU (alI (amH (turn n s u) (λr f l=>?_) λ_ _ h'=>h'.elim)))
 cases r with
 |none=>exact alT l|some v=>
  refine alI (amH l (λ_ j t=>?_) λ_ _ h'=>h'.elim);refine alI (amH t (λ_ p z=>alI (amH z (λok g q=>?_) λ_ _ h'=>h'.elim)) λ_ _ h'=>h'.elim)
  cases ok with
  |false=>exact alT ⟨rfl,q⟩|true=>
   exact alI (alI (amH q (λx i B=>alI (amH B (λ_ k y=>alT (alT ⟨rfl,y⟩)) λ_ _ h'=>h'.elim)) λ_ _ h'=>h'.elim))
end
def m5(U a:St):Prop:=U.length=a.length/\∀(i:Nat) v,U[i]? = some (some v)->a[i]? = some (some v)
def m5.refl(U:St):m5 U U:=⟨rfl,λ_ _ h=>h⟩
def m5.set{U b:St}(h:m5 U b)(c:U[i]? = some none):m5 U (b.set i (some x)):=by
 refine⟨by rw[amr];exact h.1,λj v e=>?_⟩
 by_cases a:i=j
 .subst a;rw[c]at e;cases e
 .rw[alU a];exact h.2 j v e
def CU(d:iv)(U':St)(g:iP)(tt:TT)(te:TE)(D:Addr)(h:aw)(Q:cE):Prop:=
  ∃W:Nat->Nat->List V->aw->Prop,(∃m,W 0 m [] (upd h D (.l [])))/\∀i m ys H,W i m ys H->
   ((d.stop i H/\Q (.ref D) H)\/(d.go i H/\∀x H',d.pK i H x H'->g x U' H' λc j=>m5 U' c/\tt c j λb e=>
       if b=true then te c e λy f=>f D=some (.l ys)/\ys.length<alP/\∃a,a<m/\W (i+1) a (ys++[y]) (upd f D (.l (ys++[y])))else ∃a,a<m/\W (i+1) a ys e))
def uG(n:Nat)(cap:List Nat)(wi:TI)(g:iP)(tt:TT)(te:TE):TE:=λU H Q=>wi U H λb a=>∀D,a D=none->CU b (fZ n cap U) g tt te D a Q
section
variable{X:aT}{scope esc:Scope}{EN N:List Str}{n:Nat}{cap:List Nat}{zn:cW}{U:St}{s:alO}{elt cf iter:Expr}{ifs:List Expr}{pos:Pos}{g:iP}{tt:TT}{te:TE}
def JX{E:de}{H:aw}{ct:iv}{a:List Addr}{it:Addr}{eT:Nat->Heap->Prop}{Q:cE}{yf:Value->Addr->Result->alO->Prop}(S:la esc scope EN N n cap)(he:X.env.scope=esc)(hN:X.N=EN)(hc:X.calm=true)
  (aQ:∀C a s H,ob (cO X scope N C a s H) cf g) (bB:∀C a s H,sG (cO X scope N C a s H) ifs tt) (ia:∀C a s H,b1 (cO X scope N C a s H) elt te)
  (J:Inv X zn U H s) (T:Turn X.prog X.w X.K cf ct a it eT) (st:eT 0 s.heap) (hf:∀b∈a,gQ X zn H b) (a5:∀D,H D=none->CU ct (fZ n cap U) g tt te D H Q)
  (Wq:∀D C H' f m,Inv X zn U H' f->gQ X zn H' C->f.heap.Ns C m->Q (.ref D) H'->yf (.ref D) C (.ok .next) f) :
  wpAny (model X.prog X.w) X.A (newList []) (λacc j=>wpAny (model X.prog X.w) X.A (newFunctionEnv scope X.env.globals (nr scope X.env) [] X.env.qual none .none (some X.env)) (λJL AS=>
   aow (model X.prog X.w) X.A (.compStart (.ListComp elt [⟨cf,iter,ifs,0⟩] scope pos) 0 (.ref it) acc { JL with scope:=relabel scope X.env }) (yf acc JL.locals) AS) E j) E s:=by
 refine anD (wpAny_newFunctionEnv S.cell (by intro y aX;simp at aX) (λG L O=>?_) S.kind);have B:=J.Ox (t':=s.toks) (ys:=[]) (its:=[]) .nil (amt _);have gX:H s.heap.objs.size=none:=J.fresh;obtain⟨W,⟨m0,uP⟩,turn⟩:=a5 _ gX;generalize qd:({ s with heap:=s.heap.push { cls:=.type "list",data:=.seq ([]:List Value).toArray },toks:=s.toks }:alO)=s3 at B;have v_:∀b o,s.heap.get? b=some o->s3.heap.get? b=some o:=λb o e=>by rw[<-qd];exact alL _ e
 have akX:({ s with heap:=s.heap.push { cls:=.type "list",data:=.seq ([]:List Value).toArray } }:alO)=s3:=qd;have cD:s.heap.push { cls:=.type "list",data:=.seq ([]:List Value).toArray }=s3.heap:=by rw[<-qd]
 dsimp only at L O ⊢
 try rw[cD]at L
 try rw[cD]at O
 have M:∀b∈a,gQ X zn (upd H s.heap.objs.size (.l [])) b:=λb c=>by
  refine⟨?_,(hf b c).2⟩;obtain⟨o,e,_⟩:=T.obj _ _ st b c;rw[c1 (amo (alX e))];exact(hf b c).1
 have tr:∀b o,s3.heap.get? b=some o->G.get? b=some o:=λb o e=>O.extBut b o (amo (alX e)) (alL _ e)
 have a8:∀b∈a,∃o,s3.heap.get? b=some o:=λb c=>by
  obtain⟨o,e,_⟩:=T.obj _ _ st b c;exact⟨o,v_ b o e⟩
 have j0:=Zz (tk:=s3.toks) S he hN B M a8 L tr;have uC:eT 0 G:=T.keep _ _ _ st λb _ o e=>tr b o (v_ b o e)
 have Wi:s3.heap.objs.size<=s3.heap.objs.size:=alQ _;have h:∀j:alO,j.heap=G->Inv (cO X scope N s3.heap.objs.size a s3 (upd H s.heap.objs.size (.l []))) [] (fZ n cap U) (upd H s.heap.objs.size (.l [])) j->
   aow (model X.prog X.w) X.A (.compLoop (.ListComp elt [⟨cf,iter,ifs,0⟩] scope pos) 0 (.ref it) (.ref s.heap.objs.size) (compEnvC scope (nr scope X.env) s3.heap.objs.size X.env)) (yf (.ref s.heap.objs.size) s3.heap.objs.size) j:=by
  intro j Vf I;have sf:∀{H':aw},(∀b∈a,H' b=none)->∀b∈a,gQ (cO X scope N s3.heap.objs.size a s3 (upd H s.heap.objs.size (.l []))) [] H' b:=λ{H'} az b c=>
   ⟨az b c,(I.ok.yS b c).1,I.ok.vx b c,.inl c,(I.ok.yS b c).2,λp aM=>absurd (show p∈([]:cW)from aM) (by simp)⟩
  refine Ut (λk f=>∃i ys H',Inv (cO X scope N s3.heap.objs.size a s3 (upd H s.heap.objs.size (.l []))) [] (fZ n cap U) H' f/\eT i f.heap/\(∀b∈a,H' b=none)/\W i k ys H') ?_ m0
   ⟨0,[],_,I,by rw[Vf];exact uC,λb c=>(M b c).1,uP⟩
  rintro k s5 ⟨i,ys,F,sA,uD,y0,Z⟩;rcases turn i k ys F Z with⟨stop,q⟩|⟨go,step⟩
  .refine bW (T.done (cO X scope N s3.heap.objs.size a s3 (upd H s.heap.objs.size (.l []))) rfl rfl rfl hc i [] s5 _ F _ sA (sf y0) uD stop) λr gq ⟨R,u4⟩=>?_
   subst R;obtain⟨m,az,_⟩:=u4.loc;exact Wq _ _ F gq m (Zy B M u4) (B.ry Wi u4.free) az q
  .refine bW (T.item (cO X scope N s3.heap.objs.size a s3 (upd H s.heap.objs.size (.l []))) rfl rfl rfl hc i [] s5 _ F (λ_ _=>False) sA (sf y0) uD go) λr gq ⟨u,R,gj⟩=>?_
   subst R;refine bW gj λ_ nZ ⟨x,i6,kq,F8,Bt,P,VE⟩=>?_
   have RH:=kq.pinned (sf VE) (T.obj _ _ P);refine bW (aQ _ _ _ _ _ nZ _ i6 x u _ RH F8 (step x i6 Bt)) λ_ jn ⟨t,x5,RI,yV,V⟩=>?_
   refine bW (bB _ _ _ _ _ jn t x5 _ RI V) λb iG ⟨u3,Hi,PW⟩=>?_
   have back:∀{H':aw}{f:alO},Inv (cO X scope N s3.heap.objs.size a s3 (upd H s.heap.objs.size (.l []))) ([]++sa a nZ.heap) t H' f->
     Inv (cO X scope N s3.heap.objs.size a s3 (upd H s.heap.objs.size (.l []))) [] (fZ n cap U) H' f/\eT (i+1) f.heap/\∀b∈a,H' b=none:=λ{H' f} eO=>by
    refine⟨eO.xH.weak yV.1 yV.2,T.keep _ _ _ P λb c o e=>(eO.pin (b,o) (amD _ (amD _ (Aa c e)))).1,λb c=>?_⟩;obtain⟨o,e,d⟩:=T.obj _ _ P b c;exact(eO.pin (b,o) (amD _ (amD _ (Aa c e)))).2.1
   cases b with
   |false=>
    obtain⟨gp,hm,er⟩:=PW;obtain⟨b6,cw,g8⟩:=back Hi;exact⟨gp,hm,i+1,ys,u3,b6,cw,g8,er⟩
   |true=>
    refine bW (ia _ _ _ _ _ iG t u3 _ Hi PW) λv jm ⟨y,Hf,RE,Y,Wk,hz,gp,hm,er⟩=>?_
    refine bW (t4 _ jm t Hf (.ref s.heap.objs.size) [y] (.ref s.heap.objs.size) [v] (λz H'=>z=.aH/\H'=upd Hf s.heap.objs.size (.l (ys++[y]))) RE rfl (.cons Y .nil) ⟨_,ys,y,rfl,rfl,Wk,hz,rfl,rfl⟩) λz qE ⟨aii,aiU,RF,_,_,sV⟩=>?_
    subst sV;obtain⟨b6,cw,g8⟩:=back RF;exact⟨gp,hm,i+1,ys++[y],_,b6,cw,g8,er⟩
 have Hh:Inv (cO X scope N s3.heap.objs.size a s3 (upd H s.heap.objs.size (.l []))) [] (fZ n cap U) (upd H s.heap.objs.size (.l [])) { heap:=G,gens:=s3.gens,drawn:=s3.drawn,toks:=s3.toks+([]:List (Str×Value)).length,os:=s3.os }:=j0;exact codeAny_compStart_list (h _ rfl Hh) (T.self _ 0 _ _ _ uC (h _ rfl Hh))
theorem FT(S:la esc scope EN N n cap){wi:TI}(hi:j1 X cf iter wi)(j:∀C a s H,ob (cO X scope N C a s H) cf g)(z:∀C a s H,sG (cO X scope N C a s H) ifs tt)(F:∀C a s H,b1 (cO X scope N C a s H) elt te)
  (he:X.env.scope=esc:=by rfl) (hN:X.N=EN:=by rfl) (E:X.calm=true:=by rfl) (hs:∀x,amM iter X.env x=pure x:=by intro _;rfl):b1 X (.ListComp elt [⟨cf,iter,ifs,0⟩] scope pos) (uG n cap wi g tt te):=by
 intro zn s U H Q J h;rw[eval_ListComp];have d:aoe scope X.env=pure (nr scope X.env):=JP λy k t=>J.ok.has y.1 (by
  show X.env.scope.names.lookup y.1=_\/X.env.scope.names.lookup y.1=_;rw[he];exact S.free y k t)
 refine wpAny_comprehension_free (use:=none) rfl hs d S.kind S.loc (bW (hi zn s U H _ J h) λv L p=>bW p λM s2 r=>?_);obtain⟨it,a,eT,K,I,e,w,T,bF,B,i⟩:=r;subst e;refine JX S he hN E j z F w T bF B i λD C H' f m A c u q=>?_
 exact⟨m,u,λh' G=>⟨.ref D,H',A.turned (t':=f.toks) (λb o l e=>G.extBut b o l e) c.1 c.2.1 c.2.2.2.1 c.2.2.2.2.1 c.2.2.2.2.2,rfl,q⟩⟩
theorem aeL{i:Nat}{y:Str}{py p:Pos}(S:la esc scope EN N n cap){wi:TI}(rE:X.N.Nodup)(Z:X.N[i]? = some y)(f:X.env.scope.names.lookup y=some .local)(hi:j1 X cf iter wi)(E:∀C d s H,ob (cO X scope N C d s H) cf g)(P:∀C d s H,sG (cO X scope N C d s H) ifs tt)(Y:∀C d s H,b1 (cO X scope N C d s H) elt te)
  (he:X.env.scope=esc:=by rfl) (hN:X.N=EN:=by rfl) (W:X.calm=true:=by rfl) (hs:∀x,amM iter X.env x=pure x:=by intro _;rfl)
  (kP:anm (.ListComp elt [⟨cf,iter,ifs,0⟩] scope pos) (some (.Name y py)) p.line X.env=pure true:=by rfl) :
  iw X (.Assign [.Name y py] (.ListComp elt [⟨cf,iter,ifs,0⟩] scope pos) p) (uF (uG n cap wi g tt te) (kF i)):=by
 intro zn s U H D J h;have r:aoe scope X.env=pure (nr scope X.env):=JP λy f L=>J.ok.has y.1 (by
  show X.env.scope.names.lookup y.1=_\/X.env.scope.names.lookup y.1=_;rw[he];exact S.free y f L)
 rw[exec_Assign_Name_used _ _ _ _ kP];refine alI (aoU (alI ?_));show wpAny _ X.A (do let _ <-comprehension (.ListComp elt [⟨cf,iter,ifs,0⟩] scope pos) scope X.env _ (newList []) false (eval iter X.env) (some (aoc (.Name y py) X.env))) _ _ s;refine alI (amH (wpAny_comprehension_free (use:=some (aoc (.Name y py) X.env)) (Q:=λ_ j=>sL X zn D .next j) rfl hs r S.kind S.loc
  (bW (hi zn s U H _ J h) λv s1 G=>bW G λzy s2 I=>?_)) (λ_ j k=>alT (alT k)) λ_ _ e=>e)
 obtain⟨it,d,eT,ct,aI,e,O,T,bF,V,k⟩:=I;subst e;refine JX S he hN W E P Y O T bF V k λl C H' j m R c M q=>?_
 show wpAny _ X.A (aoc (.Name y py) X.env (.ref l)) _ _ _;refine wpAny_assign_Name (QD (v:=.ref l) R rE Z (.inl f) rfl (λxo t ch=>?_) (.inr f));obtain⟨a,B,K⟩:=ch;have u:C≠a:=by
  rcases K with z|z
  .rw[z];exact c.2.1
  .exact λw=>c.2.2.2.2.1 y a z w.symm
 refine⟨m,M.sameBut B u,λh' vV=>?_⟩;exact⟨_,H',t.turned (t':=xo.toks) (λb o F e=>vV.extBut b o F e) c.1 c.2.1 c.2.2.2.1 c.2.2.2.2.1 c.2.2.2.2.2,q⟩
end
def dU(p:V->V->aw->cE->Prop):ej:=λvs H Q _=>∃a b,vs=[a,b]/\p a b H Q
structure eV(P:al7)(w:World)(K:aN)(mg:bo)(base:Heap)(x:Str)(ps:List Str)(k:Nat)(sp:ej):Prop where
 ex:∃f fd,e5 P w K mg base ey k f fd ps sp/\Binds K fd ps []/\anJ K (.ref f)=true/\mg x=some (.ref f)
structure gO(K:aN)(mg:bo)(x:Str)(st:Stmt)(ps:List Str):Prop where
 ex:∃f fd,lg K x x st f fd/\Binds K fd ps []/\mg x=some (.ref f)
section
variable{P:al7}{w:World}{K:aN}{mg:bo}{base:Heap}{x:Str}{ps:List Str}{k:Nat}{sp:ej}
def eV.mono(h:eV P w K mg base x ps k sp)(c:k<=j):eV P w K mg base x ps j sp:=by
 obtain⟨f,d,a,b⟩:=h.ex;exact⟨f,d,a.mono c,b⟩
end
section
variable{X:aT}{x:Str}{ps:List Str}{k:Nat}{sp:ej}{p pos:Pos}{e:Expr}{ay:List Expr}{t:fQ}
def AV(sp:ej)(t:fQ):TE:=λU H Q=>t U H λvs a=>sp vs a Q i5
def Pz(h:eV X.prog X.w X.K X.mg X.base x ps k sp)(d:cB k X.A)(g:d_ X x)(i:gR X (e::ay) t)(j:(x==("__debug__":Str))=false:=by decide)
  (he:alJ (e::ay) X.env=(false,eval e X.env)::alJ ay X.env:=by rfl) (l:(amg pos (alJ ay X.env)).any (·.1)=false:=by rfl):b1 X (.Call (.Name x p) (e::ay) [] pos) (AV sp t):=by
 obtain⟨f,q,F,b,kp,m⟩:=h.ex;intro zn s U H Q J c;refine ad4 (dvs:=[]) (ds:=[]) F d g m kp b .nil r9 i j he l zn s U H Q J ?_;have n:t U H λvs a=>sp vs a Q i5:=c
 show t U H λvs a=>sp (vs++[]) a Q i5
 simpa only[am2]using n
def aec(h:eV X.prog X.w X.K X.mg X.base x ps k sp)(c:cB k X.A)(d:d_ X x)(g:(x==("__debug__":Str))=false:=by decide):b1 X (.Call (.Name x p) [] [] pos) (AV sp xB):=by
 obtain⟨f,i,F,b,kp,m⟩:=h.ex;intro zn s U H Q J a;exact ad5 (dvs:=[]) (ds:=[]) F c d m kp b .nil r9 g zn s U H Q J a
end
structure ya(K:aN):Prop where
 dk:∀t∈["NoneType","bool","int","str","list","tuple"],∀c∈["int","bool","tuple","list","str"],W.kitOne K (.type t) (.type c)=some (t==c||(t == "bool"&&c == "int"))
inductive m'(K:aN)(H:aw):V->String->Prop where
 |aH:m' K H .aH "NoneType"
 |ax (x:Bool):m' K H (.ax x) "bool"
 |int (i:Int):m' K H (.int i) "int"
 |str (x:Str):m' K H (.str x) "str"
 |l {a:Addr}{xs:List V}(e:dq K H a xs):m' K H (.ref a) "list"
 |t {a:Addr}{xs:List V}(e:dx K H a xs):m' K H (.ref a) "tuple"
abbrev ag8:List String:=["NoneType","bool","int","str","list","tuple"]
def m'.mem{K:aN}{H:aw}{x:V}{t:String}(h:m' K H x t):t∈ag8:=by
 cases h<;>decide
section
variable{X:aT}
def v8(t n:String):Bool:=t==n||(t == "bool"&&n == "int")
def P5(K:aN):List V->aw->cE->Prop:=λxs H Q=>∃x n t,xs=[x,.ty n]/\m' K H x t/\n∈["int","bool","tuple","list","str"]/\Q (.ax (v8 t n)) H
def Uc(kt:ya X.K):jY X (.builtin "isinstance") (P5 X.K):=by
 intro zn s U H xs us Q J j h;obtain⟨x,n,t,rfl,ty,g,q⟩:=h;obtain⟨u,m,rfl,b,k⟩:=vals2 j;cases(show m=aql n from k);have e:=kt.dk t ty.mem n g;have fin:∀tk,g7 X zn U Q (.bool (v8 t n)) { s with toks:=tk }:=λtk=>⟨.ax _,H,J.tok tk,rfl,q⟩
 cases ty with
 |aH=>cases(show u=aob from b);exact apB W.kitx_none J.f3 ao9 e (λz=>nomatch z) fin
 |ax y=>cases(show u=apQ y from b);exact apB W.kitx_bool J.f3 ao9 e (λz=>nomatch z) fin
 |int i=>obtain⟨t,q⟩:=(show ∃t,u=aqt i t from b);cases q;exact apB W.kitx_int J.f3 ao9 e (λz=>nomatch z) fin
 |str y=>obtain⟨t,q⟩:=(show ∃t,u=aqu y t from b);cases q;exact apB W.kitx_str J.f3 ao9 e (λz=>nomatch z) fin
 |@l a xs f=>
  cases(show u=amI a from b);obtain⟨its,_,⟨o,p,c,d,_⟩,_⟩:=J.list f;exact apB W.kitx_list J.f3 ⟨o,c,d⟩ e (λz=>nomatch z) fin
 |@t a xs f=>
  cases(show u=amI a from b);obtain⟨its,_,⟨o,c,d,_⟩,_⟩:=J.tuple f;exact apB W.kitx_tuple J.f3 ⟨o,c,d⟩ e (λz=>nomatch z) fin
def abg:u5 X "int.bit_length" (λx xs H Q=>∃i,x=.int i/\xs=[]/\Q (.int (amW i:Nat)) H):=by
 intro zn s U H x xs v us Q J a b h;obtain⟨i,rfl,rfl,q⟩:=h;obtain⟨t,rfl⟩:=a;cases b;exact call_int_bit_length ⟨.int _,H,J.tok _,⟨_,rfl⟩,q⟩
end
mutual
def Rep(K:aN)(H:aw):PyData->V->Prop
 |.none,v=>v=.aH|.bool b,v=>v=.ax b|.int i,v=>v=.int i|.str x,v=>v=.str x|.list ds,v=>∃a xs,v=.ref a/\dq K H a xs/\bl K H ds xs|.tuple ds,v=>∃a xs,v=.ref a/\dx K H a xs/\bl K H ds xs|.dict _,_=>False
def bl(K:aN)(H:aw):List PyData->List V->Prop
 |[],xs=>xs=[]|d::ds,xs=>∃x r,xs=x::r/\Rep K H d x/\bl K H ds r
end
def ez.xq[a4]{K:aN}{H H':aw}{a:Addr}{xs:List V}(e:ez H H')(h:dx K H a xs):dx K H' a xs:=by
 rcases h with(h|⟨o,h⟩)|h
 .exact .inl (.inl (e.at' _ _ h))
 .exact .inl (.inr ⟨o,e.at' _ _ h⟩)
 .exact .inr h
section
variable{X:aT}{zn:cW}{U:St}{H:aw}{s:alO}
mutual
theorem Rep.reads(J:Inv X zn U H s):∀{d:PyData}{v:V}{u:Value},Rep X.K H d v->RelV v u->∃as,Reads s.heap u d as
 |.none,_,_,h,r=>by cases h;cases r;exact⟨_,.none⟩
 |.bool _,_,_,h,r=>by cases h;cases r;exact⟨_,.bool _⟩
 |.int _,_,_,h,r=>by cases h;obtain⟨t,rfl⟩:=r;exact⟨_,.int _ _⟩
 |.str _,_,_,h,r=>by cases h;obtain⟨t,rfl⟩:=r;exact⟨_,.str _ _⟩
 |.list _,_,_,h,r=>by
  obtain⟨a,xs,rfl,l,q⟩:=h;cases r;obtain⟨its,b,⟨o,n,e,c,_,d⟩,_⟩:=J.list l;obtain⟨as,z⟩:=bl.reads J q b;exact⟨_,.list e c d (by simpa using z)⟩
 |.tuple _,_,_,h,r=>by
  obtain⟨a,xs,rfl,l,q⟩:=h;cases r;obtain⟨its,b,⟨o,e,c,n,d⟩,_⟩:=J.tuple l;obtain⟨as,z⟩:=bl.reads J q b;exact⟨_,.tuple e c d (by simpa using z)⟩
 |.dict _,_,_,h,_=>h.elim
theorem bl.reads(J:Inv X zn U H s):∀{ds:List PyData}{xs:List V}{us:List Value},bl X.K H ds xs->Vals xs us->∃as,ReadsAll s.heap us ds as
 |[],_,_,h,r=>by cases h;cases r;exact⟨_,.nil⟩
 |_::_,_,_,h,r=>by
  obtain⟨x,t,rfl,a,b⟩:=h
  cases r with
  |cons c d=>
   obtain⟨as,f⟩:=Rep.reads J a c;obtain⟨bs,e⟩:=bl.reads J b d;exact⟨_,.cons f e⟩
end
end
section
variable{X:aT}
def AE(K:aN)(neg:Bool):fx:=λx y H Q=>∃d e,Rep K H d x/\Rep K H e y/\aqz d=true/\aqz e=true/\Q (.ax (if neg then !aqm d e else aqm d e)) H
def FL(i:X.A.units+64<cLine):d0 X (amx .Eq) (AE X.K false):=by
 intro zn s U H x y v u Q J c f h;obtain⟨d,e,a,b,mR,j,q⟩:=h;obtain⟨as,g⟩:=a.reads J c;obtain⟨bs,k⟩:=b.reads J f;exact eq_dataH g k mR j i ⟨.ax _,H,J,rfl,q⟩
def ug(i:X.A.units+64<cLine):d0 X (amx .NotEq) (AE X.K true):=by
 intro zn s U H x y v u Q J c f h;obtain⟨d,e,a,b,mR,j,q⟩:=h;obtain⟨as,g⟩:=a.reads J c;obtain⟨bs,k⟩:=b.reads J f;exact ne_dataH g k mR j i ⟨.ax _,H,J,rfl,q⟩
end
def JB:amB "len"=some (.builtin "len"):=by decide +kernel
def T1:amB "isinstance"=some (.builtin "isinstance"):=by decide +kernel
def T2:amB "max"=some (.builtin "max"):=by decide +kernel
def TX:amB "any"=some (.builtin "any"):=by decide +kernel
def TV:amB "all"=some (.builtin "all"):=by decide +kernel
def TZ:amB "int"=some (.type "int"):=by decide +kernel
def TY:amB "bool"=some (.type "bool"):=by decide +kernel
def CE:amB "list"=some (.type "list"):=by decide +kernel
def vi:amB "tuple"=some (.type "tuple"):=by decide +kernel
def T6:amB "str"=some (.type "str"):=by decide +kernel
variable[a4]
def x8(a:iv)(b:aw)(xs:List V):Prop:=∀H,ez b H->∀i,(i<xs.length->a.go i H/\∀x H',a.pK i H x H'->H'=H/\xs[i]? = some x)/\(xs.length<=i->a.stop i H)
def NL{K:aN}{H:aw}{a:Addr}{xs:List V}(h:dq K H a xs):x8 (pR K a) H xs:=λH' s i=>
 ⟨λhi=>⟨⟨xs,xs[i],s.seq h,by simp[hi]⟩,λx b y=>⟨y.1,y.2 xs (s.seq h)⟩⟩,λhi=>⟨xs,s.seq h,hi⟩⟩
def NN{K:aN}{H:aw}{a:Addr}{xs:List V}(h:dx K H a xs):x8 (sD K a) H xs:=λH' s i=>
 ⟨λhi=>⟨⟨xs,xs[i],s.xq h,by simp[hi]⟩,λx b y=>⟨y.1,y.2 xs (s.xq h)⟩⟩,λhi=>⟨xs,s.xq h,hi⟩⟩
def mQ(lo:Int)(n:Nat):List V:=(ame n).map λi=>V.int (lo+(i:Nat))
def Ey(lo:Int)(n:Nat):x8 (m6 lo n) H (mQ lo n):=λH' s i=>by
 have hl:(mQ lo n).length=n:=by unfold mQ;rw[alM,amZ]
 refine⟨λhi=>⟨by rw[hl]at hi;exact hi,λx a y=>⟨y.1,?_⟩⟩,λhi=>by rw[hl]at hi;exact hi⟩;rw[hl]at hi;rw[y.2];unfold mQ;rw[al4,anp hi];rfl
end aA
namespace aA
open PySem PySem.Spec PyProof.Rows
def gO.none{P:al7}{w:World}{K:aN}{mg:bo}{base:Heap}{x:Str}{st:Stmt}{ps:List Str}{k:Nat}{sp:ej}(D:gO K mg x st ps)(no:∀vs H Q E,¬sp vs H Q E):eV P w K mg base x ps k sp:=by
 obtain⟨f,a,F,b,m⟩:=D.ex;exact⟨f,a,⟨λvs H Q E h=>absurd h (no vs H Q E),λA outer s H args us vs Q E _ _ _ _ h=>absurd h (no vs H Q E)⟩,b,F.kp,m⟩
def aaa(K:aN):ya K:=⟨by
 intro t a c b;simp only[alY,List.mem_nil_iff,or_false]at a b;rcases a with rfl|rfl|rfl|rfl|rfl|rfl<;>rcases b with rfl|rfl|rfl|rfl|rfl<;>kernel_rfl⟩
def range_any(bs:List Bool):(ame bs.length).any (λi=>bs.getD i false)=bs.any id:=by
 rw[ano,aoY,aoY];constructor
 .rintro⟨i,hi,h⟩
  have a:=amz.mp hi;refine⟨bs[i],anK a,?_⟩;rw[amC,al1 a]at h;exact h
 .rintro⟨b,c,h⟩
  obtain⟨i,hi,rfl⟩:=List.getElem_of_mem c;refine⟨i,amz.mpr hi,?_⟩;rw[amC,al1 hi];exact h
def range_all(bs:List Bool):(ame bs.length).all (λi=>bs.getD i false)=bs.all id:=by
 rw[ano,amv,amv];constructor
 .intro h b c
  obtain⟨i,hi,rfl⟩:=List.getElem_of_mem c;have:=h i (amz.mpr hi);rw[amC,al1 hi]at this;exact this
 .intro h i hi
  have a:=amz.mp hi;rw[amC,al1 a];exact h _ (anK a)
section
variable{X:aT}{K:aN}
def QN{bs:List Bool}{its:List Value}(a:Vals (bs.map V.ax) its):TruthOf prog w A (λi v=>its.toArray[i]? = some v) (λi=>bs.getD i false):=by
 intro i v s Q E g e;have d:its[i]? = some v:=by simpa using g
 have hi:i<bs.length:=by
  have j:=(alK.mp d).1;have f:=a.length;rw[alM]at f;omega
 obtain⟨u,b,h⟩:=a.get (i:=i) (x:=.ax bs[i]) (by rw[al4,al1 hi];rfl);rw[d]at b;cases b;cases h;have c:Q (bs.getD i false) s:=e;rw[amC,al1 hi]at c;exact amY c
def Ub(r:X.calm=true):jY X (.builtin "any") (λxs H Q=>∃(l:Addr)(bs:List Bool),xs=[.ref l]/\dq X.K H l (bs.map V.ax)/\Q (.ax (bs.any id)) H):=by
 intro zn s U H xs us Q J g h;obtain⟨l,bs,rfl,m,q⟩:=h;obtain⟨u,rfl,f⟩:=vals1 g;cases f;obtain⟨its,c,p,hz⟩:=J.list m;have j:l<s.heap.objs.size:=by obtain⟨o,n,e,_⟩:=p;exact alX e
 refine call_any_walk (anT p.isList ?_);refine⟨s.heap.objs.size,_,_,_,_,_,λi=>bs.getD i false,rfl,aqn (A:=X.A.in1) (show X.A.in1.handled=none from J.ok.hd r) s.heap.objs.size l (amo j) its.toArray,⟨⟨_,alV _ rfl,rfl,rfl⟩,p.isList.at λo e=>alL _ e⟩,QN c,λh' tk k=>?_⟩;have d:its.toArray.size=bs.length:=by
  have a:=c.length;rw[alM]at a;simp[a]
 rw[d,range_any];exact⟨.ax _,H,J.kept (h':=h') (t':=tk) λb o e=>k b o (by intro z;rw[amb.mp z]at e;exact absurd (alX e) (amF _)) (alL _ e),rfl,q⟩
def Ua(r:X.calm=true):jY X (.builtin "all") (λxs H Q=>∃(l:Addr)(bs:List Bool),xs=[.ref l]/\dq X.K H l (bs.map V.ax)/\Q (.ax (bs.all id)) H):=by
 intro zn s U H xs us Q J g h;obtain⟨l,bs,rfl,m,q⟩:=h;obtain⟨u,rfl,f⟩:=vals1 g;cases f;obtain⟨its,c,p,hz⟩:=J.list m;have j:l<s.heap.objs.size:=by obtain⟨o,n,e,_⟩:=p;exact alX e
 refine call_all_walk (anT p.isList ?_);refine⟨s.heap.objs.size,_,_,_,_,_,λi=>bs.getD i false,rfl,aqn (A:=X.A.in1) (show X.A.in1.handled=none from J.ok.hd r) s.heap.objs.size l (amo j) its.toArray,⟨⟨_,alV _ rfl,rfl,rfl⟩,p.isList.at λo e=>alL _ e⟩,QN c,λh' tk k=>?_⟩;have d:its.toArray.size=bs.length:=by
  have a:=c.length;rw[alM]at a;simp[a]
 rw[d,range_all];exact⟨.ax _,H,J.kept (h':=h') (t':=tk) λb o e=>k b o (by intro z;rw[amb.mp z]at e;exact absurd (alX e) (amF _)) (alL _ e),rfl,q⟩
end
section
variable{X:aT}
def qA{v:V}(a:d_ X x)(h:∃u,X.mg x=some u/\RelV v u)(hd:(x==("__debug__":Str))=false:=by decide):b1 X (.Name x pos) (pq v):=by
 obtain⟨u,b,r⟩:=h;exact aed a b r hd
variable[a4]
end
end aA
set_option maxHeartbeats 1000000
namespace aC
open PySem PySem.Spec aA
variable[aA.a4]
inductive D where
 |aH|ax (b:Bool)|int (i:Int)|str (x:Str)|t (xs:List D)|l (xs:List D)|ref (n:Nat)|fn (f:Str)|ty (n:String)
inductive Slot where
 |e|v (d:D)|en (p:Bool) (xs:List D)|b4 (xs:List D)
abbrev aK:=List Slot
inductive gc where
 |l (xs:List D)|LO (dm:List (Key×D))|rl (dm:List (List Key×D))|a8 (c:Str) (aS:List (Str×D))
abbrev bI:=List gc
inductive Out(α:Type) where
 |ok (a:α) (S:bI)|exc (c:Str) (S:bI)|bad
structure M(α:Type):Type where
 run:bI->Out α
 fc:∀S a aq,run S=.ok a aq->aq=S
def M.hJ{α g:Type}(m:M α)(f:α->M g):M g:=⟨λS=>match m.run S with
 |.ok a d=>(f a).run d|.exc c d=>.exc c d|.bad=>.bad,λS b d h=>by
  cases e:m.run S with
  |ok a S1=>rw[e]at h;exact((f a).fc _ _ _ h).trans (m.fc _ _ _ e)|exc c S1=>rw[e]at h;cases h
  |bad=>rw[e]at h;cases h⟩
noncomputable instance:Monad M where
 pure a:=⟨λS=>.ok a S,λ_ _ _ h=>by cases h;rfl⟩
 bind:=M.hJ
omit [aA.a4]in
theorem M.ext{α:Type}{x y:M α}(h:∀S,x.run S=y.run S):x=y:=by
 cases x with|mk f p=>cases y with|mk g q=>obtain rfl:f=g:=funext h;rfl
omit [aA.a4]in
theorem M.TC{α a:Type}(m:M α)(f:α->M a):(m >>= f)=M.hJ m f:=rfl
instance:LawfulMonad M:=LawfulMonad.mk'
 (id_map:=λx=>M.ext λS=>by show(M.hJ x (λa=>pure (id a))).run S=x.run S;unfold M.hJ;dsimp only;cases x.run S<;>rfl)
 (pure_bind:=λx f=>rfl)
 (bind_assoc:=λx f g=>M.ext λS=>by show(M.hJ (M.hJ x f) g).run S=(M.hJ x (λa=>M.hJ (f a) g)).run S;unfold M.hJ;dsimp only;cases x.run S<;>rfl)
 (bind_pure_comp:=λf x=>rfl)
def bad{α:Type}:M α:=⟨λ_=>.bad,λ_ _ _ h=>by cases h⟩
omit [aA.a4]in
theorem M.inv{α g:Type}{m:M α}{f:α->M g}{S d:bI}{b:g}(h:(m >>= f).run S=.ok b d):∃a S1,m.run S=.ok a S1/\(f a).run S1=.ok b d:=by
 rw[M.TC]at h;unfold M.hJ at h;dsimp only at h
 cases e:m.run S with
 |ok a S1=>rw[e]at h;exact⟨a,S1,rfl,h⟩|exc c S1=>rw[e]at h;cases h
 |bad=>rw[e]at h;cases h
def hK(p:Prop)[Decidable p]:M Unit:=if p then pure ()else bad
omit [aA.a4]in
theorem JM{p:Prop}[Decidable p](h:p):hK p=pure ():=if_pos h
omit [aA.a4]in
theorem rf{p:Prop}[Decidable p]{S b:bI}(h:(hK p).run S=.ok u b):p/\S=b:=by
 unfold hK at h
 by_cases a:p
 .rw[if_pos a]at h;cases h;exact⟨a,rfl⟩
 .rw[if_neg a]at h;cases h
inductive R where
 |v (d:D)|fr (xs:List D)|b4 (xs:List D)|mv (xs:List D)
abbrev bt:=aK->M R
inductive Own where
 |free|out|dn|loc (i:Nat)
 deriving DecidableEq
structure a_ where
 own:Addr->Own
 bD:List Addr
instance:CoeFun a_ (λ_=>Addr->Own):=⟨a_.own⟩
def BJ(K:aN)(a:Addr)(xs:List V):Prop:=
 ∃(o:Obj)(its:Array Value)(n:Nat),K.lookup a=some o/\o.cls=.type "list"/\o.dict=none/\o.data=.seq its n/\its.size<=alP/\Vals xs its.toList
def sE(_:aN)(O:a_)(H:aw)(a:Addr)(ys:List V):Prop:=H a=some (.l ys)/\O a=.free
mutual
def Rep(K:aN)(mg:bo)(O:a_)(H:aw):D->V->Prop
 |.aH,v=>v=.aH|.ax b,v=>v=.ax b|.int i,v=>v=.int i|.str x,v=>v=.str x|.t xs,v=>∃a ys,v=.ref a/\dx K H a ys/\bl K mg O H xs ys|.l xs,v=>∃a ys,v=.ref a/\sE K O H a ys/\bl K mg O H xs ys|.ref n,v=>∃a,v=.ref a/\O.bD[n]? = some a|.fn f,v=>∃a,v=.ref a/\mg f=some (.ref a)|.ty n,v=>v=.ty n
def bl(K:aN)(mg:bo)(O:a_)(H:aw):List D->List V->Prop
 |[],ys=>ys=[]|x::xs,ys=>∃y r,ys=y::r/\Rep K mg O H x y/\bl K mg O H xs r
end
structure Go(O ak:a_)(H H':aw):Prop where
 same:ez H H'
 own:∀b,H b≠none->ak b=O b
 bD:ak.bD=O.bD
def Go.refl(O:a_)(H:aw):Go O O H H:=⟨ez.refl _,λ_ _=>rfl,rfl⟩
def Go.trans{O d e:a_}(a:Go O d H H1)(b:Go d e H1 o):Go O e H o:=
 ⟨a.same.trans b.same,λc h=>(b.own c (a.same.some h)).trans (a.own c h),b.bD.trans a.bD⟩
def hE.same(s:ez H H')(h:hE H a u)(n:o8 u:=by exact trivial):hE H' a u:=by
 rcases h with h|⟨o,h⟩
 .exact .inl (s.at' _ _ h n)
 .exact .inr ⟨o,s.at' _ _ h⟩
omit [aA.a4]in
theorem hE.some{H:aw}(h:hE H a u):H a≠none:=by
 rcases h with h|⟨o,h⟩<;>rw[h]<;>intro z<;>cases z
def sE.cR{O:a_}(h:sE K O H a ys):dq K H a ys:=dq.of h.1
def h2(K:aN)(O:a_)(H:aw)(a:Addr)(ys:List V):Prop:=(hE H a (.l ys)/\(O a=.free\/O a=.out))\/BJ K a ys
def h2.cR{O:a_}(h:h2 K O H a ys):dq K H a ys:=h.elim (λz=>.inl z.1) .inr
def h2.go{O b:a_}(g:Go O b H H')(h:h2 K O H a ys):h2 K b H' a ys:=by
 rcases h with⟨l,f⟩|l
 .exact .inl ⟨hE.same g.same l,by rw[g.own a (hE.some l)];exact f⟩
 .exact .inr l
def sE.go{O b:a_}(g:Go O b H H')(h:sE K O H a ys):sE K b H' a ys:=by
 exact⟨g.same.at' _ _ h.1,(g.own a (by rw[h.1];intro z;cases z)).trans h.2⟩
section
variable{K:aN}{mg:bo}{O ak:a_}{H H':aw}
mutual
theorem Rep.go(g:Go O ak H H'):∀{d:D}{v:V},Rep K mg O H d v->Rep K mg ak H' d v
 |.aH,_,h=>h|.ax _,_,h=>h|.int _,_,h=>h|.str _,_,h=>h| .t _,_,h=>by obtain⟨a,ys,q,l,r⟩:=h;exact⟨a,ys,q,g.same.xq l,bl.go g r⟩
 |.l _,_,h=>by obtain⟨a,ys,q,l,r⟩:=h;exact⟨a,ys,q,l.go g,bl.go g r⟩
 |.ref _,_,h=>by obtain⟨a,q,l⟩:=h;exact⟨a,q,by rw[g.bD];exact l⟩
 |.fn _,_,h=>h|.ty _,_,h=>h
theorem bl.go(g:Go O ak H H'):∀{ds:List D}{ys:List V},bl K mg O H ds ys->bl K mg ak H' ds ys
 |[],_,h=>h| _::_,_,h=>by obtain⟨x,r,q,a,b⟩:=h;exact⟨x,r,q,Rep.go g a,bl.go g b⟩
end
structure l5(O ak:a_):Prop where
 fr:∀a,O a=.free->ak a=.free
 bD:ak.bD=O.bD
mutual
theorem Rep.c8(g:l5 O o):∀{d:D}{v:V},Rep K mg O H d v->Rep K mg o H d v
 |.aH,_,h=>h|.ax _,_,h=>h|.int _,_,h=>h|.str _,_,h=>h| .t _,_,h=>by obtain⟨a,ys,q,l,r⟩:=h;exact⟨a,ys,q,l,bl.c8 g r⟩
 |.l _,_,h=>by obtain⟨a,ys,q,l,r⟩:=h;exact⟨a,ys,q,⟨l.1,g.fr _ l.2⟩,bl.c8 g r⟩
 |.ref _,_,h=>by obtain⟨a,q,l⟩:=h;exact⟨a,q,by rw[g.bD];exact l⟩
 |.fn _,_,h=>h|.ty _,_,h=>h
theorem bl.c8(g:l5 O o):∀{ds:List D}{ys:List V},bl K mg O H ds ys->bl K mg o H ds ys
 |[],_,h=>h| _::_,_,h=>by obtain⟨x,r,q,a,b⟩:=h;exact⟨x,r,q,Rep.c8 g a,bl.c8 g b⟩
end
theorem bl.len:∀{ds:List D}{xs:List V},bl K mg O H ds xs->xs.length=ds.length
 |[],_,h=>by cases h;rfl
 |_::_,_,h=>by obtain⟨x,r,rfl,_,b⟩:=h;rw[amk,amk,bl.len b]
theorem bl.get:∀{ds:List D}{xs:List V}{i:Nat}{d:D},bl K mg O H ds xs->ds[i]? = some d->∃x,xs[i]? = some x/\Rep K mg O H d x
 |[],_,_,_,_,e=>by simp at e| _::_,_,0,d,h,e=>by obtain⟨x,r,rfl,a,_⟩:=h;cases(show some _=some d from e);exact⟨x,rfl,a⟩
 |_::ds,_,i+1,d,h,e=>by
  obtain⟨x,r,rfl,_,b⟩:=h;obtain⟨y,av,aE⟩:=bl.get (i:=i) b (by simpa using e);exact⟨y,by simpa using av,aE⟩
theorem bl.MD:∀{ds:List D}{xs:List V}{i:Nat}{x:V},bl K mg O H ds xs->xs[i]? = some x->∃d,ds[i]? = some d/\Rep K mg O H d x
 |[],_,_,_,h,e=>by cases h;simp at e
 |_::_,_,0,x,h,e=>by obtain⟨y,r,rfl,a,_⟩:=h;cases(show some _=some x from e);exact⟨_,rfl,a⟩
 |_::ds,_,i+1,d,h,e=>by
  obtain⟨x,r,rfl,_,b⟩:=h;obtain⟨y,av,aE⟩:=bl.MD (i:=i) b (by simpa using e);exact⟨y,by simpa using av,aE⟩
theorem bl.append:∀{ds c:List D}{xs ys:List V},bl K mg O H ds xs->bl K mg O H c ys->bl K mg O H (ds++c) (xs++ys)
 |[],_,_,_,h,q=>by cases h;exact q
 |_::_,_,_,_,h,q=>by obtain⟨x,r,rfl,a,b⟩:=h;exact⟨x,_,rfl,a,bl.append b q⟩
def bl.one(h:Rep K mg O H d x):bl K mg O H [d] [x]:=⟨x,[],rfl,h,rfl⟩
theorem bl.take:∀{ds:List D}{xs:List V}(n:Nat),bl K mg O H ds xs->bl K mg O H (ds.take n) (xs.take n)
 |[],_,_,h=>by cases h;rw[aqq,aqq];rfl
 |_::_,_,0,_=>by rw[aqi,aqi];rfl| _::_,_,n+1,h=>by obtain⟨x,r,rfl,a,b⟩:=h;exact⟨x,_,rfl,a,bl.take n b⟩
theorem bl.drop:∀{ds:List D}{xs:List V}(n:Nat),bl K mg O H ds xs->bl K mg O H (ds.drop n) (xs.drop n)
 |[],_,_,h=>by cases h;rw[List.drop_nil,List.drop_nil];rfl
 |_::_,_,0,h=>h| _::_,_,n+1,h=>by obtain⟨x,r,rfl,a,b⟩:=h;exact bl.drop n b
theorem bl.set(hd:Rep K mg O H d x):∀{ds:List D}{xs:List V}(n:Nat),bl K mg O H ds xs->bl K mg O H (ds.set n d) (xs.set n x)
 |[],_,_,h=>by cases h;exact rfl
 |_::_,_,0,h=>by obtain⟨y,r,rfl,a,b⟩:=h;exact⟨x,r,rfl,hd,b⟩
 |_::_,_,n+1,h=>by obtain⟨y,r,rfl,a,b⟩:=h;exact⟨y,_,rfl,a,bl.set hd n b⟩
def Qa(ns:List Int):bl K mg O H (ns.map D.int) (ns.map V.int):=by
 induction ns with
 |nil=>rfl|cons n r a=>exact⟨.int n,_,rfl,rfl,a⟩
def fy{κ:Type}(K:aN)(mg:bo)(O:a_)(H:aw)(a:List (κ×D))(b:List (κ×V)):Prop:=a.map (·.1)=b.map (·.1)/\bl K mg O H (a.map (·.2)) (b.map (·.2))
def eu(K:aN)(mg:bo)(O:a_)(H:aw):R->V->Prop
 |.v d,v=>Rep K mg O H d v|.fr xs,v=>∃a ys,v=.ref a/\H a=some (.l ys)/\O a=.dn/\bl K mg O H xs ys|.b4 xs,v=>∃a ys,v=.ref a/\h2 K O H a ys/\bl K mg O H xs ys|.mv xs,v=>∃a ys,v=.ref a/\H a=some (.l ys)/\bl K mg O H xs ys
def eu.go(g:Go O C H H'):∀{r:R}{v:V},eu K mg O H r v->eu K mg C H' r v
 |.v _,_,h=>Rep.go g h| .fr _,_,h=>by obtain⟨a,ys,q,l,o,r⟩:=h;exact⟨a,ys,q,g.same.at' _ _ l,(g.own a (by rw[l];intro z;cases z)).trans o,r.go g⟩
 |.b4 _,_,h=>by obtain⟨a,ys,q,l,r⟩:=h;exact⟨a,ys,q,l.go g,r.go g⟩
 |.mv _,_,h=>by obtain⟨a,ys,q,l,r⟩:=h;exact⟨a,ys,q,g.same.at' _ _ l,r.go g⟩
theorem bl.imp{c:a_}(f:∀d v,Rep K mg O H d v->Rep K mg c H' d v):∀{ds:List D}{ys:List V},bl K mg O H ds ys->bl K mg c H' ds ys
 |[],_,h=>h| _::_,_,h=>by obtain⟨x,r,q,a,b⟩:=h;exact⟨x,r,q,f _ _ a,bl.imp f b⟩
def Ry(K:aN)(mg:bo)(c:Str)(C:Addr):Prop:=mg c=some (.ref C)/\i4 K C
def jx(K:aN)(mg:bo)(O:a_)(H:aw)(w:Own):Slot->Option V->Prop
 |.e,_=>True|.v d,u=>∃v,u=some v/\Rep K mg O H d v|.en _ xs,u=>∃a ys,u=some (.ref a)/\O a=w/\H a=some (.l ys)/\bl K mg O H xs ys|.b4 xs,u=>∃a ys,u=some (.ref a)/\h2 K O H a ys/\bl K mg O H xs ys
def jx.go(g:Go O C H H'):∀{s:Slot}{u:Option V},jx K mg O H w s u->jx K mg C H' w s u
 |.e,_,_=>trivial| .v _,_,h=>by obtain⟨v,q,r⟩:=h;exact⟨v,q,r.go g⟩
 |.en _ _,_,h=>by obtain⟨a,ys,q,o,l,r⟩:=h;exact⟨a,ys,q,(g.own a (by rw[l];intro z;cases z)).trans o,g.same.at' _ _ l,r.go g⟩
 |.b4 _,_,h=>by
  obtain⟨a,ys,q,l,r⟩:=h;exact⟨a,ys,q,l.go g,r.go g⟩
end
def jw(O:a_):Prop:=O.bD.Nodup/\∀a∈O.bD,O a=.out
structure dh(O:a_)(H:aw):Prop where
 has:∀a,O a≠.free->H a≠none
 tabs:TabsOk H
 b9:jw O
def oa(K:aN)(mg:bo)(O:a_)(H:aw)(a:Addr):gc->Prop
 |.l xs=>∃ys,H a=some (.l ys)/\bl K mg O H xs ys|.LO d=>∃b,H a=some (.sT b)/\fy K mg O H d b|.rl d=>∃b,H a=some (.fR b)/\fy K mg O H d b|.a8 c aS=>∃C f e,H a=some (.ins C f e)/\Ry K mg c C/\fy K mg O H aS e
def fY(K:aN)(mg:bo)(O:a_)(H:aw)(S:bI):Prop:=∀(n:Nat)(o:gc),S[n]? = some o->∃a,O.bD[n]? = some a/\oa K mg O H a o
def oa.all{O b:a_}{H H':aw}(f:∀d v,Rep K mg O H d v->Rep K mg b H' d v)(g:∀u,H a=some u->o8 u->H' a=some u):∀{o:gc},oa K mg O H a o->oa K mg b H' a o
 |.l _,h=>by obtain⟨ys,l,r⟩:=h;exact⟨ys,g _ l trivial,r.imp f⟩
 |.LO _,h=>by obtain⟨ys,l,e,r⟩:=h;exact⟨ys,g _ l trivial,e,r.imp f⟩
 |.rl _,h=>by obtain⟨ys,l,e,r⟩:=h;exact⟨ys,g _ l trivial,e,r.imp f⟩
 |.a8 _ _,h=>by obtain⟨C,i,j,l,c,e,r⟩:=h;exact⟨C,i,j,g _ l trivial,c,e,r.imp f⟩
def fY.all{O b:a_}{H H':aw}{S:bI}(s:fY K mg O H S)(f:∀d v,Rep K mg O H d v->Rep K mg b H' d v)(e:b.bD=O.bD)(g:∀a∈O.bD,∀u,H a=some u->o8 u->H' a=some u):fY K mg b H' S:=λn o h=>by
 obtain⟨a,c,i⟩:=s n o h;exact⟨a,by rw[e];exact c,i.all f (g a (amh c))⟩
def fY.go{O b:a_}{S:bI}(s:fY K mg O H S)(g:Go O b H H'):fY K mg b H' S:=
 s.all (λ_ _ z=>Rep.go g z) g.bD λa _ u l n=>g.same.at' _ _ l n
def fY.nil{O:a_}:fY K mg O H []:=λn o h=>by cases n<;>cases h
structure cN(K:aN)(mg:bo)(O:a_)(U:aK)(S:bI)(ar:St)(H:aw):Prop where
 ck:dh O H
 len:U.length=ar.length
 loc:∀i s,U[i]? = some s->jx K mg O H (.loc i) s (ar[i]?.join)
 f9:fY K mg O H S
def cN.go{O a:a_}{S:bI}(h:cN K mg O U S o H)(g:Go O a H H')(d:dh a H'):cN K mg a U S o H':=
 ⟨d,h.len,λi s e=>(h.loc i s e).go g,h.f9.go g⟩
def fV(O:a_)(a:Addr)(o:Own):a_:=⟨λb=>if b=a then o else O b,O.bD⟩
omit [aA.a4]in
theorem lU{O:a_}:fV O a o a=o:=if_pos rfl
omit [aA.a4]in
theorem pC{O:a_}(h:b≠a):fV O a o b=O b:=if_neg h
section
variable{K:aN}{mg:bo}{O:a_}{U:aK}{S:bI}{ar:St}{H:aw}{p:Addr}{u:gG}{o:Own}
def Go.new(a:H p=none):Go O (fV O p o) H (upd H p u):=
 ⟨uA a u,λb c=>pC (by rintro rfl;exact c a),rfl⟩
def Go.ho(a:H p=none):Go O O H (upd H p u):=⟨uA a u,λ_ _=>rfl,rfl⟩
def dh.new(d:dh O H)(b:H p=none):dh (fV O p o) (upd H p u):=⟨λa c=>by
 by_cases e:a=p
 .subst e;rw[dZ];intro z;cases z
 .rw[c1 e];rw[pC e]at c;exact d.has a c,d.tabs.new b u,d.b9.1,λa h=>by rw[pC (by rintro rfl;exact d.has _ (by rw[d.b9.2 _ h];intro z;cases z) b)];exact d.b9.2 a h⟩
def dh.same(d:dh O H)(s:ez H H'):dh O H':=⟨λa b=>s.some (d.has a b),s.bY d.tabs,d.b9⟩
def cN.new(h:cN K mg O U S ar H)(a:H p=none):cN K mg (fV O p o) U S ar (upd H p u):=h.go (Go.new a) (h.ck.new a)
def cN.ho(h:cN K mg O U S ar H)(a:H p=none):cN K mg O U S ar (upd H p u):=h.go (Go.ho a) (h.ck.same (uA a u))
end
def jv(H:aw):R->V->Prop
 |.fr _,v=>∀a,v=.ref a->H a=none|_,_=>True
def jv.back(s:ez H H1):∀{r:R}{v:V},jv H1 r v->jv H r v
 |.v _,_,_=>trivial|.b4 _,_,_=>trivial|.mv _,_,_=>trivial|.fr _,_,h=>λa e=>s.free (h a e)
def ks(H:aw):List R->List V->Prop
 |r::rs,v::vs=>jv H r v/\ks H rs vs|_,_=>True
theorem ks.back(s:ez H H1):∀{rs:List R}{vs:List V},ks H1 rs vs->ks H rs vs
 |[],_,_=>trivial|_::_,[],_=>trivial|_::_,_::_,h=>⟨h.1.back s,ks.back s h.2⟩
def u7(K:aN)(mg:bo)(O:a_)(U:aK)(b:bI)(c:St)(H:aw)(r:R)(Q:cE):Prop:=
 ∀a v H',Go O a H H'->cN K mg a U b c H'->eu K mg a H' r v->jv H r v->Q v H'
inductive pW{α:Type}(K:aN)(mg:bo)(m:aK->M α)(ar:St)(H:aw)(P:a_->aK->bI->α->Prop):Prop
 |mk (O:a_) (U:aK) (S:bI) (x:α) (aq:bI) (st:cN K mg O U S ar H) (h:(m U).run S=.ok x aq) (q:P O U aq x):pW K mg m ar H P
def fL(K:aN)(mg:bo)(m:bt):TE:=λa H Q=>pW K mg m a H λO U b r=>u7 K mg O U b a H r Q
def lT(K:aN)(mg:bo)(m:aK->M Bool):TT:=λc H Q=>pW K mg m c H λO U d b=>∀a H',Go O a H H'->cN K mg a U d c H'->Q b H'
abbrev hy(X:aT)(e:Expr)(m:bt):Prop:=b1 X e (fL X.K X.mg m)
abbrev Hb(X:aT)(e:Expr)(m:aK->M Bool):Prop:=iy X e (lT X.K X.mg m)
abbrev xZ(X:aT)(e:Expr)(m:aK->M Bool):Prop:=l7 X e (lT X.K X.mg m)
def i8(K:aN)(mg:bo)(O:a_)(H:aw):List R->List V->Prop
 |[],ys=>ys=[]|x::xs,ys=>∃y r,ys=y::r/\eu K mg O H x y/\i8 K mg O H xs r
abbrev c0:=aK->M (List R)
def pw(K:aN)(mg:bo)(m:c0):fQ:=λb H Q=>pW K mg m b H λO U c rs=>∀a vs H',Go O a H H'->cN K mg a U c b H'->i8 K mg a H' rs vs->ks H rs vs->Q vs H'
abbrev G_(X:aT)(a:List Expr)(m:c0):Prop:=gR X a (pw X.K X.mg m)
def eb{t t':TE}(h:b1 X e t)(i:∀U H Q,t' U H Q->t U H Q):b1 X e t':=λzn s U H Q J q=>h zn s U H Q J (i _ _ _ q)
def xc{t t':TT}(h:iy X e t)(i:∀U H Q,t' U H Q->t U H Q):iy X e t':=λzn s U H Q J q=>h zn s U H Q J (i _ _ _ q)
def PV{t t':TT}(h:l7 X e t)(i:∀U H Q,t' U H Q->t U H Q):l7 X e t':=λa zn s U H Q J q=>h a zn s U H Q J (i _ _ _ q)
def xa{t t':fQ}(h:gR X o t)(i:∀U H Q,t' U H Q->t U H Q):gR X o t':=λpos zn s U H Q J q=>h pos zn s U H Q J (i _ _ _ q)
@[simp] def I(i:Nat)(U:aK):M R:=match U[i]? with
 |some (.v d)=>pure (.v d)|some (.en _ xs)=>pure (.mv xs)|some (.b4 xs)=>pure (.b4 xs)|_=>bad
def af(d:D):bt:=λ_=>pure (.v d)
section
variable{X:aT}{a b c e:Expr}{cM cT fT m:bt}{bV:aK->M Bool}
def vo{v:V}(h:b1 X e (pq v))(r:∀O H,Rep X.K X.mg O H d v):hy X e (af d):=eb h λi H Q f=>by
 obtain⟨O,U,S,j,g,st,h,q⟩:=f;cases h;exact q O v H (Go.refl _ _) st (r O H) trivial
@[simp] def ae(f:R->R->M R)(a b:bt)(U:aK):M R:=do
 let x <-a U
 let y <-b U
 f x y
def eg(K:aN)(mg:bo)(r:fx)(f:R->R->M R):Prop:=
 ∀O U S J H x y o b_ bz C (Q:cE),cN K mg O U S J H->eu K mg O H o x->eu K mg O H b_ y->(f o b_).run S=.ok bz C->u7 K mg O U C J H bz Q->r x y H Q
def yy{r:fx}(I:eg K mg r f):∀d H Q,fL K mg (ae f cM cT) d H Q->xC r (fL K mg cM) (fL K mg cT) d H Q:=by
 rintro d H Q ⟨O,U,S,E,z,st,h,q⟩;obtain⟨x,S1,t,h⟩:=M.inv h;obtain⟨y,j,u,h⟩:=M.inv h;refine⟨O,U,S,x,S1,st,t,λn G N k s l bu=>?_⟩;refine⟨n,U,S1,y,j,s,u,λB L p i bF A P=>?_⟩;exact I B U j d p G L x y E z Q bF (l.go i) A h λw v H' g F D nn=>q w v H' ((k.trans i).trans g) F D (nn.back (k.trans i).same)
def R.sj:R->M Bool
 |.v (.ax b)=>pure b|_=>bad
@[simp] def aU(m:bt)(U:aK):M Bool:=do
 let x <-m U
 x.sj
omit [aA.a4]in
theorem A4{r:R}{b:Bool}{S f:bI}(h:r.sj.run S=.ok b f):r=.v (.ax b)/\S=f:=by
 cases r with
 |v d=>cases d<;>cases h<;>exact⟨rfl,rfl⟩
 |fr _=>cases h
 |b4 _=>cases h
 |mv _=>cases h
def GG:∀d H Q,lT K mg (aU m) d H Q->xD (fL K mg m) d H Q:=by
 rintro d H Q ⟨O,U,S,t,l,st,h,q⟩;obtain⟨x,S1,f,h⟩:=M.inv h;obtain⟨rfl,rfl⟩:=A4 h;exact⟨O,U,S,_,_,st,f,λi v H' g k j _=>⟨t,j,q i H' g k⟩⟩
def QJ{t t':TE}(i:∀U H Q,t' U H Q->t U H Q):∀U H Q,xD t' U H Q->xD t U H Q:=λU H Q q=>i _ _ _ q
@[simp] def fA(f g:R->R->M R)(a b c:bt)(U:aK):M R:=do
 let x <-a U
 let y <-b U
 let z <-f x y
 let t <-z.sj
 if t=true then do
  let w <-c U
  g y w
 else pure (.v (.ax false))
def JD{r k:fx}(hf:eg K mg r f)(P:eg K mg k g):∀d H Q,fL K mg (fA f g cM cT fT) d H Q->GC r k (fL K mg cM) (fL K mg cT) (fL K mg fT) d H Q:=by
 rintro d H Q ⟨O,U,S,k,Y,st,h,q⟩;obtain⟨x,S1,R,h⟩:=M.inv h;obtain⟨y,n,T,h⟩:=M.inv h;obtain⟨z,h3,Z,h⟩:=M.inv h;obtain⟨t,pX,C,h⟩:=M.inv h;obtain⟨rfl,rfl⟩:=A4 C;refine⟨O,U,S,x,S1,st,R,λI fv H1 g1 N G bu=>?_⟩;refine⟨I,U,S1,y,n,N,T,λo E L u bF p o_=>?_⟩;refine hf o U n d L fv E x y _ _ _ bF (G.go u) p Z λs W J A B j _=>⟨t,j,?_⟩
 have i:=(g1.trans u).trans A
 cases t with
 |false=>
  rw[if_neg alR]at h;cases h;exact oP (q s _ J i B rfl trivial)
 |true=>
  rw[if_pos rfl]at h;obtain⟨w,D,eB,h⟩:=M.inv h;refine oQ ⟨s,U,_,w,D,B,eB,λF b4 h1 l uC rw nw=>?_⟩;exact P F U D d h1 E b4 y w _ Y Q uC (p.go (A.trans l)) rw h λV v H' g cq j nn=>q V v H' ((i.trans l).trans g) cq j (nn.back (i.trans l).same)
@[simp] def j4(a b:bt)(U:aK):M R:=do
 let x <-a U
 let t <-x.sj
 if t=true then b U else pure (.v (.ax false))
@[simp] def vl(a:bt)(U:aK):M R:=do
 let x <-a U
 let t <-x.sj
 pure (.v (.ax (!t)))
@[simp] def g6(a b:aK->M Bool)(U:aK):M Bool:=do
 let t <-a U
 if t=true then b U else pure false
@[simp] def f_(a b:aK->M Bool)(U:aK):M Bool:=do
 let t <-a U
 if t=true then pure true else b U
@[simp] def ef(a:aK->M Bool)(U:aK):M Bool:=do
 let t <-a U
 pure (!t)
def xZ.cx(h:xZ X a bV):Hb X a bV:=h.pt
end
def r5(g:Int->Int->Int):R->R->M R
 |.v (.int i),.v (.int j)=>pure (.v (.int (g i j)))|_,_=>bad
def pb(C:Int->Int->Prop)[∀i j,Decidable (C i j)](g:Int->Int->Int):R->R->M R
 |.v (.int i),.v (.int j)=>if C i j then pure (.v (.int (g i j)))else bad|_,_=>bad
def r4(g:Int->Int->Bool):R->R->M R
 |.v (.int i),.v (.int j)=>pure (.v (.ax (g i j)))|_,_=>bad
section
variable{K:aN}{mg:bo}
def yv{g:Int->Int->Int}:eg K mg (hW λi j=>.int (g i j)) (r5 g):=λO U S e H x y c f k d Q st b a h q=>by
 unfold r5 at h;split at h
 .rename_i i j
  cases h;exact⟨i,j,b,a,q O _ H (Go.refl _ _) st rfl trivial⟩
 .cases h
def sP{C:Int->Int->Prop}{a:Int->Int->Prop}[∀i j,Decidable (a i j)]{g:Int->Int->Int}(e:∀i j,a i j->C i j):eg K mg (kl C λi j=>.int (g i j)) (pb a g):=λO U S l H x y f m n k Q st d b h q=>by
 unfold pb at h;split at h
 .rename_i i j
  by_cases c:a i j
  .rw[if_pos c]at h
   cases h;exact⟨i,j,d,b,e i j c,q O _ H (Go.refl _ _) st rfl trivial⟩
  .rw[if_neg c]at h;cases h
 .cases h
def yu{g:Int->Int->Bool}:eg K mg (hW λi j=>.ax (g i j)) (r4 g):=λO U S e H x y c f k d Q st b a h q=>by
 unfold r4 at h;split at h
 .rename_i i j
  cases h;exact⟨i,j,b,a,q O _ H (Go.refl _ _) st rfl trivial⟩
 .cases h
end
abbrev ew:=r5 (· + ·)
abbrev mI:=r5 (· - ·)
abbrev oMod:=pb (λ_ j=>0<j) (· % ·)
abbrev nU:=pb (λi j=>0<=j/\j<=1000000/\i.natAbs<2 ^ 64) (λi j=>i ^ j.toNat)
abbrev Fy:=pb (λi j=>0<=j/\j<=1000000/\i.natAbs<2 ^ 64) (λi j=>i*2 ^ j.toNat)
abbrev Ap:=pb (λ_ j=>0<=j) (λi j=>i / 2 ^ j.toNat)
abbrev w2:=r5 anu
abbrev ub:=r5 aoV
abbrev oLt:=r4 λi j=>decide (i<j)
abbrev oLe:=r4 λi j=>decide (i<=j)
abbrev nS:=r4 λi j=>decide (j<i)
abbrev ud:=r4 λi j=>decide (j<=i)
section
variable{X:aT}
def Sj:eg X.K X.mg (hW λi j=>.int (i+j)) ew:=yv
def Sw:eg X.K X.mg (hW λi j=>.int (i-j)) mI:=yv
def Sq:eg X.K X.mg (kl (λ_ j=>0<j) λi j=>.int (i % j)) oMod:=sP λ_ _ h=>h
def Ss:eg X.K X.mg (kl xY λi j=>.int (i ^ j.toNat)) nU:=sP λ_ _ h=>h
def Su:eg X.K X.mg (kl xY λi j=>.int (i*2 ^ j.toNat)) Fy:=sP λ_ _ h=>h
def Sv:eg X.K X.mg (kl (λ_ j=>0<=j) λi j=>.int (i / 2 ^ j.toNat)) Ap:=sP λ_ _ h=>h
def Sk:eg X.K X.mg (hW λi j=>.int (anu i j)) w2:=yv
def Sl:eg X.K X.mg (hW λi j=>.int (aoV i j)) ub:=yv
def Ca:eg X.K X.mg (hW λi j=>.ax (decide (i<j))) oLt:=yu
def q_:eg X.K X.mg (hW λi j=>.ax (decide (i<=j))) oLe:=yu
def Sp:eg X.K X.mg (hW λi j=>.ax (decide (j<i))) nS:=yu
def HI:eg X.K X.mg (hW λi j=>.ax (decide (j<=i))) ud:=yu
end
@[simp] def bf(f:R->M R)(a:bt)(U:aK):M R:=do
 let x <-a U
 f x
def qz:R->M R
 |.v (.int i)=>pure (.v (.int (-i)))|_=>bad
def R.ft:R->Option (List D)
 |.v (.l xs)=>some xs|.fr xs=>some xs|.b4 xs=>some xs|.mv xs=>some xs|_=>none
def R.GI:R->Option (List D)
 |.v (.t xs)=>some xs|_=>none
def R.seq(r:R):Option (List D):=r.ft<|> r.GI
def R.oW{K:aN}{mg:bo}{O:a_}{H:aw}{r:R}{v:V}{xs:List D}(h:eu K mg O H r v)(e:r.ft=some xs):∃a ys,v=.ref a/\dq K H a ys/\bl K mg O H xs ys:=by
 unfold R.ft at e;split at e
 .cases e;obtain⟨a,ys,q,l,r⟩:=h;exact⟨a,ys,q,l.cR,r⟩
 .cases e;obtain⟨a,ys,q,l,_,r⟩:=h;exact⟨a,ys,q,dq.of l,r⟩
 .cases e;obtain⟨a,ys,q,l,r⟩:=h;exact⟨a,ys,q,l.cR,r⟩
 .cases e;obtain⟨a,ys,q,l,r⟩:=h;exact⟨a,ys,q,dq.of l,r⟩
 .cases e
def R.agZ{K:aN}{mg:bo}{O:a_}{H:aw}{r:R}{v:V}{xs:List D}(h:eu K mg O H r v)(e:r.GI=some xs):∃a ys,v=.ref a/\dx K H a ys/\bl K mg O H xs ys:=by
 unfold R.GI at e;split at e
 .cases e;exact h
 .cases e
def R.xr{K:aN}{mg:bo}{O:a_}{H:aw}{r:R}{v:V}{xs:List D}(h:eu K mg O H r v)(e:r.seq=some xs):∃a ys,v=.ref a/\(dq K H a ys\/dx K H a ys)/\bl K mg O H xs ys:=by
 unfold R.seq at e
 cases av:r.ft with
 |some b=>rw[av]at e;cases e;obtain⟨a,ys,q,l,r⟩:=R.oW h av;exact⟨a,ys,q,.inl l,r⟩
 |none=>rw[av]at e;obtain⟨a,ys,q,l,r⟩:=R.agZ h e;exact⟨a,ys,q,.inr l,r⟩
def bl.d1{O:a_}{i:Int}(h:bl K mg O H ds xs)(e:d1 ds i=some d):∃x,aA.d1 xs i=some x/\Rep K mg O H d x:=by
 unfold aA.d1 at e ⊢;rw[h.len]
 cases q:lJ ds.length i with
 |none=>rw[q]at e;cases e
 |some j=>rw[q]at e;exact h.get e
def aG:R->R->M R
 |.v (.str z),.v (.int i)=>match d1 z.cps.toList i with
  |some c=>if z.length<=alP then pure (.v (.str ⟨#[c]⟩))else bad|none=>bad
 |x,.v (.int i)=>match x.seq with
  |some xs=>match d1 xs i with
   |some d=>pure (.v d)|none=>bad
  |none=>bad
 |_,_=>bad
def g9:eg K mg (P6 K) aG:=fun O U S ar H x y J b_ bz aq Q st C o h q=>by
 unfold aG at h;split at h
 .rename_i z i
  split at h
  .rename_i c aE
   by_cases hz:z.length<=alP
   .rw[if_pos hz]at h
    cases h;exact .inr (.inr ⟨z,i,c,C,o,hz,aE,q O _ H (Go.refl _ _) st rfl trivial⟩)
   .rw[if_neg hz]at h;cases h
  .cases h
 .rename_i i _
  split at h
  .rename_i xs e
   split at h
   .rename_i d aE
    cases h;obtain⟨a,ys,rfl,l,f⟩:=R.xr C e;obtain⟨z,cX,g⟩:=bl.d1 f aE;have b:=q O z H (Go.refl _ _) st g trivial;rcases l with l|l
    .exact .inl ⟨a,ys,i,z,rfl,o,l,cX,b⟩
    .exact .inr (.inl ⟨a,ys,i,z,rfl,o,l,cX,b⟩)
   .cases h
  .cases h
 .cases h
def ai:c0:=λ_=>pure []
@[simp] def aa(m:bt)(ms:c0)(U:aK):M (List R):=do
 let x <-m U
 let xs <-ms U
 pure (x::xs)
def R.dat:R->M D
 |.v d=>pure d|.fr xs=>pure (.l xs)|_=>bad
def kz:List R->M (List D)
 |[]=>pure []|r::rs=>do
  let d <-r.dat
  let ds <-kz rs
  pure (d::ds)
def cF(H₀:aw)(O:a_):a_:=⟨λb=>match H₀ b,O b with
 |none,.dn=>.free| _,o=>o,O.bD⟩
def Dv{H₀:aw}{O:a_}(h:H₀ b≠none):cF H₀ O b=O b:=by
 show(match H₀ b,O b with|none,.dn=>.free|_,o=>o)=O b
 cases e:H₀ b with
 |none=>exact absurd e h|some o=>cases O b<;>rfl
def Dw{H₀:aw}{O:a_}(h:H₀ b=none)(t:O b=.dn):cF H₀ O b=.free:=by show(match H₀ b,O b with|none,.dn=>.free|_,o=>o)=Own.free;rw[h,t]
def rA{O:a_}(t:O b≠.dn):cF H₀ O b=O b:=by
 show(match H₀ b,O b with|none,.dn=>.free|_,o=>o)=O b;cases e:H₀ b<;>cases aE:O b<;>first|rfl|exact absurd aE t
def i'(H₀:aw)(O:a_):l5 O (cF H₀ O):=⟨λa h=>by rw[rA (by rw[h];intro z;cases z),h],rfl⟩
def jx.c8{O b:a_}(g:l5 O b)(c:∀a,O a=.out->b a=.out)(hw:∀a,O a=w->b a=w):∀{s:Slot}{u:Option V},jx K mg O H w s u->jx K mg b H w s u
 |.e,_,_=>trivial| .v _,_,h=>by obtain⟨v,q,r⟩:=h;exact⟨v,q,r.c8 g⟩
 |.en _ _,_,h=>by obtain⟨a,ys,q,o,l,r⟩:=h;exact⟨a,ys,q,hw a o,l,r.c8 g⟩
 |.b4 _,_,h=>by
  obtain⟨a,ys,q,l,r⟩:=h;refine⟨a,ys,q,l.imp (λz=>⟨z.1,z.2.imp (g.fr a) (c a)⟩) id,r.c8 g⟩
section
variable{K:aN}{mg:bo}{O:a_}{U:aK}{S:bI}{ar:St}{H H₀:aw}
def cN.cF(h:cN K mg O U S ar H)(H₀:aw):cN K mg (cF H₀ O) U S ar H:=
  ⟨⟨λa b=>h.ck.has a λz=>b (by rw[rA (by rw[z];intro w;cases w),z]),h.ck.tabs,h.ck.b9.1,λa m=>by rw[rA (by rw[h.ck.b9.2 a m];intro w;cases w)];exact h.ck.b9.2 a m⟩,h.len,
   λi s e=>(h.loc i s e).c8 (i' _ _) (λa z=>by rw[rA (by rw[z];intro w;cases w),z]) (λa z=>by rw[rA (by rw[z];intro w;cases w),z]),h.f9.all (λ_ _ z=>Rep.c8 (i' _ _) z) rfl λ_ _ _ l _=>l⟩
def Go.cF{c:a_}(g:Go c O H₀ H):Go c (cF H₀ O) H₀ H:=⟨g.same,λb a=>(Dv a).trans (g.own b a),g.bD⟩
def rk{r:R}{v:V}(b:eu K mg O H r v)(c:jv H₀ r v)(h:r.dat.run S=.ok d o):Rep K mg (aC.cF H₀ O) H d v/\S=o:=by
 cases r with
 |v d'=>cases h;exact⟨Rep.c8 (i' _ _) b,rfl⟩
 |fr xs=>
  cases h;obtain⟨a,ys,rfl,l,t,e⟩:=b;exact⟨⟨a,ys,rfl,⟨l,Dw (c a rfl) t⟩,bl.c8 (i' _ _) e⟩,rfl⟩
 |b4 xs=>cases h
 |mv xs=>cases h
theorem yK:∀{rs:List R}{vs:List V}{ds:List D}{S a:bI},i8 K mg O H rs vs->ks H₀ rs vs->(kz rs).run S=.ok ds a->bl K mg (aC.cF H₀ O) H ds vs/\S=a
 |[],vs,ds,S,a,o,_,h=>by cases h;exact⟨o,rfl⟩
 |r::rs,vs,ds,S,a,o,C,h=>by
  obtain⟨d,S1,b,h⟩:=M.inv h;obtain⟨j,i,c,h⟩:=M.inv h;cases h;obtain⟨v,g,rfl,e,f⟩:=o;obtain⟨bq,rfl⟩:=rk (H₀:=H₀) e C.1 b;obtain⟨bO,rfl⟩:=yK f C.2 c;exact⟨⟨v,g,rfl,bq,bO⟩,rfl⟩
end
@[simp] def bL(ms:c0)(U:aK):M R:=do
 let rs <-ms U
 let ds <-kz rs
 hK (ds.length<=1000)
 pure (.v (.t ds))
@[simp] def dW(ms:c0)(U:aK):M R:=do
 let rs <-ms U
 let ds <-kz rs
 hK (ds.length<=1000)
 pure (.fr ds)
@[simp] def cA(f:List R->M R)(ms:c0)(U:aK):M R:=do
 let rs <-ms U
 f rs
def k9(K:aN)(mg:bo)(r:List V->aw->cE->Prop)(f:List R->M R):Prop:=
 ∀O U S C H xs rs J o (Q:cE),cN K mg O U S C H->i8 K mg O H rs xs->(f rs).run S=.ok J o->u7 K mg O U o C H J Q->r xs H Q
section
variable{ms:c0}{r:List V->aw->cE->Prop}{f:List R->M R}
def JE(t:k9 K mg r f):∀a H Q,fL K mg (cA f ms) a H Q->GB r (pw K mg ms) a H Q:=by
 rintro a H Q ⟨O,U,S,p,m,st,h,q⟩;obtain⟨rs,S1,k,h⟩:=M.inv h;refine⟨O,U,S,rs,S1,st,k,λi vs e b j n nn=>?_⟩;exact t i U S1 a e vs rs p m Q j n h λl v H' g s d c=>q l v H' (b.trans g) s d (c.back b.same)
end
def gW:List R->M R
 |[x]=>match x.seq with
  |some xs=>pure (.v (.int (xs.length:Nat)))|none=>bad
 |_=>bad
def nx:List R->M R
 |[.v (.str z)]=>if z.length<=alP then pure (.v (.int (z.length:Nat)))else bad|_=>bad
def R.kind:R->Option String
 |.v .aH=>some "NoneType"|.v (.ax _)=>some "bool"|.v (.int _)=>some "int"|.v (.str _)=>some "str"|.v (.t _)=>some "tuple"|.v (.l _)=>some "list"|.fr _=>some "list"|.b4 _=>some "list"|.mv _=>some "list"|_=>none
def gV:List R->M R
 |[x,.v (.ty n)]=>match x.kind with
  |some t=>if n∈["int","bool","tuple","list","str"]then pure (.v (.ax (v8 t n)))else bad|none=>bad
 |_=>bad
def rv(g:Int->Int->Int):List R->M R
 |[.v (.int i),.v (.int j)]=>pure (.v (.int (g i j)))|_=>bad
abbrev Vg:=rv λi j=>if j > i then j else i
abbrev yU:=rv λi j=>if j<i then j else i
def vz:List R->M R
 |[.v (.int i)]=>pure (.v (.int (if i<0 then -i else i)))|_=>bad
def md:List D->Option (List Bool)
 |[]=>some []|.ax b::r=>(md r).map (b::·)|_=>none
def vA:List R->M R
 |[x]=>match x.ft.bind md with
  |some bs=>pure (.v (.ax (bs.any id)))|none=>bad
 |_=>bad
def oA:List R->M R
 |[x]=>match x.ft.bind md with
  |some bs=>pure (.v (.ax (bs.all id)))|none=>bad
 |_=>bad
def oB:List R->M R
 |[x]=>match x.seq with
  |some xs=>pure (.fr xs)|none=>bad
 |_=>bad
def p_:List R->M R
 |[x]=>match x.seq with
  |some xs=>pure (.v (.t xs))|none=>bad
 |_=>bad
section
variable{K:aN}{mg:bo}
def kY{O:a_}{r:R}(h:i8 K mg O H [r] vs):∃v,vs=[v]/\eu K mg O H r v:=by
 obtain⟨v,c,rfl,a,b⟩:=h;cases b;exact⟨v,rfl,a⟩
def F_{O:a_}{r s:R}(h:i8 K mg O H [r,s] vs):∃v u,vs=[v,u]/\eu K mg O H r v/\eu K mg O H s u:=by
 obtain⟨v,f,rfl,a,b⟩:=h;obtain⟨u,e,rfl,c,d⟩:=b;cases d;exact⟨v,u,rfl,a,c⟩
def ZS:k9 K mg (λxs H Q=>∃p ys,xs=[.ref p]/\(dq K H p ys\/dx K H p ys)/\Q (.int ys.length) H) gW:=λO U S g H vs rs i f Q st b h q=>by
 unfold gW at h;split at h
 .rename_i x
  obtain⟨v,rfl,c⟩:=kY b;split at h
  .rename_i xs e
   cases h;obtain⟨a,ys,rfl,l,d⟩:=R.xr c e;exact⟨a,ys,rfl,l,by rw[d.len];exact q O _ H (Go.refl _ _) st rfl trivial⟩
  .cases h
 .cases h
def ZT:k9 K mg (λxs H Q=>∃z,xs=[.str z]/\z.length<=alP/\Q (.int z.length) H) nx:=λO U S d H vs rs e c Q st a h q=>by
 unfold nx at h;split at h
 .rename_i z
  obtain⟨v,rfl,b⟩:=kY a;cases(show v=.str z from b)
  by_cases hz:z.length<=alP
  .rw[if_pos hz]at h
   cases h;exact⟨z,rfl,hz,q O _ H (Go.refl _ _) st rfl trivial⟩
  .rw[if_neg hz]at h;cases h
 .cases h
def R.Z'{O:a_}{H:aw}{r:R}{v:V}{t:String}(h:eu K mg O H r v)(e:r.kind=some t):m' K H v t:=by
 unfold R.kind at e;split at e
 .cases e;cases h;exact .aH
 .cases e;cases h;exact .ax _
 .cases e;cases h;exact .int _
 .cases e;cases h;exact .str _
 .cases e;obtain⟨a,ys,rfl,l,_⟩:=h;exact .t l
 .cases e;obtain⟨a,ys,rfl,l,_⟩:=h;exact .l l.cR
 .cases e;obtain⟨a,ys,rfl,l,_⟩:=h;exact .l (dq.of l)
 .cases e;obtain⟨a,ys,rfl,l,_⟩:=h;exact .l l.cR
 .cases e;obtain⟨a,ys,rfl,l,_⟩:=h;exact .l (dq.of l)
 .cases e
def ZR:k9 K mg (P5 K) gV:=fun O U S J H vs rs bz C Q st o h q=>by
 unfold gV at h;split at h
 .rename_i x n
  obtain⟨v,u,rfl,c,b⟩:=F_ o;cases(show u=.ty n from b);split at h
  .rename_i t e
   by_cases a:n∈["int","bool","tuple","list","str"]
   .rw[if_pos a]at h
    cases h;exact⟨v,n,t,rfl,R.Z' c e,a,q O _ H (Go.refl _ _) st rfl trivial⟩
   .rw[if_neg a]at h;cases h
  .cases h
 .cases h
def NQ{g:Int->Int->Int}:k9 K mg (λxs H Q=>∃i j,xs=[.int i,.int j]/\Q (.int (g i j)) H) (rv g):=λO U S e H vs rs f d Q st a h q=>by
 unfold rv at h;split at h
 .rename_i i j
  obtain⟨v,u,rfl,c,b⟩:=F_ a;cases(show v=.int i from c);cases(show u=.int j from b);cases h;exact⟨i,j,rfl,q O _ H (Go.refl _ _) st rfl trivial⟩
 .cases h
def ZO:k9 K mg (λxs H Q=>∃i,xs=[.int i]/\Q (.int (if i<0 then -i else i)) H) vz:=λO U S d H vs rs e c Q st a h q=>by
 unfold vz at h;split at h
 .rename_i i
  obtain⟨v,rfl,b⟩:=kY a;cases(show v=.int i from b);cases h;exact⟨i,rfl,q O _ H (Go.refl _ _) st rfl trivial⟩
 .cases h
theorem CD{O:a_}:∀{ds:List D}{ys:List V}{bs:List Bool},bl K mg O H ds ys->md ds=some bs->ys=bs.map V.ax
 |[],ys,bs,h,e=>by cases e;exact h
 |d::ds,ys,bs,h,e=>by
  cases d with
  |ax b=>
   have e:(md ds).map (b::·)=some bs:=e;obtain⟨cs,av,rfl⟩:=aoP.mp e;obtain⟨y,r,rfl,a,c⟩:=h;rw[CD c av,show y=.ax b from a];rfl
  |_=>exact absurd (show(none:Option (List Bool))=some bs from e) (by intro z;cases z)
def ZQ:k9 K mg (λxs H Q=>∃(l:Addr)(bs:List Bool),xs=[.ref l]/\dq K H l (bs.map V.ax)/\Q (.ax (bs.any id)) H) vA:=λO U S g H vs rs i f Q st b h q=>by
 unfold vA at h;split at h
 .rename_i x
  obtain⟨v,rfl,c⟩:=kY b;split at h
  .rename_i xs e
   cases h;obtain⟨j,av,aE⟩:=ap8.mp e;obtain⟨a,ys,rfl,l,d⟩:=R.oW c av;rw[CD d aE]at l;exact⟨a,xs,rfl,l,q O _ H (Go.refl _ _) st rfl trivial⟩
  .cases h
 .cases h
def ZP:k9 K mg (λxs H Q=>∃(l:Addr)(bs:List Bool),xs=[.ref l]/\dq K H l (bs.map V.ax)/\Q (.ax (bs.all id)) H) oA:=λO U S g H vs rs i f Q st b h q=>by
 unfold oA at h;split at h
 .rename_i x
  obtain⟨v,rfl,c⟩:=kY b;split at h
  .rename_i xs e
   cases h;obtain⟨j,av,aE⟩:=ap8.mp e;obtain⟨a,ys,rfl,l,d⟩:=R.oW c av;rw[CD d aE]at l;exact⟨a,xs,rfl,l,q O _ H (Go.refl _ _) st rfl trivial⟩
  .cases h
 .cases h
def ZU:k9 K mg (λxs H Q=>∃p ys,xs=[.ref p]/\(dq K H p ys\/dx K H p ys)/\∀l,H l=none->Q (.ref l) (upd H l (.l ys))) oB:=λO U S k H vs rs m j Q st d h q=>by
 unfold oB at h;split at h
 .rename_i x
  obtain⟨v,rfl,f⟩:=kY d;split at h
  .rename_i xs e
   cases h;obtain⟨a,ys,rfl,l,g⟩:=R.xr f e;refine⟨a,ys,rfl,l,λp c=>q (fV O p .dn) _ _ (Go.new c) (st.new c) ⟨p,ys,rfl,dZ,lU,g.go (Go.new c)⟩ λb i=>?_⟩;cases i;exact c
  .cases h
 .cases h
def zB:k9 K mg (λxs H Q=>∃p ys,xs=[.ref p]/\((dq K H p ys/\∀l,H l=none->Q (.ref l) (upd H l (.t ys)))\/(dx K H p ys/\Q (.ref p) H))) p_:=λO U S i H vs rs j g Q st d h q=>by
 unfold p_ at h;split at h
 .rename_i x
  obtain⟨v,rfl,f⟩:=kY d;split at h
  .rename_i xs e
   cases h;obtain⟨a,ys,rfl,l,c⟩:=R.xr f e;refine⟨a,ys,rfl,?_⟩;rcases l with l|l
   .exact .inl ⟨l,λp b=>q O _ _ (Go.ho b) (st.ho b) ⟨p,ys,rfl,dx.of dZ,c.go (Go.ho b)⟩ trivial⟩
   .exact .inr ⟨l,q O _ _ (Go.refl _ _) st ⟨a,ys,rfl,l,c⟩ trivial⟩
  .cases h
 .cases h
end
def cutD{α:Type}(xs:List α)(lo hi:Option Int):List α:=(xs.drop (c4.cu xs.length 0 lo)).take (c4.cu xs.length xs.length hi-c4.cu xs.length 0 lo)
def bl.cut{O:a_}(h:bl K mg O H ds xs)(lo hi:Option Int):bl K mg O H (cutD ds lo hi) (p3 xs lo hi):=by
 unfold cutD p3;rw[h.len];exact(h.drop _).take _
abbrev lp:=aK->M (Option Int)
def agS(K:aN)(mg:bo)(m:lp):dM:=λc H Q=>pW K mg m c H λO U d b=>∀a H',Go O a H H'->cN K mg a U d c H'->Q b H'
abbrev Rw(X:aT)(e:Option Expr)(m:lp):Prop:=u6 X e (agS X.K X.mg m)
def jC:lp:=λ_=>pure none
@[simp] def j5(m:bt)(U:aK):M (Option Int):=do
 let r <-m U
 match r with
 |.v (.int i)=>pure (some i)|_=>bad
def pd(x:R)(lo hi:Option Int):M R:=
 match x with
 |.v (.t xs)=>if c4.cu xs.length 0 lo=0/\c4.cu xs.length xs.length hi=xs.length then bad else pure (.v (.t (cutD xs lo hi)))|_=>match x.ft with
  |some xs=>pure (.fr (cutD xs lo hi))|none=>bad
@[simp] def oi(a:bt)(lo hi:lp)(U:aK):M R:=do
 let x <-a U
 let l <-lo U
 let h <-hi U
 pd x l h
def R.own:R->Option (List D)
 |.v (.l xs)=>some xs|.fr xs=>some xs|.mv xs=>some xs|_=>none
def o'(x y:R):M R:=match x.own,y.own with
 |some xs,some ys=>if xs.length+ys.length<=alP then pure (.fr (xs++ys))else bad|_,_=>bad
def pa:R->R->M R
 |.v (.str x),.v (.str y)=>if x.length+y.length<=alP then pure (.v (.str (x++y)))else bad|_,_=>bad
def R.FP{K:aN}{mg:bo}{O:a_}{H:aw}{r:R}{v:V}{xs:List D}(h:eu K mg O H r v)(e:r.own=some xs):∃a ys,v=.ref a/\H a=some (.l ys)/\bl K mg O H xs ys:=by
 unfold R.own at e;split at e
 .cases e;obtain⟨a,ys,q,l,r⟩:=h;exact⟨a,ys,q,l.1,r⟩
 .cases e;obtain⟨a,ys,q,l,_,r⟩:=h;exact⟨a,ys,q,l,r⟩
 .cases e;obtain⟨a,ys,q,l,r⟩:=h;exact⟨a,ys,q,l,r⟩
 .cases e
section
variable{K:aN}{mg:bo}
def Sm:eg K mg P0 o':=fun O U S ar H x y o b_ bz aq Q st J C h q=>by
 unfold o' at h
 cases av:o.own with
 |none=>rw[av]at h;cases h
 |some xs=>
  cases aE:b_.own with
  |none=>rw[av,aE]at h;cases h
  |some ys=>
   rw[av,aE]at h;dsimp only at h
   by_cases hl:xs.length+ys.length<=alP
   .rw[if_pos hl]at h
    cases h;obtain⟨a,us,rfl,f,d⟩:=R.FP J av;obtain⟨b,j,rfl,i,e⟩:=R.FP C aE;refine⟨a,b,us,j,rfl,rfl,f,i,by rw[d.len,e.len];exact hl,λp c=>q (fV O p .dn) _ _ (Go.new c) (st.new c) ⟨p,_,rfl,dZ,lU,(d.append e).go (Go.new c)⟩ λb g=>?_⟩;cases g;exact c
   .rw[if_neg hl]at h;cases h
def Sn:eg K mg (λx y H Q=>∃i j,x=.str i/\y=.str j/\i.length+j.length<=alP/\Q (.str (i++j)) H) pa:=λO U S e H x y c f g d Q st b a h q=>by
 unfold pa at h;split at h
 .rename_i i j
  by_cases hl:i.length+j.length<=alP
  .rw[if_pos hl]at h
   cases h;exact⟨i,j,b,a,hl,q O _ H (Go.refl _ _) st rfl trivial⟩
  .rw[if_neg hl]at h;cases h
 .cases h
end
def D.py:D->PyData
 |.aH=>.none|.ax b=>.bool b|.int i=>.int i|.str x=>.str x|.t xs=>.tuple (lO xs)|.l xs=>.list (lO xs)|.ref _=>.none|.fn _=>.none|.ty _=>.none
where lO:List D->List PyData
 |[]=>[]
 |x::xs=>x.py::lO xs
mutual
def D.bY:D->Nat->Bool
 |.aH,_=>true|.ax _,_=>true|.int _,_=>true|.str x,_=>al5 x|.t xs,n=>match n with
  |0=>false|k+1=>hg xs k
 |.l xs,n=>match n with
  |0=>false|k+1=>hg xs k
 |.ref _,_=>false|.fn _,_=>false|.ty _,_=>false
def hg:List D->Nat->Bool
 |[],_=>true|x::xs,n=>x.bY n&&hg xs n
end
mutual
def eo:D->D->Bool
 |.aH,b=>match b with|.aH=>true|_=>false
 |.ax a,b=>match b with|.ax c=>a==c|.int j=>(if a then 1 else 0)==j|_=>false
 |.int i,b=>match b with|.ax c=>i==(if c then 1 else 0)|.int j=>i==j|_=>false
 |.str x,b=>match b with|.str y=>x==y|_=>false
 |.t xs,b=>match b with|.t ys=>mL xs ys|_=>false
 |.l xs,b=>match b with|.l ys=>mL xs ys|_=>false
 |.ref _,_=>false|.fn _,_=>false|.ty _,_=>false
def mL:List D->List D->Bool
 |[],ys=>match ys with|[]=>true|_=>false
 |x::xs,ys=>match ys with|[]=>false|y::r=>eo x y&&mL xs r
end
mutual
theorem Dg:∀(a b:D)(n m:Nat),a.bY n=true->b.bY m=true->aqm a.py b.py=eo a b
 |.aH,b,n,m,C,o=>by cases b<;>first|rfl|(simp[D.bY]at o)
 |.ax _,b,n,m,C,o=>by cases b<;>first|rfl|(simp[D.bY]at o)
 |.int _,b,n,m,C,o=>by cases b<;>first|rfl|(simp[D.bY]at o)
 |.str _,b,n,m,C,o=>by cases b<;>first|rfl|(simp[D.bY]at o)
 |.t xs,b,n,m,C,o=>by
  cases b with
  |t ys=>
   cases n with
   |zero=>simp[D.bY]at C|succ k=>
    cases m with
    |zero=>simp[D.bY]at o|succ j=>exact Dh xs ys k j C o
  |ref _=>simp[D.bY]at o|fn _=>simp[D.bY]at o|ty _=>simp[D.bY]at o|_=>rfl
 |.l xs,b,n,m,C,o=>by
  cases b with
  |l ys=>
   cases n with
   |zero=>simp[D.bY]at C|succ k=>
    cases m with
    |zero=>simp[D.bY]at o|succ j=>exact Dh xs ys k j C o
  |ref _=>simp[D.bY]at o|fn _=>simp[D.bY]at o|ty _=>simp[D.bY]at o|_=>rfl
 |.ref _,b,n,m,C,o=>by simp[D.bY]at C| .fn _,b,n,m,C,o=>by simp[D.bY]at C| .ty _,b,n,m,C,o=>by simp[D.bY]at C
theorem Dh:∀(xs ys:List D)(n m:Nat),hg xs n=true->hg ys m=true->PyData.eqvAll (D.py.lO xs) (D.py.lO ys)=mL xs ys
 |[],ys,n,m,C,o=>by cases ys<;>rfl
 |x::xs,ys,n,m,C,o=>by
  cases ys with
  |nil=>rfl|cons y r=>
   rw[hg,amc]at C o;show(aqm x.py y.py&&PyData.eqvAll (D.py.lO xs) (D.py.lO r))=(eo x y&&mL xs r);rw[Dg x y n m C.1 o.1,Dh xs r n m C.2 o.2]
end
mutual
theorem Mz:∀(a:D)(n:Nat),a.bY n=true->a.py.canLay0=true/\a.py.depth<=n
 |.aH,n,h=>⟨rfl,amt _⟩
 |.ax _,n,h=>⟨rfl,amt _⟩
 |.int _,n,h=>⟨rfl,amt _⟩
 |.str _,n,h=>⟨h,amt _⟩
 |.t xs,n,h=>by
  cases n with
  |zero=>simp[D.bY]at h|succ k=>obtain⟨bq,bO⟩:=DD xs k h;exact⟨bq,Nat.succ_le_succ bO⟩
 |.l xs,n,h=>by
  cases n with
  |zero=>simp[D.bY]at h|succ k=>obtain⟨bq,bO⟩:=DD xs k h;exact⟨bq,Nat.succ_le_succ bO⟩
 |.ref _,n,h=>by simp[D.bY]at h| .fn _,n,h=>by simp[D.bY]at h| .ty _,n,h=>by simp[D.bY]at h
theorem DD:∀(xs:List D)(n:Nat),hg xs n=true->PyData.canLayAll0 (D.py.lO xs)=true/\PyData.depthAll (D.py.lO xs)<=n
 |[],n,h=>⟨rfl,amt _⟩
 |x::xs,n,h=>by
  rw[hg,amc]at h;obtain⟨a1,a2⟩:=Mz x n h.1;obtain⟨a,b⟩:=DD xs n h.2;exact⟨by show(x.py.canLay0&&PyData.canLayAll0 (D.py.lO xs))=true;rw[a1,a];rfl,by show max x.py.depth (PyData.depthAll (D.py.lO xs))<=n;omega⟩
end
def y4{a:D}(h:a.bY 64=true):aqz a.py=true:=by
 obtain⟨b,c⟩:=Mz a 64 h;show(a.py.canLay0&&decide (a.py.depth<=64))=true;rw[b,decide_eq_true c];rfl
mutual
theorem Rep.py{O:a_}:∀{d:D}{v:V}{n:Nat},d.bY n=true->Rep K mg O H d v->aA.Rep K H d.py v
 |.aH,_,_,_,h=>h|.ax _,_,_,_,h=>h|.int _,_,_,_,h=>h|.str _,_,_,_,h=>h|.t _,_,n,g,h=>by
  cases n with
  |zero=>simp[D.bY]at g|succ k=>obtain⟨a,ys,q,l,r⟩:=h;exact⟨a,ys,q,l,bl.py (n:=k) g r⟩
 |.l _,_,n,g,h=>by
  cases n with
  |zero=>simp[D.bY]at g|succ k=>obtain⟨a,ys,q,l,r⟩:=h;exact⟨a,ys,q,l.cR,bl.py (n:=k) g r⟩
 |.ref _,_,_,g,h=>by simp[D.bY]at g| .fn _,_,_,g,h=>by simp[D.bY]at g| .ty _,_,_,g,h=>by simp[D.bY]at g
theorem bl.py{O:a_}:∀{ds:List D}{ys:List V}{n:Nat},hg ds n=true->bl K mg O H ds ys->aA.bl K H (D.py.lO ds) ys
 |[],_,_,_,h=>h|_::_,_,n,g,h=>by
  rw[hg,amc]at g;obtain⟨x,r,q,a,b⟩:=h;exact⟨x,r,q,Rep.py g.1 a,bl.py g.2 b⟩
end
def R.arg:R->D
 |.v d=>d|.fr xs=>.l xs|.b4 xs=>.l xs|.mv xs=>.l xs
def R.ym{K:aN}{mg:bo}{O:a_}{H:aw}{r:R}{v:V}{n:Nat}(g:r.arg.bY n=true)(h:eu K mg O H r v):aA.Rep K H r.arg.py v:=by
 have ft:∀xs,r.ft=some xs->(D.l xs).bY n=true->aA.Rep K H (D.l xs).py v:=λxs e g=>by
  obtain⟨a,ys,q,l,b⟩:=R.oW h e
  cases n with
  |zero=>simp[D.bY]at g|succ k=>exact⟨a,ys,q,l,bl.py (n:=k) g b⟩
 cases r with
 |v d=>exact Rep.py g h|fr xs=>exact ft xs rfl g|b4 xs=>exact ft xs rfl g|mv xs=>exact ft xs rfl g
def oEq(x y:R):M R:=if x.arg.bY 64=true/\y.arg.bY 64=true then pure (.v (.ax (eo x.arg y.arg)))else bad
def dX(x y:R):M R:=if x.arg.bY 64=true/\y.arg.bY 64=true then pure (.v (.ax (!eo x.arg y.arg)))else bad
section
variable{K:aN}{mg:bo}
def B':eg K mg (AE K false) oEq:=λO U S g H x y a e i f Q st d b h q=>by
 unfold oEq at h
 by_cases c:a.arg.bY 64=true/\e.arg.bY 64=true
 .rw[if_pos c]at h
  cases h;refine⟨_,_,R.ym c.1 d,R.ym c.2 b,y4 c.1,y4 c.2,?_⟩;rw[if_neg alR,Dg _ _ _ _ c.1 c.2];exact q O _ H (Go.refl _ _) st rfl trivial
 .rw[if_neg c]at h;cases h
def sO:eg K mg (AE K true) dX:=λO U S g H x y a e i f Q st d b h q=>by
 unfold dX at h
 by_cases c:a.arg.bY 64=true/\e.arg.bY 64=true
 .rw[if_pos c]at h
  cases h;refine⟨_,_,R.ym c.1 d,R.ym c.2 b,y4 c.1,y4 c.2,?_⟩;rw[if_pos rfl,Dg _ _ _ _ c.1 c.2];exact q O _ H (Go.refl _ _) st rfl trivial
 .rw[if_neg c]at h;cases h
end
def R.ka:R->Bool
 |.v .aH=>true|_=>false
def jS(x:R):R->M R
 |.v .aH=>pure (.v (.ax x.ka))|_=>bad
def i1(x:R):R->M R
 |.v .aH=>pure (.v (.ax (!x.ka)))|_=>bad
section
variable{K:aN}{mg:bo}
def NI{O:a_}{r:R}{v:V}(h:eu K mg O H r v):decide (v=.aH)=r.ka:=by
 have no:∀{a:Addr},v=.ref a->decide (v=.aH)=false:=λ{a} e=>by rw[e];exact decide_eq_false (by intro z;cases z)
 cases r with
 |v d=>
  cases d with
  |aH=>exact decide_eq_true h|ax _=>rw[show v=_ from h];rfl|int _=>rw[show v=_ from h];rfl|str _=>rw[show v=_ from h];rfl|ty _=>rw[show v=_ from h];rfl|t _=>obtain⟨a,_,e,_⟩:=h;exact no e
  |l _=>obtain⟨a,_,e,_⟩:=h;exact no e
  |ref _=>obtain⟨a,e,_⟩:=h;exact no e
  |fn _=>obtain⟨a,e,_⟩:=h;exact no e
 |fr _=>obtain⟨a,_,e,_⟩:=h;exact no e
 |b4 _=>obtain⟨a,_,e,_⟩:=h;exact no e
 |mv _=>obtain⟨a,_,e,_⟩:=h;exact no e
def HL:eg K mg (λx y H Q=>y=.aH/\Q (.ax (decide (x=.aH))) H) jS:=λO U S e H x y c f g d Q st b a h q=>by
 unfold jS at h;split at h
 .cases h;exact⟨a,by rw[NI b];exact q O _ H (Go.refl _ _) st rfl trivial⟩
 .cases h
def HM:eg K mg (λx y H Q=>y=.aH/\Q (.ax (!decide (x=.aH))) H) i1:=λO U S e H x y c f g d Q st b a h q=>by
 unfold i1 at h;split at h
 .cases h;exact⟨a,by rw[NI b];exact q O _ H (Go.refl _ _) st rfl trivial⟩
 .cases h
end
def D.flat:D->Bool
 |.aH=>true|.ax _=>true|.int _=>true|.str _=>true|_=>false
def inD(x:D)(xs:List D):Bool:=xs.any λy=>eo y x
def kW(neg:Bool)(x y:R):M R:=match x,y.seq with
 |.v d,some xs=>if d.flat=true/\xs.all D.flat=true then pure (.v (.ax (if neg then !inD d xs else inD d xs)))else bad|_,_=>bad
section
variable{K:aN}{mg:bo}
def Mm{O:a_}{d:D}{v:V}(h:Rep K mg O H d v)(f:d.flat=true):ny v=true:=by
 cases d with
 |aH=>rw[show v=_ from h];rfl|ax _=>rw[show v=_ from h];rfl|int _=>rw[show v=_ from h];rfl|str _=>rw[show v=_ from h];rfl|_=>exact absurd (show false=true from f) alR
def U8{O:a_}{d e:D}{v u:V}(h:Rep K mg O H d v)(h':Rep K mg O H e u)(f:d.flat=true)(a:e.flat=true):nu v u=eo d e:=by
 cases d with
 |aH=>
  rw[show v=_ from h]
  cases e with
  |aH=>rw[show u=_ from h'];rfl|ax _=>rw[show u=_ from h'];rfl|int _=>rw[show u=_ from h'];rfl|str _=>rw[show u=_ from h'];rfl|_=>exact absurd (show false=true from a) alR
 |ax _=>
  rw[show v=_ from h]
  cases e with
  |aH=>rw[show u=_ from h'];rfl|ax _=>rw[show u=_ from h'];rfl|int _=>rw[show u=_ from h'];rfl|str _=>rw[show u=_ from h'];rfl|_=>exact absurd (show false=true from a) alR
 |int _=>
  rw[show v=_ from h]
  cases e with
  |aH=>rw[show u=_ from h'];rfl|ax _=>rw[show u=_ from h'];rfl|int _=>rw[show u=_ from h'];rfl|str _=>rw[show u=_ from h'];rfl|_=>exact absurd (show false=true from a) alR
 |str _=>
  rw[show v=_ from h]
  cases e with
  |aH=>rw[show u=_ from h'];rfl|ax _=>rw[show u=_ from h'];rfl|int _=>rw[show u=_ from h'];rfl|str _=>rw[show u=_ from h'];rfl|_=>exact absurd (show false=true from a) alR
 |_=>exact absurd (show false=true from f) alR
theorem ND{O:a_}{d:D}{v:V}(h:Rep K mg O H d v)(f:d.flat=true):∀{ds:List D}{ys:List V},bl K mg O H ds ys->ds.all D.flat=true->ys.all ny=true/\Es v ys=inD d ds
 |[],ys,r,_=>by cases r;exact⟨rfl,rfl⟩
 |e::ds,ys,r,g=>by
  obtain⟨y,t,rfl,a,b⟩:=r;rw[aoa,amc]at g;obtain⟨bq,bO⟩:=ND h f b g.2;refine⟨by rw[aoa,Mm a g.1,bq];rfl,?_⟩;show(y::t).any (λz=>nu z v)=(e::ds).any λz=>eo z d
  rw[apI,apI,U8 a h g.1 f];exact congrArg _ bO
def HJ(neg:Bool):eg K mg (P4 K neg) (kW neg):=λO U S n H x y k p r m Q st b f h q=>by
 unfold kW at h;split at h
 .rename_i d xs e
  by_cases c:d.flat=true/\xs.all D.flat=true
  .rw[if_pos c]at h
   cases h;obtain⟨a,ys,rfl,l,g⟩:=R.xr f e;obtain⟨i,j⟩:=ND b c.1 g c.2;exact⟨a,ys,rfl,l,Mm b c.1,i,by rw[j];exact q O _ H (Go.refl _ _) st rfl trivial⟩
  .rw[if_neg c]at h;cases h
 .cases h
end
inductive fG where
 |bu (U:aK)|cp (r:R)|bk (U:aK)|cx (U:aK)
abbrev aL:=aK->M fG
def Fix(o:gG):Prop:=(∃xs,o=.t xs)\/∃a8 u,o=.cF a8 u
structure d5(O ak:a_)(H H':aw):Prop where
 cells:∀b o,H b=some o->(O b=.free\/O b=.out\/Fix o)->(h:o8 o:=by exact trivial)->H' b=some o
 own:∀b,H b≠none->(O b=.free\/O b=.out)->ak b=O b
 has:∀b,H b≠none->H' b≠none
 cJ:∀b ps,H b=some (.f' ps)->∃lN,H' b=some (.f' lN)
 bY:TabsOk H->TabsOk H'
 bD:ak.bD=O.bD
def Go.bM{O a:a_}(g:Go O a H H'):d5 O a H H':=⟨λb o e _ n=>g.same.at' b o e n,λb h _=>g.own b h,λ_ h=>g.same.some h,g.same.cJ,g.same.bY,g.bD⟩
def d5.refl(O:a_)(H:aw):d5 O O H H:=(Go.refl O H).bM
def d5.trans{O i j:a_}(a:d5 O i H H1)(b:d5 i j H1 C):d5 O j H C:=by
 have d:∀{b:Addr}{o:gG},H b=some o->H b≠none:=λe z=>by rw[e]at z;cases z
 refine⟨λc o e h n=>?_,λc h f=>?_,λc h=>b.has c (a.has c h),λc ps h=>let⟨p1,av⟩:=a.cJ c ps h;b.cJ c p1 av,λg=>b.bY (a.bY g),b.bD.trans a.bD⟩
 .have av:=a.cells c o e h n
  rcases h with h|h|h
  .exact b.cells c o av (.inl ((a.own c (d e) (.inl h)).trans h)) n
  .exact b.cells c o av (.inr (.inl ((a.own c (d e) (.inr h)).trans h))) n
  .exact b.cells c o av (.inr (.inr h)) n
 .have av:=a.own c h f
  rw[b.own c (a.has c h) (by rw[av];exact f),av]
def fg(U U':aK)(a b:St):Prop:=(∀(i:Nat)(xs:List D),U'[i]? = some (Slot.b4 xs)->U[i]? = some (Slot.b4 xs)/\b[i]? = a[i]?)/\
 (∀(i:Nat)(ys:List D),U'[i]? = some (Slot.en true ys)->(∃xs,U[i]? = some (Slot.en true xs))/\b[i]? = a[i]?)
def fg.refl(U:aK)(a:St):fg U U a a:=⟨λ_ _ h=>⟨h,rfl⟩,λ_ _ h=>⟨⟨_,h⟩,rfl⟩⟩
def fg.trans{v c d:St}(a:fg U C v c)(b:fg C o c d):fg U o v d:=⟨λi xs h=>⟨(a.1 i xs (b.1 i xs h).1).1,(b.1 i xs h).2.trans (a.1 i xs (b.1 i xs h).1).2⟩,λi ys h=>by
 obtain⟨⟨xs,e⟩,q⟩:=b.2 i ys h;obtain⟨z,f⟩:=a.2 i xs e;exact⟨z,q.trans f⟩⟩
def fg.put{U:aK}{s c:Slot}(b:U[i]? = some c)(g:∀xs,s≠.b4 xs)(d:∀xs,s=.en true xs->∃ys,c=.en true ys):fg U (U.set i s) o o:=by
 have k:i<U.length:=(alK.mp b).1;have key:∀(j:Nat)(t:Slot),(U.set i s)[j]? = some t->(i=j/\t=s)\/(i≠j/\U[j]? = some t):=λj t h=>by
  by_cases a:i=j
  .subst a
   rw[al9 k]at h;exact .inl ⟨rfl,(amf h).symm⟩
  .rw[alU a]at h
   exact .inr ⟨a,h⟩
 refine⟨λj xs h=>?_,λj ys h=>?_⟩
 .rcases key j _ h with⟨_,e⟩|⟨_,e⟩
  .exact absurd e.symm (g xs)
  .exact⟨e,rfl⟩
 .rcases key j _ h with⟨rfl,e⟩|⟨_,e⟩
  .obtain⟨l,f⟩:=d ys e.symm
   exact⟨⟨l,f▸b⟩,rfl⟩
  .exact⟨⟨_,e⟩,rfl⟩
def BP(K:aN)(mg:bo)(O:a_)(H:aw):R->V->Prop
 |.v d,v=>Rep K mg O H d v|.fr xs,v=>∃a ys,v=.ref a/\H a=some (.l ys)/\(O a=.dn\/∃i,O a=.loc i)/\bl K mg O H xs ys|_,_=>False
def oc(K:aN)(mg:bo)(O:a_)(U:aK)(c:bI)(d:St)(H:aw)(U':aK)(N:St->aw->Prop):Prop:=
 ∀b a H',d5 O b H H'->cN K mg b U' c a H'->fg U U' d a->N a H'
def yd(K:aN)(mg:bo)(O:a_)(U:aK)(b:bI)(d:St)(H:aw)(e:fG)(c:Ends):Prop:=match e with
 |.bu U'=>oc K mg O U b d H U' c.bu|.bk U'=>oc K mg O U b d H U' c.bk|.cx U'=>oc K mg O U b d H U' c.cx|.cp r=>∀a v H',d5 O a H H'->dh a H'->fY K mg a H' b->BP K mg a H' r v->c.cp v H'
def oc.bM{O a:a_}{N:St->aw->Prop}(h:oc K mg O U o C H U' N)(g:d5 O a H H1)(k:fg U J C xW):oc K mg a J o xW H1 U' N:=
 λb c H' g' st d=>h b c H' (g.trans g') st (k.trans d)
def yd.bM{O a:a_}(h:yd K mg O U C J H o hA)(g:d5 O a H H1)(k:fg U fE J xW):yd K mg a fE C xW H1 o hA:=by
 cases o with
 |bu U'=>exact oc.bM h g k|bk U'=>exact oc.bM h g k|cx U'=>exact oc.bM h g k|cp r=>exact λb v H' g' d e r=>h b v H' (g.trans g') d e r
def lS(K:aN)(mg:bo)(m:aL):gu:=λd a H=>pW K mg m a H λO U c b=>yd K mg O U c a H b d
abbrev Rx(X:aT)(st:Stmt)(m:aL):Prop:=iw X st (lS X.K X.mg m)
abbrev u0(X:aT)(a:List Stmt)(m:aL):Prop:=ix X a (lS X.K X.mg m)
def gL{s:Stmt}{t t':gu}(h:iw X s t)(i:∀D U H,t' D U H->t D U H):iw X s t':=λzn s U H D J q=>h zn s U H D J (i _ _ _ q)
def Az{s:List Stmt}{t t':gu}(h:ix X s t)(i:∀D U H,t' D U H->t D U H):ix X s t':=λzn s U H D J q=>h zn s U H D J (i _ _ _ q)
@[simp] def bS(U:aK):M fG:=pure (.bu U)
def yC:aL:=λ_=>pure (.cp (.v .aH))
def oh:aL:=λ_=>bad
@[simp] def bE(a b:aL)(U:aK):M fG:=do
 let c <-a U
 match c with
 |.bu U'=>b U'|c=>pure c
@[simp] def a0(m:bt)(U:aK):M fG:=do
 let r <-m U
 match r with
 |.v d=>pure (.cp (.v d))|.fr xs=>pure (.cp (.fr xs))|_=>bad
@[simp] def yD(i:Nat)(U:aK):M fG:=match U[i]? with
 |some (.en false xs)=>pure (.cp (.fr xs))|_=>bad
@[simp] def b7(t:aK->M Bool)(a b:aL)(U:aK):M fG:=do
 let t <-t U
 if t=true then a U else b U
@[simp] def b8(i:Nat)(m:bt)(U:aK):M fG:=do
 let r <-m U
 let d <-r.dat
 pure (.bu (U.set i (.v d)))
@[simp] def nq(i:Nat)(m:bt)(U:aK):M fG:=do
 let r <-m U
 match r with
 |.fr xs=>pure (.bu (U.set i (.en false xs)))|_=>bad
section
variable{st:Stmt}{a b:aL}{e:Expr}{m:bt}
theorem Qe{O:a_}{r:R}{v:V}(h:eu K mg O H r v)(c:(∃d,r=.v d)\/∃xs,r=.fr xs):BP K mg O H r v:=by
 rcases c with⟨d,rfl⟩|⟨xs,rfl⟩
 .exact h
 .obtain⟨a,ys,q,l,t,f⟩:=h;exact⟨a,ys,q,l,.inl t,f⟩
theorem cN.set{O:a_}{U:aK}{S:bI}{d:St}{s:Slot}{v:V}(st:cN K mg O U S d H)(h:jx K mg O H (.loc i) s (some v)):cN K mg O (U.set i s) S (d.set i (some v)) H:=by
 refine⟨st.ck,by rw[amr,amr];exact st.len,λj t e=>?_,st.f9⟩
 by_cases c:i=j
 .subst c
  have hl:i<U.length:=by
   have:=(alK.mp e).1
   rwa[amr]at this
  rw[al9 hl]at e;cases e;rw[al9 (by rw[<-st.len];exact hl)];exact h
 .rw[alU c]at e
  rw[alU c];exact st.loc j t e
theorem fg.set{U:aK}{c:St}{s:Slot}{v:Option V}(hs:∀xs,s≠.b4 xs)(f:∀xs,s≠.en true xs:=by intro xs z;cases z):fg U (U.set i s) c (c.set i v):=by
 have key:∀(j:Nat)(t:Slot),(U.set i s)[j]? = some t->t≠s->U[j]? = some t/\(c.set i v)[j]? = c[j]?:=λj t h g=>by
  by_cases d:i=j
  .subst d
   have hl:i<U.length:=by
    have:=(alK.mp h).1
    rwa[amr]at this
   rw[al9 hl]at h;exact absurd (amf h).symm g
  .rw[alU d]at h ⊢
   exact⟨h,rfl⟩
 refine⟨λj xs h=>key j _ h (λz=>hs xs z.symm),λj ys h=>?_⟩;obtain⟨a,b⟩:=key j _ h (λz=>f ys z.symm);exact⟨⟨ys,a⟩,b⟩
theorem cN.own{K:aN}{mg:bo}{O:a_}{U:aK}{S:bI}{c:St}{H:aw}{i:Nat}{a:Addr}{xs:List D}{ys:List V}(st:cN K mg O U S c H)(k:O a=.dn)(hl:H a=some (.l ys))(f:bl K mg O H xs ys) :
  cN K mg (fV O a (.loc i)) (U.set i (.en false xs)) S (c.set i (some (.ref a))) H:=by
 have ne:∀{b:Addr}{w:Own},O b=w->w≠.dn->fV O a (.loc i) b=w:=λ{b w} h hw=>by
  rw[pC];exact h;rintro rfl;exact hw (h.symm.trans k)
 have c8:l5 O (fV O a (.loc i)):=⟨λb h=>ne h (by intro z;cases z),rfl⟩;have g:cN K mg (fV O a (.loc i)) U S c H:=by
  refine⟨⟨λb d=>?_,st.ck.tabs,st.ck.b9.1,λb m=>ne (st.ck.b9.2 b m) (by intro z;cases z)⟩,st.len,λj s e=>(st.loc j s e).c8 c8 (λb h=>ne h (by intro z;cases z)) (λb h=>ne h (by intro z;cases z)),st.f9.all (λ_ _ z=>Rep.c8 c8 z) rfl λ_ _ _ l _=>l⟩
  by_cases e:b=a
  .rw[e,hl];intro z;cases z
  .rw[pC e]at d;exact st.ck.has b d
 exact g.set ⟨a,ys,rfl,lU,hl,f.c8 c8⟩
theorem d5.dn{O:a_}{H:aw}{a:Addr}{w:Own}(c:O a=.dn):d5 O (fV O a w) H H:=by
 refine⟨λb o e _ _=>e,λb h f=>?_,λ_ h=>h,λ_ ps h=>⟨ps,h⟩,id,rfl⟩;rw[pC];rintro rfl;rw[c]at f;rcases f with z|z<;>cases z
theorem Qq{te:TE}(hi:∀U H Q,fL K mg m U H Q->te U H Q):∀D c H,lS K mg (b8 i m) D c H->uF te (kF i) D c H:=by
 rintro D c H ⟨O,U,S,s,u,st,h,q⟩;obtain⟨r,S1,k,h⟩:=M.inv h;obtain⟨d,t,l,h⟩:=M.inv h;cases h;refine hi c H _ ⟨O,U,S,r,S1,st,k,λg v f p j n nn=>?_⟩;obtain⟨dg,rfl⟩:=rk (H₀:=H) n nn l;exact q (cF H g) _ f p.cF.bM ((j.cF H).set ⟨v,rfl,dg⟩) (fg.set λxs z=>by cases z)
theorem Pr{te:TE}(hi:∀U H Q,fL K mg m U H Q->te U H Q):∀D c H,lS K mg (nq i m) D c H->uF te (kF i) D c H:=by
 rintro D c H ⟨O,U,S,s,u,st,h,q⟩;obtain⟨r,S1,g,h⟩:=M.inv h;split at h
 .rename_i xs
  cases h;refine hi c H _ ⟨O,U,S,_,_,st,g,λp v d n f j nn=>?_⟩;obtain⟨a,ys,rfl,l,t,k⟩:=j;exact q _ _ d (n.bM.trans (d5.dn t)) (f.own t l k) (fg.set λxs z=>by cases z)
 .cases h
end
@[simp] def JF(i:Nat)(f:List D->List R->M (R×List D))(ms:c0)(U:aK):M (R×aK):=do
 let rs <-ms U
 match U[i]? with
 |some (.en p xs)=>do
  let(r,ys) <-f xs rs
  pure (r,U.set i (.en p ys))
 |_=>bad
@[simp] def rb(i:Nat)(f:List D->List R->M (R×List D))(ms:c0)(U:aK):M fG:=do
 let(_,U') <-JF i f ms U
 pure (.bu U')
def k2(xs:List D):List R->M (R×List D)
 |[r]=>do
  let d <-r.dat
  hK (xs.length<alP)
  pure (.v .aH,xs++[d])
 |_=>bad
def xG(xs:List D):List R->M (R×List D)
 |[r]=>match r.own with
  |some ys=>do
   hK (xs.length+ys.length<=alP)
   pure (.v .aH,xs++ys)
  |none=>bad
 |_=>bad
section
variable{K:aN}{mg:bo}{O:a_}{H:aw}{l:Addr}{zs ws:List V}
mutual
theorem Rep.dY(b:O l≠.free)(hl:H l=some (.l zs)):∀{d:D}{v:V},Rep K mg O H d v->Rep K mg O (upd H l (.l ws)) d v
 |.aH,_,h=>h|.ax _,_,h=>h|.int _,_,h=>h|.str _,_,h=>h|.t _,_,h=>by
  obtain⟨a,ys,q,t,r⟩:=h;refine⟨a,ys,q,?_,bl.dY b hl r⟩;rcases t with(t|⟨o,t⟩)|t
  .exact .inl (.inl (by rw[c1 (O0 t hl (by intro z;cases z))];exact t))
  .exact .inl (.inr ⟨o,by rw[c1 (O0 t hl (by intro z;cases z))];exact t⟩)
  .exact .inr t
 |.l _,_,h=>by
  obtain⟨a,ys,q,t,r⟩:=h;exact⟨a,ys,q,⟨by rw[c1 (by rintro rfl;exact b t.2)];exact t.1,t.2⟩,bl.dY b hl r⟩
 |.ref _,_,h=>h|.fn _,_,h=>h|.ty _,_,h=>h
theorem bl.dY(c:O l≠.free)(hl:H l=some (.l zs)):∀{ds:List D}{ys:List V},bl K mg O H ds ys->bl K mg O (upd H l (.l ws)) ds ys
 |[],_,h=>h| _::_,_,h=>by obtain⟨x,r,q,a,b⟩:=h;exact⟨x,r,q,Rep.dY c hl a,bl.dY c hl b⟩
end
def h2.dY(b:O l≠.free)(c:O l≠.out)(h:h2 K O H a ys):h2 K O (upd H l (.l ws)) a ys:=by
 rcases h with⟨h,f⟩|h
 .have ne:a≠l:=by rintro rfl;exact f.elim b c
  refine .inl ⟨?_,f⟩;rcases h with h|⟨o,h⟩
  .exact .inl (by rw[c1 ne];exact h)
  .exact .inr ⟨o,by rw[c1 ne];exact h⟩
 .exact .inr h
def jx.dY(b:O l≠.free)(c:O l≠.out)(hw:O l≠w)(hl:H l=some (.l zs)):∀{s:Slot}{u:Option V},jx K mg O H w s u->jx K mg O (upd H l (.l ws)) w s u
 |.e,_,_=>trivial| .v _,_,h=>by obtain⟨v,q,r⟩:=h;exact⟨v,q,r.dY b hl⟩
 |.en _ _,_,h=>by obtain⟨a,ys,q,o,t,r⟩:=h;exact⟨a,ys,q,o,by rw[c1 (by rintro rfl;exact hw o)];exact t,r.dY b hl⟩
 |.b4 _,_,h=>by obtain⟨a,ys,q,t,r⟩:=h;exact⟨a,ys,q,t.dY b c,r.dY b hl⟩
def dh.dY(d:dh O H)(hl:H l=some (.l zs)):dh O (upd H l (.l ws)):=⟨λa b=>by
 by_cases e:a=l
 .rw[e,dZ];intro z;cases z
 .rw[c1 e];exact d.has a b,d.tabs.l hl _,d.b9⟩
def d5.dY(a:O l≠.free)(c:O l≠.out)(hl:H l=some (.l zs)):d5 O O H (upd H l (.l ws)):=by
 refine⟨λb o e h _=>?_,λ_ _ _=>rfl,λb h=>?_,λb ps e=>⟨ps,by rw[c1 (by rintro rfl;rw[hl]at e;cases e)];exact e⟩,λg=>g.l hl _,rfl⟩
 .rw[c1]
  .exact e
  .rintro rfl
   rcases h with h|h|⟨xs,h⟩|⟨_,_,h⟩
   .exact a h
   .exact c h
   .subst h;rw[e]at hl;cases hl
   .subst h;rw[e]at hl;cases hl
 .by_cases e:b=l
  .rw[e,dZ];intro z;cases z
  .rw[c1 e];exact h
def fY.dY{S:bI}(s:fY K mg O H S)(c:dh O H)(b:O l≠.free)(d:O l≠.out)(hl:H l=some (.l zs)):fY K mg O (upd H l (.l ws)) S:=
 s.all (λ_ _ z=>Rep.dY b hl z) rfl λa h u e _=>by rw[c1 (by rintro rfl;exact d (c.b9.2 _ h))];exact e
def cN.dY{U:aK}{S:bI}{b:St}(st:cN K mg O U S b H)(hi:U[i]? = some (.en p xs))(f:b[i]?.join=some (.ref l))(c:O l=.loc i)(hl:H l=some (.l zs))(d:bl K mg O H ys ws) :
  cN K mg O (U.set i (.en p ys)) S b (upd H l (.l ws)):=by
 have ne:∀w:Own,w≠.loc i->O l≠w:=λw hw z=>hw (z.symm.trans c)
 refine⟨st.ck.dY hl,by rw[amr];exact st.len,λj t e=>?_,st.f9.dY st.ck (ne _ (by intro z;cases z)) (ne _ (by intro z;cases z)) hl⟩
 by_cases a:i=j
 .subst a
  have g:i<U.length:=(alK.mp hi).1;rw[al9 g]at e;cases e;exact⟨l,ws,f,c,dZ,d.dY (ne _ (by intro z;cases z)) hl⟩
 .rw[alU a]at e
  exact(st.loc j t e).dY (ne _ (by intro z;cases z)) (ne _ (by intro z;cases z)) (ne _ (by intro z;cases z;exact a rfl)) hl
end
def sz(K:aN)(mg:bo)(r:V->List V->aw->cE->Prop)(f:List D->List R->M (R×List D)):Prop:=
 ∀O H H₀ l xs zs rs vs S o C ys (Q:cE),H l=some (.l zs)->bl K mg O H xs zs->i8 K mg O H rs vs->ks H₀ rs vs->(f xs rs).run S=.ok (C,ys) o->
  (∀v a,S=o->bl K mg (cF H₀ O) H ys a->(∃d,C=.v d/\Rep K mg (cF H₀ O) H d v)->Q v (upd H l (.l a)))->r (.ref l) vs H Q
section
variable{K:aN}{mg:bo}
def wj:sz K mg PZ k2:=λO H H₀ l xs j rs vs S m n ys Q hl a b g h q=>by
 unfold k2 at h;split at h
 .rename_i r
  obtain⟨v,rfl,i⟩:=kY b;obtain⟨d,S1,e,h⟩:=M.inv h;obtain⟨_,k,f,h⟩:=M.inv h;obtain⟨c,rfl⟩:=rf f;obtain⟨dg,rfl⟩:=rk (H₀:=H₀) i g.1 e;cases h;exact⟨l,j,v,rfl,rfl,hl,by rw[a.len];exact c,q .aH _ rfl ((a.c8 (i' _ _)).append (.one dg)) ⟨.aH,rfl,rfl⟩⟩
 .cases h
def aa1:sz K mg P2 xG:=λO H H₀ l xs m rs vs S p t ys Q hl a f s h q=>by
 unfold xG at h;split at h
 .rename_i r
  obtain⟨v,rfl,i⟩:=kY f;split at h
  .rename_i us e
   obtain⟨_,n,g,h⟩:=M.inv h;obtain⟨c,rfl⟩:=rf g;cases h;obtain⟨b,k,rfl,j,d⟩:=R.FP i e;exact⟨l,b,m,k,rfl,rfl,hl,j,by rw[a.len,d.len];exact c,q .aH _ rfl ((a.append d).c8 (i' _ _)) ⟨.aH,rfl,rfl⟩⟩
  .cases h
 .cases h
variable{f:List D->List R->M (R×List D)}{r:V->List V->aw->cE->Prop}{ms:c0}{i:Nat}
def abm(T:sz K mg r f){O:a_}{U U':aK}{S m:bI}{b:St}{H:aw}{t:R}{Q:cE}(st:cN K mg O U S b H)(h:(JF i f ms U).run S=.ok (t,U') m)
  (q:∀k v H',d5 O k H H'->cN K mg k U' m b H'->fg U U' b b->(∃d,t=.v d/\Rep K mg k H' d v)->Q v H') :
  ∃v,b[i]? = some (some v)/\A7 K "list" v H/\pw K mg ms b H λvs B=>r v vs B Q:=by
 obtain⟨rs,S1,F,h⟩:=M.inv h
 cases e:U[i]? with
 |none=>rw[e]at h;cases h
 |some s=>
  rw[e]at h
  cases s with
  |e=>cases h
  |v _=>cases h
  |b4 _=>cases h
  |en p xs=>
   obtain⟨⟨X,ys⟩,W,G,h⟩:=M.inv h;cases h;obtain⟨a,V,av,aE,cX,eZ⟩:=st.loc i _ e;have u:b[i]? = some (some (.ref a)):=by
    cases w:b[i]? with
    |none=>rw[w]at av;cases av
    |some y=>rw[w]at av;exact congrArg some av
   refine⟨.ref a,u,.inl ⟨rfl,_,dq.of cX⟩,O,U,S,rs,S1,st,F,λc vs x g D L nn=>?_⟩;have j:=g.same.at' _ _ cX;have n:H a≠none:=by rw[cX];intro z;cases z
   have A:c a=.loc i:=(g.own a n).trans aE;refine T c x H a xs V rs vs S1 _ _ ys Q j (eZ.go g) L nn G λv Z I N E=>?_
   obtain⟨d,P,dg⟩:=E;subst I;have l:cF H c a=.loc i:=by rw[Dv n];exact A
   have no:∀w:Own,w≠.loc i->cF H c a≠w:=λw hw z=>hw (z.symm.trans l)
   refine q (cF H c) v _ (g.cF.bM.trans (d5.dY (no _ (by intro z;cases z)) (no _ (by intro z;cases z)) j)) ((D.cF H).dY e (by rw[u];rfl) l j N) ?_ ⟨d,P,dg.dY (no _ (by intro z;cases z)) j⟩;have Y:i<U.length:=(alK.mp e).1;exact fg.put e (λxs z=>by cases z) (λ_ z=>by cases z;exact⟨xs,rfl⟩)
end
def x9(b:iv)(O:a_)(H:aw)(ys:List V):Prop:=∀c a,d5 O c H a->∀i,(i<ys.length->b.go i a/\∀x H',b.pK i a x H'->H'=a/\ys[i]? = some x)/\(ys.length<=i->b.stop i a)
abbrev fH:=aK->M (List D)
def uI(K:aN)(mg:bo)(m:fH):TI:=λb H R=>pW K mg m b H λO U d xs=>∀a H' c ys,Go O a H H'->cN K mg a U d b H'->x8 c H' ys->bl K mg a H' xs ys->R c H'
def AZ(K:aN)(mg:bo)(m:fH):TI:=λb H R=>pW K mg m b H λO U d xs=>∀a H' c ys,Go O a H H'->cN K mg a U d b H'->x9 c a H' ys->bl K mg a H' xs ys->R c H'
abbrev G'(X:aT)(cf a:Expr)(m:fH):Prop:=j1 X cf a (uI X.K X.mg m)
abbrev Rv(X:aT)(cf a:Expr)(m:fH):Prop:=j1 X cf a (AZ X.K X.mg m)
def pf{cf e:Expr}{t t':TI}(h:j1 X cf e t)(i:∀U H Q,t' U H Q->t U H Q):j1 X cf e t':=λzn s U H Q J q=>h zn s U H Q J (i _ _ _ q)
def d5.AP{O b:a_}(g:d5 O b H H')(h:dx K H a ys):dx K H' a ys:=by
 rcases h with(h|⟨o,h⟩)|h
 .exact .inl (.inl (g.cells _ _ h (.inr (.inr (.inl ⟨_,rfl⟩)))))
 .exact .inl (.inr ⟨o,g.cells _ _ h (.inr (.inr (.inr ⟨_,_,rfl⟩)))⟩)
 .exact .inr h
def d5.aaO{O b:a_}(g:d5 O b H H')(h:h2 K O H a ys):h2 K b H' a ys:=by
 rcases h with⟨h,f⟩|h
 .refine .inl ⟨?_,by rw[g.own a (hE.some h) f];exact f⟩
  rcases h with h|⟨o,h⟩
  .exact .inl (g.cells _ _ h (f.elim .inl λz=>.inr (.inl z)))
  .exact .inr ⟨o,g.cells _ _ h (f.elim .inl λz=>.inr (.inl z))⟩
 .exact .inr h
@[simp] def lI(m:bt)(U:aK):M (List D):=do
 let r <-m U
 match r with
 |.v (.t xs)=>pure xs|_=>bad
@[simp] def vY(m:bt)(U:aK):M (List D):=do
 let r <-m U
 match r with
 |.v (.l xs)=>pure xs|.fr xs=>pure xs|.b4 xs=>pure xs|_=>bad
@[simp] def nF(m:bt)(U:aK):M (List D):=do
 let r <-m U
 match r.ft with
 |some xs=>pure xs|none=>bad
def ec(lo:Int)(n:Nat):List D:=(ame n).map λi=>D.int (lo+(i:Nat))
omit [aA.a4]in
theorem mP(lo:Int)(n:Nat):(ec lo n).length=n:=by unfold ec;rw[alM,amZ]
@[simp] def gY(m:c0)(U:aK):M (List D):=do
 let rs <-m U
 match rs with
 |[.v (.int j)]=>if -(2 ^ 62)<=j/\j<2 ^ 62 then pure (ec 0 j.toNat)else bad|_=>bad
@[simp] def tl(m:c0)(U:aK):M (List D):=do
 let rs <-m U
 match rs with
 |[.v (.int i),.v (.int j)]=>if -(2 ^ 62)<=i/\i<2 ^ 62/\-(2 ^ 62)<=j/\j<2 ^ 62 then pure (ec i (j-i).toNat)else bad|_=>bad
def Gd{O:a_}(lo:Int)(n:Nat):bl K mg O H (ec lo n) (mQ lo n):=by
 unfold ec mQ
 induction(ame n)with
 |nil=>rfl|cons a r b=>exact⟨.int (lo+a),_,rfl,rfl,b⟩
def ZE{O:a_}(lo:Int)(n:Nat):x9 (m6 lo n) O H (mQ lo n):=λb a _ i=>Ey (H:=a) lo n a (ez.refl _) i
section
variable{a:Expr}{ms:c0}
def Qj:(∀b H R,AZ K mg (gY ms) b H R->Ep (pw K mg ms) b H R)/\(∀b H R,uI K mg (gY ms) b H R->Ep (pw K mg ms) b H R):=by
 constructor<;>
 .rintro b H R ⟨O,U,S,xs,m,st,h,q⟩
  obtain⟨rs,S1,g,h⟩:=M.inv h;split at h
  .rename_i j
   by_cases c:-(2 ^ 62)<=j/\j<2 ^ 62
   .rw[if_pos c]at h
    cases h;refine⟨O,U,S,_,_,st,g,λe vs d l f k nn=>?_⟩;obtain⟨v,rfl,i⟩:=kY k;cases(show v=.int j from i);exact⟨j,rfl,c.1,c.2,q e d (m6 0 j.toNat) (mQ 0 j.toNat) l f (by first|exact ZE _ _|exact Ey _ _) (Gd _ _)⟩
   .rw[if_neg c]at h;cases h
  .cases h
def Ex{K:aN}{O:a_}{H:aw}{a:Addr}{xs:List V}(h:h2 K O H a xs):x9 (pR K a) O H xs:=λc b g i=>NL (g.aaO h).cR b (ez.refl _) i
def ZH{K:aN}{O:a_}{H:aw}{a:Addr}{xs:List V}(h:dx K H a xs):x9 (sD K a) O H xs:=λc b g i=>NN (g.AP h) b (ez.refl _) i
end
def kD(b:D->aL):List D->aL
 |[]=>λU=>pure (.bu U)
 |d::ds=>λU=>do
  let a <-b d U
  match a with
  |.bu U'=>kD b ds U'|.cx U'=>kD b ds U'|.bk U'=>pure (.bu U')|.cp r=>pure (.cp r)
@[simp] def ky(i:Nat)(it:fH)(b:aL)(U:aK):M fG:=do
 let ds <-it U
 kD (λd U=>b (U.set i (.v d))) ds U
def sr(c:aK->M Bool)(b:aL):Nat->aL
 |0=>λ_=>bad
 |n+1=>λU=>do
  let t <-c U
  if t=true then do
   let a <-b U
   match a with
   |.bu U'=>sr c b n U'|.cx U'=>sr c b n U'|.bk U'=>pure (.bu U')|.cp r=>pure (.cp r)
  else pure (.bu U)
@[irreducible] def pE:Nat:=2 ^ 24
def vm(c:aK->M Bool)(b:aL):aL:=sr c b pE
def cN.val{O:a_}{U:aK}{S:bI}{a:St}{v:V}(st:cN K mg O U S a H)(h:Rep K mg O H d v):cN K mg O (U.set i (.v d)) S (a.set i (some v)) H:=st.set ⟨v,rfl,h⟩
def bl.bM{O e:a_}(g:d5 O e H H'):∀{ds:List D}{ys:List V},bl K mg O H ds ys->bl K mg e H' ds ys:=by
 have rep:∀(d:D)(v:V),Rep K mg O H d v->Rep K mg e H' d v:=by
  intro d
  induction d using D.rec (motive_2:=λds=>∀ys,bl K mg O H ds ys->bl K mg e H' ds ys)with
  |aH=>exact λv h=>h
  |ax _=>exact λv h=>h
  |int _=>exact λv h=>h
  |str _=>exact λv h=>h
  |fn _=>exact λv h=>h
  |ty _=>exact λv h=>h
  |ref n=>exact λv ⟨a,q,l⟩=>⟨a,q,by rw[g.bD];exact l⟩
  |t xs c=>exact λv ⟨a,ys,q,l,r⟩=>⟨a,ys,q,g.AP l,c ys r⟩
  |l xs c=>exact λv ⟨a,ys,q,l,r⟩=>⟨a,ys,q,⟨g.cells _ _ l.1 (.inl l.2),by rw[g.own a (by rw[l.1];intro z;cases z) (.inl l.2)];exact l.2⟩,c ys r⟩
  |nil=>assumption|cons x xs i f=>
   rename_i j hz;obtain⟨y,r,q,a,b⟩:=hz;exact⟨y,r,q,i y a,f r b⟩
 intro ds
 induction ds with
 |nil=>exact λh=>h
 |cons x xs c=>rintro ys ⟨y,r,q,a,b⟩;exact⟨y,r,q,rep x y a,c b⟩
section
variable{it:fH}{i:Nat}{b:aL}{x:Str}{t:aK->M Bool}
def bl.get'{O:a_}{ds:List D}{ys:List V}(h:bl K mg O H ds ys)(e:ds.drop k=d::o):∃y,ys[k]? = some y/\Rep K mg O H d y/\ds.drop (k+1)=o:=by
 have av:ds[k]? = some d:=by
  have:=congrArg (·[0]?) e;simpa using this
 obtain⟨y,q,r⟩:=h.get av;refine⟨y,q,r,?_⟩;have:=congrArg (List.drop 1) e;simpa[apo]using this
theorem VB{G:iP}{B:aC.D->aL}(qc:∀O U S l H d y f g Q,cN K mg O U S l H->Rep K mg O H d y->(B d U).run S=.ok f g->(∀u A,cN K mg O u S A H->fg U u l A->(b u).run S=.ok f g->Q A H)->G y l H Q) :
  ∀D l H,lS K mg (λU=>do
   let ds <-it U
   kD B ds U) D l H->xA (AZ K mg it) G (lS K mg b) D l H:=by
 rintro D l H ⟨O,U,S,N,P,st,h,q⟩;obtain⟨ds,S1,C,h⟩:=M.inv h;refine⟨O,U,S,ds,S1,st,C,λE L ct ys I Z its T=>?_⟩;refine⟨λk m w H'=>m=ys.length-k/\k<=ys.length/\∃n U' z,cN K mg n U' z w H'/\d5 E n L H'/\fg U U' l w/\(kD B (ds.drop k) U').run z=.ok N P,
  ⟨_,rfl,amt _,E,U,S1,Z,d5.refl _ _,fg.refl _ _,h⟩,?_⟩
 rintro k m w H' ⟨rfl,au,n,U',z,V,g',kp,h⟩
 cases e:ds.drop k with
 |nil=>
  have hl:ys.length<=k:=by
   have:=congrArg anz e;rw[amL,am4]at this;rw[T.len];omega
  rw[e]at h;cases h;exact .inl ⟨(its n H' g' k).2 hl,q n w H' (I.bM.trans g') V kp⟩
 |cons d kA=>
  obtain⟨y,Y,b_,R⟩:=(bl.bM g' T).get' e;have W:k<ys.length:=(alK.mp Y).1;obtain⟨go,mV⟩:=(its n H' g' k).1 W;rw[e]at h;obtain⟨X,g,J,h⟩:=M.inv h;refine .inr ⟨go,λp c=>∃a j g,cN K mg a j g p c/\d5 E a L c/\fg U j l p/\(kD B (ds.drop (k+1)) j).run g=.ok N P,?_,λx c k8=>?_⟩
  .rintro p c ⟨a,j,g,a1,a2,fI,iQ⟩
   exact⟨_,by omega,rfl,W,a,j,g,a1,a2,fI,iQ⟩
  .obtain⟨rfl,ex⟩:=mV x c k8
   rw[Y]at ex;cases ex;refine qc _ _ _ _ _ _ _ _ _ _ V b_ J λu A sh F o=>?_
   refine⟨n,u,z,X,g,sh,o,?_⟩
   cases X with
   |bu j=>exact λa p c s bF d7=>⟨a,j,g,bF,g'.trans s,kp.trans (F.trans d7),by rw[R];exact h⟩
   |cx j=>exact λa p c s bF d7=>⟨a,j,g,bF,g'.trans s,kp.trans (F.trans d7),by rw[R];exact h⟩
   |bk j=>cases h;exact λa p c s bF d7=>q a p c (I.bM.trans (g'.trans s)) bF (kp.trans (F.trans d7))
   |cp r=>cases h;exact λa v c s c_ aE cc=>q a v c (I.bM.trans (g'.trans s)) c_ aE cc
def VD:∀D a H,lS K mg (ky i it b) D a H->xA (AZ K mg it) (kF i) (lS K mg b) D a H:=
 VB (B:=λd U=>b (U.set i (.v d))) λ_ _ _ _ _ _ _ _ _ _ st c h k=>k _ _ (st.val c) (fg.set λxs z=>by cases z) h
def ahS:∀D k H,lS K mg (vm t b) D k H->GF (lT K mg t) (lS K mg b) D k H:=by
 rintro D k H ⟨O,U,S,y,A,st,h,q⟩;refine⟨λm s H'=>∃p U' u,cN K mg p U' u s H'/\d5 O p H H'/\fg U U' k s/\(sr t b m U').run u=.ok y A,⟨pE,O,U,S,st,d5.refl _ _,fg.refl _ _,h⟩,?_⟩;rintro m s H' ⟨p,U',u,N,g',kp,h⟩
 cases m with
 |zero=>cases h
 |succ n=>
  obtain⟨tt,S1,F,h⟩:=M.inv h;refine⟨p,U',u,tt,S1,N,F,λw E l z=>?_⟩
  cases tt with
  |false=>
   rw[if_neg alR]at h;cases h;exact oP (q w s E (g'.trans l.bM) z kp)
  |true=>
   rw[if_pos rfl]at h;obtain⟨B,f,G,h⟩:=M.inv h;refine oQ ⟨λg e=>∃c d f,cN K mg c d f g e/\d5 O c H e/\fg U d k g/\(sr t b n d).run f=.ok y A,?_,w,U',S1,B,f,z,G,?_⟩
   .rintro g e ⟨c,d,f,a⟩
    exact⟨n,aoX _,c,d,f,a⟩
   .cases B with
    |bu d=>exact λc g e j bF d7=>⟨c,d,f,bF,g'.trans (l.bM.trans j),kp.trans d7,h⟩
    |cx d=>exact λc g e j bF d7=>⟨c,d,f,bF,g'.trans (l.bM.trans j),kp.trans d7,h⟩
    |bk d=>cases h;exact λc g e j bF d7=>q c g e (g'.trans (l.bM.trans j)) bF (kp.trans d7)
    |cp r=>cases h;exact λc v e j I aE L=>q c v e (g'.trans (l.bM.trans j)) I aE L
end
def gn(t:aK->M Bool)(el:bt)(U:aK):List D->M (List D)
 |[]=>pure []|d::ds=>do
  let b <-t (U.set 0 (.v d))
  if b=true then do
   let r <-el (U.set 0 (.v d))
   let x <-r.dat
   let xs <-gn t el U ds
   pure (x::xs)
  else gn t el U ds
def ri:Option Slot->Slot
 |some (.v d)=>.v d|some (.en _ xs)=>.b4 xs|some (.b4 xs)=>.b4 xs|_=>.e
def hL(n:Nat)(cap:List Nat)(U:aK):aK:=amm n .e++cap.map λk=>ri U[k]?
@[simp] def eA(n:Nat)(cap:List Nat)(it:fH)(t:aK->M Bool)(el:bt)(U:aK):M R:=do
 let ds <-it U
 hK (ds.length<alP)
 let xs <-gn t el (hL n cap U) ds
 pure (.fr xs)
def eM:aK->M Bool:=λ_=>pure true
abbrev BC(X:aT)(a:List Expr)(t:aK->M Bool):Prop:=sG X a (lT X.K X.mg t)
def Own.d2:Own->Own
 |.loc _=>.out|.dn=>.out|o=>o
def d2(O:a_):a_:=⟨λb=>(O b).d2,O.bD⟩
def vh(O:a_)(b:Addr):d2 O b=(O b).d2:=rfl
def Jw{O:a_}(d:dh O H):jw (d2 O):=⟨d.b9.1,λa h=>by rw[vh,d.b9.2 a h];rfl⟩
def og{O:a_}:d2 O b=.free↔O b=.free:=by rw[vh];cases O b<;>simp[Own.d2]
def lz(O:a_)(b:Addr):d2 O b=.free\/d2 O b=.out:=by rw[vh];cases O b<;>simp[Own.d2]
def j3(O:a_):l5 O (d2 O):=⟨λ_ h=>og.mpr h,rfl⟩
def h2.d2{O:a_}(h:h2 K O H a ys):h2 K (d2 O) H a ys:=by
 rcases h with⟨h,f⟩|h
 .refine .inl ⟨h,?_⟩
  rcases f with f|f
  .exact .inl (og.mpr f)
  .exact .inr (by rw[vh,f];rfl)
 .exact .inr h
def cN.d2{O:a_}{S:bI}(st:cN K mg O U S J H)(n:Nat)(cap:List Nat):cN K mg (d2 O) (hL n cap U) S (fZ n cap J) H:=by
 refine⟨⟨λa f=>st.ck.has a λz=>f (og.mpr z),st.ck.tabs,Jw st.ck⟩,?_,λi s e=>?_,st.f9.all (λ_ _ z=>Rep.c8 (j3 O) z) rfl λ_ _ _ l _=>l⟩
 .unfold hL fZ
  rw[alN,alN,amG,amG,alM,alM]
 .unfold hL at e
  unfold fZ
  by_cases hi:i<n
  .rw[al8 (by simpa using hi),ank,if_pos hi]at e
   cases e;exact trivial
  .rw[al6 (by simpa using hi),amG,al4]at e
   rw[al6 (by simpa using hi),amG,al4]
   cases ha:cap[i-n]? with
   |none=>rw[ha]at e;cases e
   |some k=>
    rw[ha]at e;have b:ri U[k]? = s:=amf e;show jx K mg _ H _ s (some (J[k]?.join)).join
    cases C:U[k]? with
    |none=>rw[C]at b;subst b;exact trivial|some c=>
     rw[C]at b;have l:=st.loc k c C
     cases c with
     |e=>subst b;exact trivial|v d=>subst b;obtain⟨v,q,r⟩:=l;exact⟨v,q,r.c8 (j3 O)⟩
     |b4 xs=>subst b;obtain⟨a,ys,q,l,r⟩:=l;exact⟨a,ys,q,l.d2,r.c8 (j3 O)⟩
     |en p xs=>subst b;obtain⟨a,ys,q,o,l,r⟩:=l;exact⟨a,ys,q,.inl ⟨.inl l,.inr (by rw[vh,o];rfl)⟩,r.c8 (j3 O)⟩
def cN.uM{O:a_}{H:aw}{S:bI}(st:cN K mg O U S o H)(a:O l=.dn)(hl:H l=some (.l zs)):cN K mg O U S o (upd H l (.l ws)):=by
 have ne:∀w:Own,w≠.dn->O l≠w:=λw hw z=>hw (z.symm.trans a)
 exact⟨st.ck.dY hl,st.len,λj t e=>(st.loc j t e).dY (ne _ (by intro z;cases z)) (ne _ (by intro z;cases z)) (ne _ (by intro z;cases z)) hl,st.f9.dY st.ck (ne _ (by intro z;cases z)) (ne _ (by intro z;cases z)) hl⟩
section
variable{K:aN}{mg:bo}{n:Nat}{cap:List Nat}{it:fH}{t:aK->M Bool}{el:bt}
def nG{α:Type}(put:α->Option aK)(t:aK->M Bool)(el:bt):List α->M (List D)
 |[]=>pure []|d::ds=>match put d with
  |none=>bad|some U=>do
   let b <-t U
   if b=true then do
    let r <-el U
    let x <-r.dat
    let xs <-nG put t el ds
    pure (x::xs)
   else nG put t el ds
omit [aA.a4]in
theorem NT(U:aK):∀ds:List D,gn t el U ds=nG (λd=>some (U.set 0 (.v d))) t el ds
 |[]=>rfl| d::ds=>by unfold gn nG;rw[NT U ds]
inductive CompI{α:Type}(K:aN)(mg:bo)(n:Nat)(cap:List Nat)(L:Nat->M (List aC.D))(aD:a_)(U:aK)(S1:bI)(ar:St)(H1:aw)(A:Addr)(xs:List aC.D)(k:Nat)(zs:List V)(H':aw):Prop
 |mk (ak:a_) (acc pI:List aC.D) (cq:cN K mg ak (hL n cap U) S1 (fZ n cap ar) H') (g':Go (d2 aD) ak H1 H') (pv:ak A=.dn) (di:H' A=some (.l zs)) (hz:zs.length<=k)
   (km:bl K mg ak H' acc zs) (h:(L k).run S1=.ok pI S1) (ex:acc++pI=xs)
def JV{α:Type}{put:α->Option aK}{c:List α}{i:a_}{U:aK}{S1 N:bI}{p:St}{g:aw}{P:iv}{G:iP}{xs:List aC.D}{Q:cE}(u:cN K mg i U S1 p g)(hlen:c.length<alP)
  (stop:∀H',ez g H'->P.stop c.length H')
  (step:∀k d s f H',c[k]? = some d->put d=some s->Go (d2 i) f g H'->cN K mg f (hL n cap U) S1 (fZ n cap p) H'->P.go k H'/\∀x L (R:St->aw->Prop),P.pK k H' x L->
   (∀S O,Go f f H' O->cN K mg f s S1 S O->m5 (fZ n cap p) S->R S O)->G x (fZ n cap p) L R)
  (bA:(nG put t el c).run S1=.ok xs N) (q:∀f v H',Go i f g H'->cN K mg f U N p H'->eu K mg f H' (.fr xs) v->jv g (.fr xs) v->Q v H') :
  ∀D,g D=none->CU P (fZ n cap p) G (lT K mg t) (fL K mg el) D g Q:=by
 intro D H;obtain rfl:=(nG put t el c).fc _ _ _ bA;have hu:cN K mg (fV (d2 i) D .dn) (hL n cap U) N (fZ n cap p) (upd g D (.l [])):=(u.d2 n cap).new H;refine⟨λk m V H'=>m=c.length-k/\k<=c.length/\CompI (α:=α) K mg n cap (λk=>nG put t el (c.drop k)) i U N p g D xs k V H',
  ⟨_,rfl,amt _,_,[],xs,hu,Go.new H,lU,dZ,alQ _,rfl,bA,rfl⟩,?_⟩
 rintro k m V H' ⟨rfl,au,f,acc,pI,E,g',J,F,hz,C,h,ex⟩
 cases e:c.drop k with
 |nil=>
  obtain rfl:k=c.length:=by
   have:=congrArg anz e;rw[amL,am4]at this;omega
  rw[e]at h;cases h;rw[am2]at ex;subst ex;refine .inl ⟨stop H' g'.same,?_⟩
  let A:a_:=⟨λb=>match g b with|none=>f b|some _=>i b,i.bD⟩
  have X:∀b,g b≠none->A b=i b:=λb j=>by
   show(match g b with|none=>f b|some _=>i b)=i b
   cases e:g b with
   |none=>exact absurd e j|some _=>rfl
  have W:∀b,g b=none->A b=f b:=λb j=>by
   show(match g b with|none=>f b|some _=>i b)=f b;rw[j]
  have c8:l5 f A:=⟨λb j=>by
    by_cases y:g b=none
    .rw[W b y];exact j
    .rw[X b y];exact og.mp ((g'.own b y).symm.trans j),g'.bD.symm⟩
  have go:Go i A g H':=⟨g'.same,X,rfl⟩;have ck:dh A H':=⟨λb j=>by
   by_cases y:g b=none
   .rw[W b y]at j;exact E.ck.has b j
   .exact g'.same.some y,E.ck.tabs,u.ck.b9.1,λb m=>(X b (u.ck.has b (by rw[u.ck.b9.2 b m];intro z;cases z))).trans (u.ck.b9.2 b m)⟩
  refine q A (.ref D) H' go (u.go go ck) ⟨D,V,rfl,F,(W D H).trans J,C.c8 c8⟩ λa c6=>?_
  cases c6;exact H
 |cons d kA=>
  have eQ:k<c.length:=by
   have:=congrArg anz e;rw[amL,amk]at this;omega
  have d6:c[k]? = some d:=by
   have:=congrArg (·[0]?) e;simpa using this
  have bH:c.drop (k+1)=kA:=by
   have:=congrArg (List.drop 1) e;simpa[apo]using this
  rw[e]at h;unfold nG at h
  cases cm:put d with
  |none=>rw[cm]at h;cases h
  |some s=>
  rw[cm]at h;dsimp only at h;obtain⟨b,aY,ah,h⟩:=M.inv h;obtain rfl:=(t s).fc _ _ _ ah;obtain⟨go,mV⟩:=step k d s f H' d6 cm g' E;refine .inr ⟨go,λx L k8=>mV x L _ k8 λS O rB sh yV=>⟨yV,f,s,aY,b,aY,sh,ah,λY w g2 bF=>?_⟩⟩;have B:Go f Y H' w:=rB.trans g2
  cases b with
  |false=>
   rw[if_neg alR]at h;exact oP ⟨c.length-(k+1),by omega,rfl,eQ,Y,acc,pI,E.go B bF.ck,g'.trans B,(B.own D (by rw[F];intro z;cases z)).trans J,B.same.at' _ _ F,by omega,C.go B,by rw[bH];exact h,ex⟩
  |true=>
   rw[if_pos rfl]at h;obtain⟨r,pX,cK,h⟩:=M.inv h;obtain rfl:=(el s).fc _ _ _ cK;obtain⟨x,q3,eB,h⟩:=M.inv h;obtain rfl:=r.dat.fc _ _ _ eB;obtain⟨Br,Hs,gj,h⟩:=M.inv h;cases h;refine oQ ⟨Y,_,_,r,_,bF,cK,λZ v iq g3 g5 br nn=>?_⟩;obtain⟨a6,_⟩:=rk (H₀:=w) br nn eB;have I:Go f (cF w Z) H' iq:=B.trans g3.cF;have T:iq D=some (.l V):=I.same.at' _ _ F;have si:cF w Z D=.dn:=(I.own D (by rw[F];intro z;cases z)).trans J;have o:=g'.trans I;exact⟨T,by omega,c.length-(k+1),by omega,rfl,eQ,cF w Z,acc++[x],Br,(E.go I (g5.cF w).ck).uM si T,⟨uN H o.same T _,o.own,o.bD⟩,si,dZ,
    by rw[alN,am0];omega,((C.go I).append (.one a6)).dY (by rw[si];intro z;cases z) T,by rw[bH];exact gj,by rw[aol];exact ex⟩
def CT(B:0<n):∀b H Q,fL K mg (eA n cap it t el) b H Q->uG n cap (uI K mg it) (kF 0) (lT K mg t) (fL K mg el) b H Q:=by
 rintro b H Q ⟨O,U,S,r,T,st,h,q⟩;obtain⟨ds,S1,z,h⟩:=M.inv h;obtain⟨_,P,A,h⟩:=M.inv h;obtain⟨a,rfl⟩:=rf A;obtain⟨xs,W,f,h⟩:=M.inv h;cases h;rw[NT]at f;refine⟨O,U,S,ds,S1,st,z,λp N V ys m w its i=>JV w a (λH' s=>(its H' s _).2 (aoE i.len)) (λk d X e H' F cm g' c=>?_) f λe v H' g c E nn=>q e v H' (m.trans g) c E (nn.back m.same)⟩;cases cm;obtain⟨y,l,D⟩:=(bl.go g' (i.c8 (j3 p))).get F;obtain⟨go,L⟩:=(its H' g'.same k).1 (alK.mp l).1;refine⟨go,λx u R I G=>?_⟩;obtain⟨rfl,ex⟩:=L x u I;rw[l]at ex;cases ex;exact G _ _ (Go.refl _ _) (c.val D) ((m5.refl _).set (by cases n with|zero=>exact absurd B (amF _)|succ j=>rfl))
end
section
variable{X:aT}{scope esc:Scope}{EN N:List Str}{n:Nat}{cap:List Nat}{elt iter:Expr}{ifs:List Expr}{pos fu:Pos}{x:Str}{it:fH}{t:aK->M Bool}{el:bt}
def HC{i:Nat}{y:Str}{py c:Pos}(S:la esc scope EN N n cap)(m:X.N.Nodup)(k:X.N[i]? = some y)(d:X.env.scope.names.lookup y=some .local)(p:0<n)(hi:G' X (.Name x fu) iter it)(e:N[0]? = some x)(b:∀C a s H,Loc (cO X scope N C a s H).env.scope x/\(cO X scope N C a s H).env.scope.names.lookup x=some .local)
  (f:∀C a s H,BC (cO X scope N C a s H) ifs t) (j:∀C a s H,hy (cO X scope N C a s H) elt el)
  (he:X.env.scope=esc:=by rfl) (hN:X.N=EN:=by rfl) (h:X.calm=true:=by rfl) (hs:∀x,amM iter X.env x=pure x:=by intro _;rfl)
  (l:anm (.ListComp elt [⟨.Name x fu,iter,ifs,0⟩] scope pos) (some (.Name y py)) c.line X.env=pure true:=by rfl) :
  iw X (.Assign [.Name y py] (.ListComp elt [⟨.Name x fu,iter,ifs,0⟩] scope pos) c) (uF (uG n cap (uI X.K X.mg it) (kF 0) (lT X.K X.mg t) (fL X.K X.mg el)) (kF i)):=
 aeL (wi:=uI X.K X.mg it) (g:=kF 0) (tt:=lT X.K X.mg t) (te:=fL X.K X.mg el) S m k d hi (λC a s H=>uk S.fC e (b C a s H).1 (.inr (b C a s H).2)) f j he hN h hs l
end
abbrev bj:=List D->M R
def uX(K:aN)(mg:bo)(O:a_)(H:aw):D->V->Prop
 |.l xs,v=>∃a ys,v=.ref a/\dq K H a ys/\bl K mg O H xs ys|d,v=>Rep K mg O H d v
def l2(K:aN)(mg:bo)(O:a_)(H:aw):List D->List V->Prop
 |[],ys=>ys=[]|x::xs,ys=>∃y r,ys=y::r/\uX K mg O H x y/\l2 K mg O H xs r
def b0:D->Slot
 |.l xs=>.b4 xs|d=>.v d
def HB{O:a_}{r:R}{v:V}(h:eu K mg O H r v):uX K mg O H r.arg v:=by
 match r,h with
 |.v (.l xs),h=>obtain⟨a,ys,q,l,r⟩:=h;exact⟨a,ys,q,l.cR,r⟩
 |.fr xs,h=>obtain⟨a,ys,q,l,_,r⟩:=h;exact⟨a,ys,q,dq.of l,r⟩
 |.b4 xs,h=>obtain⟨a,ys,q,l,r⟩:=h;exact⟨a,ys,q,l.cR,r⟩
 |.mv xs,h=>obtain⟨a,ys,q,l,r⟩:=h;exact⟨a,ys,q,dq.of l,r⟩
 |.v .aH,h=>exact h|.v (.ax _),h=>exact h|.v (.int _),h=>exact h|.v (.str _),h=>exact h|.v (.t _),h=>exact h|.v (.ref _),h=>exact h|.v (.fn _),h=>exact h|.v (.ty _),h=>exact h
theorem B5{O:a_}:∀{rs:List R}{vs:List V},i8 K mg O H rs vs->l2 K mg O H (rs.map R.arg) vs
 |[],_,h=>h| _::_,_,h=>by obtain⟨y,r,q,a,b⟩:=h;exact⟨y,r,q,HB a,B5 b⟩
theorem l2.len{O:a_}:∀{ds:List D}{vs:List V},l2 K mg O H ds vs->vs.length=ds.length
 |[],_,h=>by cases h;rfl
 |_::_,_,h=>by obtain⟨x,r,rfl,_,b⟩:=h;rw[amk,amk,l2.len b]
theorem l2.get{O:a_}:∀{ds:List D}{xs:List V}{i:Nat}{d:D},l2 K mg O H ds xs->ds[i]? = some d->∃x,xs[i]? = some x/\uX K mg O H d x
 |[],_,_,_,_,e=>by simp at e| _::_,_,0,d,h,e=>by obtain⟨x,r,rfl,a,_⟩:=h;cases(show some _=some d from e);exact⟨x,rfl,a⟩
 |_::ds,_,i+1,d,h,e=>by
  obtain⟨x,r,rfl,_,b⟩:=h;obtain⟨y,av,aE⟩:=l2.get (i:=i) b (by simpa using e);exact⟨y,by simpa using av,aE⟩
def e3(K:aN)(mg:bo)(mf:bj):ej:=λvs H Q _=>∃O ds r S,dh O H/\fY K mg O H S/\l2 K mg O H ds vs/\(mf ds).run S=.ok r S/\∀a v H',Go O a H H'->dh a H'->eu K mg a H' r v->jv H r v->Q v H'
@[simp] def bh(mf:bj)(ms:c0)(U:aK):M R:=do
 let rs <-ms U
 mf (rs.map R.arg)
section
variable{mf:bj}{ms:c0}
def CL:∀b H Q,fL K mg (bh mf ms) b H Q->AV (e3 K mg mf) (pw K mg ms) b H Q:=by
 rintro b H Q ⟨O,U,S,r,j,st,h,q⟩;obtain⟨rs,S1,f,h⟩:=M.inv h;refine⟨O,U,S,rs,S1,st,f,λe vs n c a k nn=>?_⟩;obtain rfl:=(mf _).fc _ _ _ h;exact⟨e,_,r,j,a.ck,a.f9,B5 k,h,λi v H' g d l m=>q i v H' (c.trans g) (a.go g d) l (m.back c.same)⟩
end
def fnOf(n N:Nat)(b:aL):bj:=λds=>if ds.length=n then do
  let a <-b (ds.map b0++amm (N-n) .e)
  match a with
  |.cp (.v d)=>pure (.v d)|.cp (.fr xs)=>pure (.fr xs)|.bu _=>pure (.v .aH)|_=>bad
 else bad
def afR{O:a_}{v:V}(h:uX K mg O H d v):jx K mg (d2 O) H w (b0 d) (some v):=by
 have val:Rep K mg O H d v->jx K mg (d2 O) H w (.v d) (some v):=λh=>⟨v,rfl,h.c8 (j3 O)⟩
 match d,h,val with
 |.l xs,h,_=>
  obtain⟨a,ys,rfl,l,r⟩:=h;exact⟨a,ys,rfl,l.imp (λz=>⟨z,lz O a⟩) id,r.c8 (j3 O)⟩
 |.aH,h,val=>exact val h|.ax _,h,val=>exact val h|.int _,h,val=>exact val h|.str _,h,val=>exact val h|.t _,h,val=>exact val h|.ref _,h,val=>exact val h|.fn _,h,val=>exact val h|.ty _,h,val=>exact val h
omit [aA.a4]in
theorem yY{n N:Nat}{ds:List D}{S a:bI}{r:R}(h:(fnOf n N b ds).run S=.ok r a):ds.length=n:=by
 unfold fnOf at h
 by_cases c:ds.length=n
 .exact c
 .rw[if_neg c]at h;cases h
def Gv{ps N:List Str}{O:a_}{S:bI}{ds:List D}(b:dh O H)(dQ:fY K mg O H S)(f:l2 K mg O H ds vs)(hl:ds.length=ps.length):cN K mg (d2 O) (ds.map b0++amm (N.length-ps.length) .e) S (aA.start N vs) H:=by
 have c:=f.len;refine⟨⟨λa g=>b.has a λz=>g (og.mpr z),b.tabs,Jw b⟩,?_,λi s e=>?_,dQ.all (λ_ _ z=>Rep.c8 (j3 O) z) rfl λ_ _ _ l _=>l⟩
 .unfold aA.start
  rw[alN,alN,alM,alM,amG,amG,c,hl]
 .by_cases hi:i<ds.length
  .rw[al8 (by rw[alM];exact hi),al4]at e
   cases o:ds[i]? with
   |none=>rw[o]at e;cases e
   |some d=>
    rw[o]at e;cases e;obtain⟨v,j,h⟩:=f.get o;unfold aA.start;rw[al8 (by rw[alM,c];exact hi),al4,j];exact afR h
  .rw[al6 (by rw[alM];omega),ank]at e
   split at e
   .cases e;exact trivial
   .cases e
def Jy{ps N:List Str}(W:e3 K mg (fnOf ps.length N.length C) vs H Q E):lS K mg C { bu:=fun _ H'=>Q .aH H',cp:=Q } (aA.start N vs) H:=by
 obtain⟨O,ds,r,S,k,dQ,T,h,q⟩:=W;have hl:=yY h;unfold fnOf at h;rw[if_pos hl]at h;obtain⟨B,S1,D,h⟩:=M.inv h;have X:=Gv (N:=N) k dQ T hl;have A:∀b,H b≠none->d2 O b=.free\/d2 O b=.out:=λb _=>lz O b
 have back:∀{f:a_}{H':aw},d5 (d2 O) f H H'->dh f H'->∃j:a_,Go O j H H'/\dh j H'/\l5 f j/\∀b,(f b=.dn\/∃i,f b=.loc i)->H b=none/\j b=.dn:=λ{f H'} g d=>by
  refine⟨⟨λb=>match H b with|some _=>O b|none=>(match f b with|.loc _=>.dn|o=>o),O.bD⟩,⟨⟨λb o e n=>g.cells b o e ((A b (by rw[e];intro z;cases z)).elim .inl λz=>.inr (.inl z)) n,g.cJ,g.bY⟩,λb c=>?_,rfl⟩,⟨λb c=>?_,d.tabs,k.b9.1,λb m=>?_⟩,⟨λb c=>?_,g.bD.symm⟩,λb c=>?_⟩
  .dsimp only
   cases e:H b with
   |none=>exact absurd e c|some o=>rfl
  .dsimp only at c
   cases e:H b with
   |some o=>exact g.has b (by rw[e];intro z;cases z)|none=>
    rw[e]at c;refine d.has b λz=>c ?_
    dsimp only;rw[z]
  .dsimp only
   cases e:H b with
   |some o=>exact k.b9.2 b m| none=>exact absurd e (k.has b (by rw[k.b9.2 b m];intro z;cases z))
  .dsimp only
   cases e:H b with
   |some o=>
    dsimp only;have:=(g.own b (by rw[e];intro z;cases z) (lz O b)).symm.trans c;exact og.mp this
   |none=>
    dsimp only;rw[c]
  .have p:H b=none:=by
    cases e:H b with
    |none=>rfl|some o=>
     exfalso;have bq:=g.own b (by rw[e];intro z;cases z) (lz O b);rcases lz O b with z|z<;>rw[z]at bq<;>rcases c with w|⟨i,w⟩<;>rw[bq]at w<;>cases w
   refine⟨p,?_⟩;dsimp only;rw[p];rcases c with w|⟨i,w⟩<;>rw[w]
 refine⟨d2 O,_,S,B,S1,X,D,?_⟩
 cases B with
 |bu U'=>
  cases h;intro f Y H' g R _;obtain⟨j,x,u,y,_⟩:=back g R.ck;exact q j .aH H' x u rfl trivial
 |bk U'=>cases h
 |cx U'=>cases h
 |cp L=>
  intro f v H' g d F s;obtain⟨j,x,u,y,V⟩:=back g d
  cases L with
  |v dz=>cases h;exact q j v H' x u (Rep.c8 y s) trivial
  |fr xs=>
   cases h;obtain⟨a,ys,rfl,l,t,I⟩:=s;obtain⟨p,G⟩:=V a t;exact q j _ H' x u ⟨a,ys,rfl,l,G,I.c8 y⟩ λb P=>by cases P;exact p
  |b4 xs=>exact amu s|mv xs=>exact amu s
def Mo{P:al7}{w:World}{K:aN}{mg:bo}{base:Heap}{x qual:Str}{st:Stmt}{ps N:List Str}{k:Nat}{b:aL}{f:Addr}{c:amT}{n nl:Nat}(F:lg K x qual st f c)(d:gP N ps (df st))(i:ps.length=n)(hl:N.length=nl)
  (g:∀(a:Value)(A:ami)(outer:List Env)(s:alO)(H:aw)(E:gw),cB k (A.deeper (amR qual (df st) s.heap.objs.size f a))->
   u0 (gU ey P w K mg base N qual (df st) f a A outer s H E).gB (fJ st) b):e5 P w K mg base ey (k+1) f c ps (e3 K mg (fnOf n nl b)):=by
 subst i hl;exact F.ok d (λvs H Q E ⟨O,ds,r,S,m,dQ,j,h,q⟩=>j.len.trans (yY h)) λa A outer s H vs Q E e l=>⟨_,g a A outer s H E e,Jy l⟩
def vM{P:al7}{w:World}{K:aN}{mg:bo}{base:Heap}{x:Str}{st:Stmt}{ps N:List Str}{k:Nat}{c:aL}{n nl:Nat}(gO:gO K mg x st ps)(d:gP N ps (df st))(g:ps.length=n)(hl:N.length=nl)
  (e:∀(f:Addr)(a:Value)(A:ami)(outer:List Env)(s:alO)(H:aw)(E:gw),cB k (A.deeper (amR x (df st) s.heap.objs.size f a))->
   u0 (gU ey P w K mg base N x (df st) f a A outer s H E).gB (fJ st) c):eV P w K mg base x ps (k+1) (e3 K mg (fnOf n nl c)):=by
 obtain⟨f,h,F,b,m⟩:=gO.ex;exact⟨f,h,Mo F d g hl (λa=>e f a),b,F.kp,m⟩
omit [aA.a4]in
theorem LL{K:aN}{h:Heap}{mg:bo}{x:Str}{st:Stmt}{f:Addr}{ps:List Str}{j b:Option Addr}{bc:Array (Option Value)}{cS dr m e cd cx:Value}(X:K.In h)(G:h.Ns aml mg)
  (a:aoQ K aml x=some (some (.ref f))) (l:K.lookup f=some ⟨cS,j,.func (anF x x (iS st) (fJ st) (df st) .none dr m e b cd cx),bc⟩) (c:apn K cd x=true) (k:anJ K (.ref f)=true)
  (g:∀(dr d e:Value)(b:Option Addr)(i cx:Value)(us:List Value),us.length=ps.length->an0 (anF x x (iS st) (fJ st) (df st) .none dr d e b i cx) ⟨us,[]⟩=pure (ps.zip us)):gO K mg x st ps:=
 ⟨f,_,y2 (st:=st) l c k,(y2 (st:=st) l c k).binds g,apq X G a⟩
abbrev xw(K:aN):ej:=λvs H Q _=>∃(a:Addr)(ns:List Int),vs=[.ref a]/\dq K H a (ns.map V.int)/\ns.length<=63/\TabsOk H/\∀H',Q (.ax true) H'
abbrev pO:Nat:=10715086071862673209484250490600018105614048117055336074437503883703510511249361224931983788156958581275946729175531468251871452856923140435984577574698574803934567774824230985421074605062371141877954182153046474983581941267398767559165543946077062914571196477686542167660429831652624386837205668069376
omit [aA.a4]in
theorem Jq:pO=2 ^ 1000:=by decide +kernel
omit [aA.a4]in
theorem OT{i:Int}(h:i.natAbs<pO):amW i<=1000:=by
 unfold amW;split
 .exact amt _
 .rename_i hz
  have:i.natAbs.log2<1000:=(Nat.log2_lt (by simpa using hz)).mpr (Jq▸h);omega
def iJ(i j:Int):Prop:=(-(2 ^ 64)<i/\i<2 ^ 64)\/(-(2 ^ 64)<j/\j<2 ^ 64)\/(i.natAbs<pO/\j.natAbs<pO)
omit [aA.a4]in
theorem iJ.ok{i j:Int}(h:iJ i j):IntMulOk i j:=by
 rcases h with h|h|h
 .exact(show xX i j from .inl h).ok
 .exact(show xX i j from .inr h).ok
 .have b:=OT h.1
  have c:=OT h.2;have a:aqj (amW i+amW j)=false:=by
   unfold aqj;refine decide_eq_false ?_;have:(2000:Int)<=((bitsLine:Nat):Int):=by decide
   omega
  unfold IntMulOk;rw[a];simp
instance (i j:Int):Decidable (iJ i j):=by unfold iJ;exact inferInstance
def adn:d0 X (anI .Mult) (kl iJ λi j=>.int (i*j)):=uf λ_ _ _ _ _ _ _ a q=>PyProof.Rows.mul_int q a.ok
abbrev nT:=pb iJ (· * ·)
def Sr{X:aT}:eg X.K X.mg (kl iJ λi j=>.int (i*j)) nT:=sP λ_ _ h=>h
def pP(_ j:Int):Prop:=0<j/\j.natAbs<pO
instance (i j:Int):Decidable (pP i j):=by unfold pP;exact inferInstance
def adi:d0 X (anI .FloorDiv) (kl pP λi j=>.int (i / j)):=uf λi j _ _ _ _ _ a q=>by
 have c:(0:Int)<j:=a.1;have b:j.natAbs<pO:=a.2;refine PyProof.Rows.floordiv_int (by omega) (by rw[apF i (by omega)];exact q) (.inl (PyProof.noPylong_of_log2 ?_));have:j.natAbs.log2<1000:=(Nat.log2_lt (by omega)).mpr (Jq▸b);omega
abbrev eS:=pb pP (· / ·)
def So{X:aT}:eg X.K X.mg (kl pP λi j=>.int (i / j)) eS:=sP λ_ _ h=>h
def oBits:R->M R
 |.v (.int i)=>pure (.v (.int (amW i:Nat)))|_=>bad
structure G9(mg:bo):Prop where
 len:mg "len"=none
 range:mg "range"=none
 isinstance:mg "isinstance"=none
 max:mg "max"=none
 min:mg "min"=none
 any:mg "any"=none
 all:mg "all"=none
 Zu:mg "int"=none
 TO:mg "bool"=none
 E0:mg "list"=none
 tuple':mg "tuple"=none
 af4:mg "str"=none
 abs:mg "abs"=none
 sorted:mg "sorted"=none
 sum:mg "sum"=none
 zip:mg "zip"=none
 enumerate:mg "enumerate"=none
 reversed:mg "reversed"=none
 alq:mg "set"=none
omit [aA.a4]in
theorem TU:amB "abs"=some (.builtin "abs"):=by decide +kernel
omit [aA.a4]in
theorem T4:amB "min"=some (.builtin "min"):=by decide +kernel
end aC
namespace aC
open PySem PySem.Spec aA
@[simp] theorem ajp{α a:Type}(f:α->M a):(bad >>= f)=bad:=rfl
@[simp] theorem ajt{p:Prop}[Decidable p]:hK p=if p then pure ()else bad:=rfl
@[simp] theorem UU:af d U=pure (.v d):=rfl
@[simp] theorem akE:R.sj (.v (.ax b))=pure b:=rfl
@[simp] theorem ajb{g:Int->Int->Int}{i j:Int}:r5 g (.v (.int i)) (.v (.int j))=pure (.v (.int (g i j))):=rfl
@[simp] theorem aja{C:Int->Int->Prop}[∀i j,Decidable (C i j)]{g:Int->Int->Int}{i j:Int}:pb C g (.v (.int i)) (.v (.int j))=if C i j then pure (.v (.int (g i j)))else bad:=rfl
@[simp] theorem ai9{g:Int->Int->Bool}{i j:Int}:r4 g (.v (.int i)) (.v (.int j))=pure (.v (.ax (g i j))):=rfl
@[simp] theorem akc{i:Int}:qz (.v (.int i))=pure (.v (.int (-i))):=rfl
@[simp] theorem ajq{i:Int}:oBits (.v (.int i))=pure (.v (.int (amW i:Nat))):=rfl
@[simp] theorem ake:ai U=pure []:=rfl
@[simp] theorem ajC:R.dat (.v d)=pure d:=rfl
@[simp] theorem ajz:R.dat (.fr xs)=pure (.l xs):=rfl
@[simp] theorem ajB:kz []=pure []:=rfl
@[simp] theorem ajA{r:R}:kz (r::rs)=(do
  let d <-r.dat
  let ds <-kz rs
  pure (d::ds)):=rfl
@[simp] theorem aka:R.ft (.v (.l xs))=some xs:=rfl
@[simp] theorem aj7:R.ft (.fr xs)=some xs:=rfl
@[simp] theorem akb:R.ft (.b4 xs)=some xs:=rfl
@[simp] theorem aj8:R.ft (.mv xs)=some xs:=rfl
@[simp] theorem akp:R.seq (.v (.l xs))=some xs:=rfl
@[simp] theorem ako:R.seq (.v (.t xs))=some xs:=rfl
@[simp] theorem akm:R.seq (.fr xs)=some xs:=rfl
@[simp] theorem akq:R.seq (.b4 xs)=some xs:=rfl
@[simp] theorem akn:R.seq (.mv xs)=some xs:=rfl
@[simp] theorem akk:R.own (.v (.l xs))=some xs:=rfl
@[simp] theorem aki:R.own (.fr xs)=some xs:=rfl
@[simp] theorem akj:R.own (.mv xs)=some xs:=rfl
@[simp] theorem aji:R.arg (.v d)=d:=rfl
@[simp] theorem ajg:R.arg (.fr xs)=.l xs:=rfl
@[simp] theorem ajj:R.arg (.b4 xs)=.l xs:=rfl
@[simp] theorem ajh:R.arg (.mv xs)=.l xs:=rfl
@[simp] theorem aj5{x:R}:gW [x]=match x.seq with
  |some xs=>pure (.v (.int (xs.length:Nat)))|none=>bad:=rfl
@[simp] theorem aj1:R.kind (.v .aH)=some "NoneType":=rfl
@[simp] theorem ajW:R.kind (.v (.ax b))=some "bool":=rfl
@[simp] theorem ajY{i:Int}:R.kind (.v (.int i))=some "int":=rfl
@[simp] theorem aj2:R.kind (.v (.str x))=some "str":=rfl
@[simp] theorem aj3:R.kind (.v (.t xs))=some "tuple":=rfl
@[simp] theorem ajZ:R.kind (.v (.l xs))=some "list":=rfl
@[simp] theorem ajX:R.kind (.fr xs)=some "list":=rfl
@[simp] theorem aj4:R.kind (.b4 xs)=some "list":=rfl
@[simp] theorem aj0:R.kind (.mv xs)=some "list":=rfl
@[simp] theorem ajH{x:R}:gV [x,.v (.ty n)]=match x.kind with
  |some t=>if n∈["int","bool","tuple","list","str"]then pure (.v (.ax (v8 t n)))else bad|none=>bad:=rfl
@[simp] theorem ajI:v8 t n=(t==n||(t == "bool"&&n == "int")):=rfl
@[simp] theorem ai8{g:Int->Int->Int}{i j:Int}:rv g [.v (.int i),.v (.int j)]=pure (.v (.int (g i j))):=rfl
@[simp] theorem ajc{i:Int}:vz [.v (.int i)]=pure (.v (.int (if i<0 then -i else i))):=rfl
@[simp] theorem aje{x:R}:vA [x]=match x.ft.bind md with
  |some bs=>pure (.v (.ax (bs.any id)))|none=>bad:=rfl
@[simp] theorem ajd{x:R}:oA [x]=match x.ft.bind md with
  |some bs=>pure (.v (.ax (bs.all id)))|none=>bad:=rfl
theorem yw{α:Type}(p:α->Bool):∀xs:List α,md (xs.map λx=>D.ax (p x))=some (xs.map p)
 |[]=>rfl| x::xs=>by rw[alZ,alZ,md,yw p xs];rfl
@[simp] theorem aj9{x:R}:oB [x]=match x.seq with
  |some xs=>pure (.fr xs)|none=>bad:=rfl
@[simp] theorem akF{x:R}:p_ [x]=match x.seq with
  |some xs=>pure (.v (.t xs))|none=>bad:=rfl
def B7{α:Type}{xs:List α}{k:Nat}(h:k<xs.length):d1 xs (k:Int)=some xs[k]:=HG (by simp[h])
@[simp] theorem ajU{i:Int}:aG (.v (.t xs)) (.v (.int i))=match d1 xs i with
   |some d=>pure (.v d)|none=>bad:=rfl
@[simp] theorem ajS{i:Int}:aG (.v (.l xs)) (.v (.int i))=match d1 xs i with
   |some d=>pure (.v d)|none=>bad:=rfl
@[simp] theorem ajR{i:Int}:aG (.fr xs) (.v (.int i))=match d1 xs i with
   |some d=>pure (.v d)|none=>bad:=rfl
@[simp] theorem ajV{i:Int}:aG (.b4 xs) (.v (.int i))=match d1 xs i with
   |some d=>pure (.v d)|none=>bad:=rfl
@[simp] theorem ajT{i:Int}:aG (.mv xs) (.v (.int i))=match d1 xs i with
   |some d=>pure (.v d)|none=>bad:=rfl
def kx{α:Type}{xs:List α}(k:Nat){v:α}(h:xs[k]? = some v):d1 xs (k:Int)=some v:=HG h
@[simp] theorem ajk{α:Type}{x:α}{xs:List α}:d1 (x::xs) 0=some x:=kx 0 rfl
@[simp] theorem ajl{α:Type}{x y:α}{xs:List α}:d1 (x::y::xs) 1=some y:=kx 1 rfl
@[simp] theorem ajm{α:Type}{x y z:α}{xs:List α}:d1 (x::y::z::xs) 2=some z:=kx 2 rfl
@[simp] theorem ajn{α:Type}{x y z w:α}{xs:List α}:d1 (x::y::z::w::xs) 3=some w:=kx 3 rfl
@[simp] theorem ajo{α:Type}{x y z w v:α}{xs:List α}:d1 (x::y::z::w::v::xs) 4=some v:=kx 4 rfl
@[simp] theorem akl:yC U=pure (.cp (.v .aH)):=rfl
@[simp] theorem ajf{r:R}:k2 xs [r]=(do
  let d <-r.dat
  hK (xs.length<alP)
  pure (.v .aH,xs++[d])):=rfl
@[simp] theorem ajE{r:R}:xG xs [r]=match r.own with
  |some ys=>do
   hK (xs.length+ys.length<=alP)
   pure (.v .aH,xs++ys)
  |none=>bad:=rfl
@[simp] theorem akf:jC U=pure none:=rfl
@[simp] theorem aks{l h:Option Int}:pd (.fr xs) l h=pure (.fr (cutD xs l h)):=rfl
@[simp] theorem akD{l h:Option Int}:pd (.b4 xs) l h=pure (.fr (cutD xs l h)):=rfl
@[simp] theorem aku{l h:Option Int}:pd (.mv xs) l h=pure (.fr (cutD xs l h)):=rfl
@[simp] theorem akt{l h:Option Int}:pd (.v (.l xs)) l h=pure (.fr (cutD xs l h)):=rfl
@[simp] theorem L1{xs:List D}{l h:Option Int}:pd (.v (.t xs)) l h=if c4.cu xs.length 0 l=0/\c4.cu xs.length xs.length h=xs.length then bad else pure (.v (.t (cutD xs l h))):=rfl
@[simp] theorem ajv{cap:List Nat}:hL n cap U=amm n .e++cap.map λk=>ri U[k]?:=rfl
@[simp] theorem ajx:ri (some (.v d))=.v d:=rfl
@[simp] theorem ajw:ri (some (.en p xs))=.b4 xs:=rfl
@[simp] theorem ajy:ri (some (.b4 xs))=.b4 xs:=rfl
@[simp] theorem akH:eM U=pure true:=rfl
@[simp] theorem ajG{x:R}:jS x (.v .aH)=pure (.v (.ax x.ka)):=rfl
@[simp] theorem akg{x:R}:i1 x (.v .aH)=pure (.v (.ax (!x.ka))):=rfl
@[simp] theorem ajJ:R.ka (.v .aH)=true:=rfl
@[simp] theorem ajM{i:Int}:R.ka (.v (.int i))=false:=rfl
@[simp] theorem ajP:R.ka (.v (.t xs))=false:=rfl
@[simp] theorem ajL:R.ka (.fr xs)=false:=rfl
@[simp] theorem ajO:R.ka (.v (.str x))=false:=rfl
@[simp] theorem ajD{i j:Int}:oEq (.v (.int i)) (.v (.int j))=pure (.v (.ax (i==j))):=rfl
@[simp] theorem akd{i j:Int}:dX (.v (.int i)) (.v (.int j))=pure (.v (.ax (!(i==j)))):=rfl
def rq{x y:R}(b:x.arg.bY 64=true)(a:y.arg.bY 64=true):oEq x y=pure (.v (.ax (eo x.arg y.arg))):=if_pos ⟨b,a⟩
def sW{x y:R}(b:x.arg.bY 64=true)(a:y.arg.bY 64=true):dX x y=pure (.v (.ax (!eo x.arg y.arg))):=if_pos ⟨b,a⟩
@[simp] theorem aky:b0 (.l xs)=.b4 xs:=rfl
@[simp] theorem akx{i:Int}:b0 (.int i)=.v (.int i):=rfl
@[simp] theorem akB:b0 (.t xs)=.v (.t xs):=rfl
@[simp] theorem akA:b0 (.str x)=.v (.str x):=rfl
@[simp] theorem akz:b0 .aH=.v .aH:=rfl
@[simp] theorem akv:b0 (.ax b)=.v (.ax b):=rfl
@[simp] theorem yO{n N:Nat}{ds:List D}:fnOf n N b ds=if ds.length=n then(do
  let a <-b (ds.map b0++amm (N-n) .e)
  match a with
  |.cp (.v d)=>pure (.v d)|.cp (.fr xs)=>pure (.fr xs)|.bu _=>pure (.v .aH)| _=>bad)else bad:=rfl
theorem Mf{b:D->aL}(J:Nat->aK->Prop):∀(ds:List D)(k:Nat)(U:aK),J k U->(∀i d U,ds[i]? = some d->J (k+i) U->∃U',(b d U=pure (.bu U')\/b d U=pure (.cx U'))/\J (k+i+1) U')->
  ∃U',kD b ds U=pure (.bu U')/\J (k+ds.length) U'
 |[],k,U,h0,_=>⟨U,rfl,h0⟩
 |d::ds,k,U,h0,step=>by
  obtain⟨g,e,a⟩:=step 0 d U rfl h0;obtain⟨f,aE,c⟩:=Mf J ds (k+1) g a λi d' U' hd h=>by
   have:=step (i+1) d' U' (by simpa using hd) (by rw[show k+(i+1)=k+1+i by omega];exact h);rw[show k+(i+1)+1=k+1+i+1 by omega]at this;exact this
  refine⟨f,?_,by rw[amk,show k+(ds.length+1)=k+1+ds.length by omega];exact c⟩;show(b d U >>= _)=_;rcases e with e|e<;>rw[e]<;>exact aE
def vB{b:D->aL}{ds:List D}(J:Nat->aK->Prop)(c:J 0 U)(step:∀i d U,ds[i]? = some d->J i U->∃U',(b d U=pure (.bu U')\/b d U=pure (.cx U'))/\J (i+1) U') :
  ∃U',kD b ds U=pure (.bu U')/\J ds.length U':=by
 obtain⟨U',e,h⟩:=Mf J ds 0 U c λi d U hd a=>by
  rw[an3]at a ⊢;exact step i d U hd a
 exact⟨U',e,by rw[an3]at h;exact h⟩
def AI{lo:Int}(h:(ec lo n)[i]? = some d):i<n/\d=.int (lo+(i:Nat)):=by
 have hi:i<n:=by
  have:=(alK.mp h).1
  rwa[mP]at this
 unfold ec at h;rw[al4,anp hi]at h;cases h;exact⟨hi,rfl⟩
def Sg{ns:List Int}(h:k<ns.length):d1 (ns.map D.int) (k:Int)=some (.int (ns.getD k 0)):=by
 refine kx k ?_;rw[al4,al1 h];simp[amC,h]
def mod_lt{a b:Int}(h:0<b):0<=a % b/\a % b<b:=⟨Int.emod_nonneg _ (by omega),Int.emod_lt_of_pos _ h⟩
def aaR{i:Int}(a:-(10 ^ 200)<i)(b:i<10 ^ 200):i.natAbs<pO:=by
 unfold pO;omega
def Fp{i j:Int}(a:-(2 ^ 64)<i)(b:i<2 ^ 64):iJ i j:=.inl ⟨a,b⟩
def C5{i j:Int}(a:0<j)(b:j<10 ^ 200):pP i j:=⟨a,aaR (by omega) b⟩
end aC
namespace aC
open PySem PySem.Spec aA
variable[aA.a4]
def s':List Nat->pY
 |[]=>Mw|i::is=>Mu (kF i) (s' is)
section
variable{X:aT}{is:List Nat}{ay:List Expr}
def PG{i:Nat}{x:Str}{p:Pos}(hN:X.N.Nodup)(hi:X.N[i]? = some x)(a:Loc X.env.scope x)(h:q2 X ay (s' is))(hs:(amJ (.Name x p::ay) X.env).map (·.2)=aoc (.Name x p) X.env::(amJ ay X.env).map (·.2):=by rfl)
  (b:X.fn x=true\/X.env.scope.names.lookup x=some .local:=by first|exact .inl rfl|exact .inr rfl|assumption):q2 X (.Name x p::ay) (s' (i::is)):=aev (uk hN hi a b) h hs
def aew:q2 X [] (s' []):=aex
end
def nums:List D->Option (List Int)
 |[]=>some []|.int b::r=>(nums r).map (b::·)|_=>none
section
variable{K:aN}{mg:bo}
theorem An{O:a_}:∀{ds:List D}{ys:List V}{bs:List Int},bl K mg O H ds ys->nums ds=some bs->ys=bs.map V.int
 |[],ys,bs,h,e=>by cases e;exact h
 |d::ds,ys,bs,h,e=>by
  cases d with
  |int b=>
   have e:(nums ds).map (b::·)=some bs:=e;obtain⟨cs,av,rfl⟩:=aoP.mp e;obtain⟨y,r,rfl,a,c⟩:=h;rw[An c av,show y=.int b from a];rfl
  |_=>exact absurd (show(none:Option (List Int))=some bs from e) (by intro z;cases z)
end
end aC
namespace aC
open PySem PySem.Spec aA
section
variable[aA.a4](X:aT)
structure bb(e:Expr)(m:bt):Prop where
 un:hy X e m
structure fi(e:Expr)(m:aK->M Bool):Prop where
 un:Hb X e m
structure lu(e:Expr)(m:aK->M Bool):Prop where
 un:xZ X e m
structure gv(e:List Expr)(m:c0):Prop where
 un:G_ X e m
structure pZ(e:Option Expr)(m:lp):Prop where
 un:Rw X e m
structure e_(e:Stmt)(m:aL):Prop where
 un:Rx X e m
structure hF(e:List Stmt)(m:aL):Prop where
 un:u0 X e m
structure q8(cf e:Expr)(m:fH):Prop where
 un:G' X cf e m
structure yh(cf e:Expr)(m:fH):Prop where
 un:Rv X cf e m
structure q7(e:List Expr)(m:aK->M Bool):Prop where
 un:BC X e m
end
section
variable[aA.a4]
variable{X:aT}{a e:Expr}{pos:Pos}
theorem dK(i:Nat)(hN:X.N[i]? = some x:=by rfl)(f:q6 X.env.scope x:=by first|exact anG rfl|exact amN (.inl rfl)|exact amN (amN rfl))(hd:(x==("__debug__":Str))=false:=by decide)(g:(x==("__classdict__":Str))=false:=by decide):bb X (.Name x pos) (I i):=⟨eb (Ax hN f hd g) λb H Q c=>by
 obtain⟨O,U,S,r,j,st,h,q⟩:=c;unfold I at h
 cases e:U[i]? with
 |none=>rw[e]at h;cases h
 |some s=>
  rw[e]at h;have l:=st.loc i s e;have get:∀{v:V},b[i]?.join=some v->b[i]? = some (some v):=λ{v} z=>by
   cases w:b[i]? with
   |none=>rw[w]at z;cases z
   |some y=>rw[w]at z;exact congrArg some z
  cases s with
  |v d=>
   obtain⟨v,av,aE⟩:=l;cases h;exact⟨v,get av,q O v H (Go.refl _ _) st aE trivial⟩
  |en p xs=>
   obtain⟨a,ys,av,aE,cX,eZ⟩:=l;cases h;exact⟨_,get av,q O _ H (Go.refl _ _) st ⟨a,ys,rfl,cX,eZ⟩ trivial⟩
  |b4 xs=>
   obtain⟨a,ys,av,aE,eZ⟩:=l;cases h;exact⟨_,get av,q O _ H (Go.refl _ _) st ⟨a,ys,rfl,aE,eZ⟩ trivial⟩
  |e=>cases h⟩
end
section
variable[aA.a4]
variable{X:aT}{e:Expr}{ay:List Expr}{m:bt}{ms:c0}
def eN(p:bb X e m)(f:gv X ay ms)(hs:alJ (e::ay) X.env=(false,eval e X.env)::alJ ay X.env:=by rfl):gv X (e::ay) (aa m ms):=⟨xa (uj p.un f.un hs) λy H Q k=>by
 obtain⟨O,U,S,r,w,st,h,q⟩:=k;obtain⟨x,S1,l,h⟩:=M.inv h;obtain⟨xs,u,n,h⟩:=M.inv h;cases h;refine⟨O,U,S,x,S1,st,l,λg a t b j d bu=>?_⟩;refine⟨g,U,S1,xs,_,j,n,λs vs i c bF rs ns=>?_⟩;exact q s (a::vs) i (b.trans c) bF ⟨a,vs,rfl,d.go c,rs⟩ ⟨bu,ns.back b.same⟩⟩
end
section
variable[aA.a4]
variable{X:aT}{pos:Pos}
def gE{i j pos}:bb X (.Constant (.int i) j pos) (af (.int i)):=⟨vo aee λ_ _=>rfl⟩
end
section
variable[aA.a4]
variable{X:aT}
def i2 :gv X [] ai:=⟨xa Aw λc H Q a=>by
 obtain⟨O,U,S,r,b,st,h,q⟩:=a;cases h;exact q O [] H (Go.refl _ _) st rfl trivial⟩
end
section
variable[aA.a4]
variable{X:aT}{a b:Expr}{cM cT:bt}{pos:Pos}
def lV{op:Operator}{r:fx}(c:d0 X (anI op) r)(g:eg X.K X.mg r f)(e:bb X a cM)(d:bb X b cT):bb X (.BinOp a op b pos) (ae f cM cT):=⟨eb (aem c e.un d.un) (yy g)⟩
end
section
variable[aA.a4]
variable{X:aT}{st:Stmt}{rest:List Stmt}{a b:aL}
def n5(c:e_ X st a)(k:hF X rest b):hF X (st::rest) (bE a b):=⟨Az (PN c.un k.un) λD p H j=>by
 obtain⟨O,U,S,g,l,st,h,q⟩:=j;obtain⟨e,S1,c,h⟩:=M.inv h;refine⟨O,U,S,e,S1,st,c,?_⟩
 cases e with
 |bu d=>exact λf s n m i eF=>⟨f,d,S1,g,l,i,h,q.bM m eF⟩
 |cp r=>cases h;exact q
 |bk d=>cases h;exact q
 |cx d=>cases h;exact q⟩
end
section
variable[aA.a4]
variable{X:aT}{st:Stmt}{a:aL}
def qP(h:e_ X st a):hF X [st] a:=⟨PO h.un⟩
end
section
variable[aA.a4]
variable{X:aT}{a b:Expr}{cM cT:bt}{pos:Pos}
def hx{r:fx}(c:m7 X r)(g:eg X.K X.mg r f)(e:bb X a cM)(d:bb X b cT)(hs:Hr b:=by exact λ_ _=>rfl):bb X (.Subscript a b pos) (ae f cM cT):=⟨eb (aef c e.un d.un hs) (yy g)⟩
end
section
variable[aA.a4]
variable{X:aT}{st:Stmt}{pos:Pos}{e:Expr}{m:bt}
theorem sv(he:bb X e m):e_ X (.Return (some e) pos) (a0 m):=⟨gL (FX he.un) λD n H i=>by
 obtain⟨O,U,S,k,l,st,h,q⟩:=i;obtain⟨r,S1,j,h⟩:=M.inv h;refine⟨O,U,S,r,S1,st,j,λc v b g a f nn=>?_⟩
 cases r with
 |v d=>cases h;exact q c v b g.bM a.ck a.f9 f
 |fr xs=>cases h;exact q c v b g.bM a.ck a.f9 (Qe f (.inr ⟨_,rfl⟩))
 |b4 xs=>cases h
 |mv xs=>cases h⟩
end
section
variable[aA.a4]
variable{X:aT}{ay:List Expr}{ms:c0}{pos:Pos}
def pG{o}(h:gv X ay ms):bb X (.Tuple ay o pos) (bL ms):=⟨eb (aep h.un) λs H Q e=>by
 obtain⟨O,U,S,r,n,st,h,q⟩:=e;obtain⟨rs,S1,f,h⟩:=M.inv h;obtain⟨ds,m,g,h⟩:=M.inv h;obtain⟨_,t,i,h⟩:=M.inv h;obtain⟨hl,rfl⟩:=rf i;cases h;refine⟨O,U,S,rs,S1,st,f,λc vs l k d j nn=>?_⟩;obtain⟨b,rfl⟩:=yK (H₀:=H) j nn g;refine⟨anr (fU (by rw[b.len];exact hl)),λp a=>?_⟩;exact q (cF H c) _ _ (k.cF.trans (Go.ho a)) ((d.cF H).ho a) ⟨p,vs,rfl,dx.of dZ,b.go (Go.ho a)⟩ trivial⟩
end
section
variable[aA.a4]
variable{X:aT}{pos:Pos}{e:Expr}{m:bt}
variable{i:Nat}{x:Str}{pos':Pos}
def GW(hN:X.N.Nodup)(hi:X.N[i]? = some x)(a:Loc X.env.scope x)(he:bb X e m)(hs:anm e (some (.Name x pos')) pos.line X.env=pure false:=by rfl)(b:X.fn x=true\/X.env.scope.names.lookup x=some .local:=by first|exact .inl rfl|exact .inr rfl|assumption):e_ X (.Assign [.Name x pos'] e pos) (b8 i m):=⟨gL (FY hN hi a he.un hs b) (Qq λ_ _ _ h=>h)⟩
end
section
variable[aA.a4]
variable{X:aT}{x:Str}{ps:List Str}{k:Nat}{mf:bj}{p pos:Pos}{e:Expr}{ay:List Expr}{ms:c0}
def ahs(h:eV X.prog X.w X.K X.mg X.base x ps k (e3 X.K X.mg mf))(a:cB k X.A)(b:d_ X x)(c:gv X (e::ay) ms)(d:(x==("__debug__":Str))=false:=by decide)(he:alJ (e::ay) X.env=(false,eval e X.env)::alJ ay X.env:=by rfl)(f:(amg pos (alJ ay X.env)).any (·.1)=false:=by rfl):bb X (.Call (.Name x p) (e::ay) [] pos) (bh mf ms):=⟨eb (Pz h a b c.un d he f) CL⟩
end
section
variable[aA.a4]
variable{X:aT}{x:Str}{ps:List Str}{k:Nat}{mf:bj}{p pos:Pos}
def aht(h:eV X.prog X.w X.K X.mg X.base x ps k (e3 X.K X.mg mf))(a:cB k X.A)(b:d_ X x)(e:(x==("__debug__":Str))=false:=by decide):bb X (.Call (.Name x p) [] [] pos) (bh mf ai):=⟨eb (aec h a b e) λd H Q h=>by
  obtain⟨O,U,S,rs,S1,st,c,q⟩:=CL d H Q h;cases c;exact q O [] H (Go.refl _ _) st rfl trivial⟩
end
section
variable[aA.a4]
variable{X:aT}{e:Expr}{ay:List Expr}{ms:c0}{pos p:Pos}{x:Str}{id:String}{r:List V->aw->cE->Prop}{f:List R->M R}
def qO(i:jY X (.builtin id) r)(j:k9 X.K X.mg r f)(a:d_ X x)(k:X.mg x=none)(d:amB x=some (.builtin id))(b:gv X (e::ay) ms)(c:x≠"__name__":=by decide)(g:(x==("__debug__":Str))=false:=by decide)(he:alJ (e::ay) X.env=(false,eval e X.env)::alJ ay X.env:=by rfl)(h:(amg pos (alJ ay X.env)).any (·.1)=false:=by rfl):bb X (.Call (.Name x p) (e::ay) [] pos) (cA f ms):=⟨eb (ad6 i a k d b.un c g he h) (JE j)⟩
end
section
variable[aA.a4]
variable{X:aT}{st:Stmt}{pos:Pos}{a b:aL}
theorem GV{A B:List Stmt}(n:fi X c t)(m:hF X A a)(k:hF X B b):e_ X (.If c A B pos) (b7 t a b):=⟨gL (PL n.un m.un k.un) λD r H j=>by
 obtain⟨O,U,S,e,g,st,h,q⟩:=j;obtain⟨t,S1,l,h⟩:=M.inv h;refine⟨O,U,S,t,S1,st,l,λd p i f=>?_⟩
 cases t with
 |false=>
  rw[if_neg alR]at h;exact oP ⟨d,U,S1,e,g,f,h,q.bM i.bM (fg.refl _ _)⟩
 |true=>
  rw[if_pos rfl]at h;exact oQ ⟨d,U,S1,e,g,f,h,q.bM i.bM (fg.refl _ _)⟩⟩
end
section
variable[aA.a4]
variable{X:aT}{st:Stmt}
theorem GX :hF X [] bS:=⟨Az aeP λD b H a=>by obtain⟨O,U,S,c,d,st,h,q⟩:=a;cases h;exact q O b H (d5.refl _ _) st (fg.refl _ _)⟩
end
section
variable[aA.a4]
variable{X:aT}{a b:Expr}{cM cT:bt}{pos:Pos}
def i3{op:CmpOp}{r:fx}(d:d0 X (amx op) r)(i:eg X.K X.mg r f)(g:bb X a cM)(e:bb X b cT)(j:anE op b=false:=by exact iE _):fi X (.Compare a [op] [b] pos) (aU (ae f cM cT)):=⟨xc (aeR d g.un e.un j) λc H Q h=>QJ (yy i) c H Q (GG c H Q h)⟩
end
section
variable[aA.a4]
variable{X:aT}{a:Expr}{cM:bt}{pos:Pos}
def ah7(c:bb X a cM)(he:∀b,isTrue a X.env b=(do let v <-b;anY a.pos;ang [v] (truthy v)):=by intro _;rfl):fi X a (aU cM):=⟨xc (aeW c.un he) λd H Q h=>GG d H Q h⟩
end
section
variable[aA.a4]
variable{X:aT}{e:Expr}
def k5{v:V}(h:b1 X e (pq v))(r:∀O H,Rep X.K X.mg O H d v):bb X e (af d):=⟨vo h r⟩
end
section
variable[aA.a4]
variable{X:aT}{ay:List Expr}{ms:c0}{pos:Pos}
def ahA(h:gv X ay ms):bb X (.List ay pos) (dW ms):=⟨eb (PA h.un) λu H Q g=>by
 obtain⟨O,U,S,r,t,st,h,q⟩:=g;obtain⟨rs,S1,i,h⟩:=M.inv h;obtain⟨ds,s,j,h⟩:=M.inv h;obtain⟨_,w,k,h⟩:=M.inv h;obtain⟨hl,rfl⟩:=rf k;cases h;refine⟨O,U,S,rs,S1,st,i,λe vs n d f l nn=>?_⟩;obtain⟨c,rfl⟩:=yK (H₀:=H) l nn j;refine⟨anr (fU (by rw[c.len];exact hl)),λp b=>?_⟩;refine q (fV (cF H e) p .dn) _ _ (d.cF.trans (Go.new b)) ((f.cF H).new b) ⟨p,vs,rfl,dZ,lU,c.go (Go.new b)⟩ λa m=>?_
 cases m;exact d.same.free b⟩
end
section
variable[aA.a4]
variable{X:aT}{b:Expr}{pos:Pos}
def ahr{b j pos}:bb X (.Constant (.bool b) j pos) (af (.ax b)):=⟨vo ad3 λ_ _=>rfl⟩
end
section
variable[aA.a4]
variable{X:aT}{a:Expr}{bV:aK->M Bool}{pos:Pos}
def ah6(g:fi X a bV):fi X (.UnaryOp .Not a pos) (ef bV):=⟨xc (aeV g.un) λk H Q e=>by
 obtain⟨O,U,S,r,j,st,h,q⟩:=e;obtain⟨t,S1,f,h⟩:=M.inv h;cases h;exact⟨O,U,S,t,_,st,f,λc b i d=>q c b i d⟩⟩
end
section
variable[aA.a4]
variable{X:aT}{a b:Expr}{bV cJ:aK->M Bool}{pos:Pos}
variable{rest:List Expr}
def aia(m:fi X a bV)(j:lu X (.BoolOp .Or (b::rest) pos) cJ):lu X (.BoolOp .Or (a::b::rest) pos) (f_ bV cJ):=⟨PV (ae3 m.un j.un) λs H Q i=>by
 obtain⟨O,U,S,r,n,st,h,q⟩:=i;obtain⟨t,S1,k,h⟩:=M.inv h;refine⟨O,U,S,t,S1,st,k,λc f e d=>?_⟩
 cases t with
 |true=>
  rw[if_pos rfl]at h;cases h;exact oQ (q c f e d)
 |false=>
  rw[if_neg alR]at h;exact oP ⟨c,U,S1,r,n,d,h,λl H' g p=>q l H' (e.trans g) p⟩⟩
end
section
variable[aA.a4]
variable{X:aT}{pos:Pos}
def Q3{x j pos}:bb X (.Constant (.str x) j pos) (af (.str x)):=⟨vo aen λ_ _=>rfl⟩
end
section
variable[aA.a4]
variable{X:aT}{pos:Pos}
def ahF{j pos}:bb X (.Constant .none j pos) (af .aH):=⟨vo aej λ_ _=>rfl⟩
end
section
variable[aA.a4]
variable{X:aT}{a b:Expr}{cM cT:bt}{pos:Pos}
def pF{op:CmpOp}{r:fx}(c:d0 X (amx op) r)(g:eg X.K X.mg r f)(e:bb X a cM)(d:bb X b cT)(h:anE op b=false):bb X (.Compare a [op] [b] pos) (ae f cM cT):=⟨eb (aea c e.un d.un h) (yy g)⟩
end
section
variable[aA.a4]
variable{X:aT}{iter:Expr}{it:fH}{i:Nat}{b:aL}{body:List Stmt}{pos fu:Pos}{x:Str}
def ah0(a:apy (model X.prog X.w) X.A X.env X.dH)(e:X.calm=true)(hi:yh X (.Name x fu) iter it)(hN:X.N.Nodup)(d:X.N[i]? = some x)(hl:Loc X.env.scope x)(c:hF X body b)(hs:∀x,amM iter X.env x=pure x:=by intro _;rfl)(f:X.fn x=true\/X.env.scope.names.lookup x=some .local:=by first|exact .inl rfl|exact .inr rfl|assumption):e_ X (.For (.Name x fu) iter body [] pos) (ky i it b):=⟨gL (PK a e hi.un (uk hN d hl f) c.un hs) VD⟩
end
section
variable[aA.a4]
variable{X:aT}{a b:Expr}{cM cT:bt}{pos:Pos}
variable{rest:List Expr}
def ahp(p:bb X a cM)(k:bb X (.BoolOp .And (b::rest) pos) cT):bb X (.BoolOp .And (a::b::rest) pos) (j4 cM cT):=⟨eb (ad2 p.un k.un) λz H Q j=>by
 obtain⟨O,U,S,r,s,st,h,q⟩:=j;obtain⟨x,S1,l,h⟩:=M.inv h;obtain⟨t,y,m,h⟩:=M.inv h;obtain⟨rfl,rfl⟩:=A4 m;refine⟨O,U,S,_,_,st,l,λd A f c e i bu=>⟨t,i,?_⟩⟩
 cases t with
 |false=>
  rw[if_neg alR]at h;cases h;exact oP (q d _ f c e rfl trivial)
 |true=>
  rw[if_pos rfl]at h;exact oQ ⟨d,U,_,r,s,e,h,λn v H' g w u nn=>q n v H' (c.trans g) w u (nn.back c.same)⟩⟩
end
section
variable[aA.a4]
variable{X:aT}{a:Expr}{bV:aK->M Bool}{pos:Pos}
def aib(b:fi X a bV):lu X (.BoolOp .Or [a] pos) bV:=⟨ae4 b.un⟩
end
section
variable[aA.a4]
variable{X:aT}{a b:Expr}{bV cJ:aK->M Bool}{pos:Pos}
variable{rest:List Expr}
def ah8(m:fi X a bV)(j:lu X (.BoolOp .And (b::rest) pos) cJ):lu X (.BoolOp .And (a::b::rest) pos) (g6 bV cJ):=⟨PV (ae1 m.un j.un) λs H Q i=>by
 obtain⟨O,U,S,r,n,st,h,q⟩:=i;obtain⟨t,S1,k,h⟩:=M.inv h;refine⟨O,U,S,t,S1,st,k,λc f e d=>?_⟩
 cases t with
 |false=>
  rw[if_neg alR]at h;cases h;exact oP (q c f e d)
 |true=>
  rw[if_pos rfl]at h;exact oQ ⟨c,U,S1,r,n,d,h,λl H' g p=>q l H' (e.trans g) p⟩⟩
end
section
variable[aA.a4]
variable{X:aT}{e:Expr}{m:bt}
def ahX(he:bb X e m):pZ X (some e) (j5 m):=⟨λzn s g H Q J d=>by
 obtain⟨O,U,S,r,l,st,h,q⟩:=d;obtain⟨x,S1,f,h⟩:=M.inv h;split at h
 .rename_i i
  cases h;exact aeH he.un zn s g H Q J ⟨O,U,S,_,_,st,f,λb v a k c j _=>⟨i,j,q b a k c⟩⟩
 .cases h⟩
end
section
variable[aA.a4]
variable{X:aT}
def ahW :pZ X none jC:=⟨λzn s b H Q J a=>by
 obtain⟨O,U,S,r,c,st,h,q⟩:=a;cases h;exact aeG zn s b H Q J (q O H (Go.refl _ _) st)⟩
end
section
variable[aA.a4]
variable{X:aT}{e:Expr}{m:bt}{lo hi:Option Expr}{lL qt:lp}{pos cj:Pos}
def ahI(he:bb X e m)(hl:pZ X lo lL)(N:pZ X hi qt):bb X (.Subscript e (.Slice lo hi none cj) pos) (oi m lL qt):=⟨eb (FU (afN.or Qt) he.un hl.un N.un) λZ H Q E=>by
 obtain⟨O,U,S,r,Y,st,h,q⟩:=E;obtain⟨x,S1,F,s⟩:=M.inv h;clear h;obtain⟨l,k,G,n⟩:=M.inv s;clear s;obtain⟨u,T,I,h⟩:=M.inv n;clear n;refine⟨O,U,S,x,S1,st,F,λB C V P D A bu=>?_⟩;refine⟨B,U,S1,l,k,D,G,λK W w bF=>?_⟩;refine⟨K,U,k,u,T,bF,I,λt o y z=>?_⟩;have g:=(P.trans w).trans y;have j:=A.go (w.trans y);unfold pd at h;split at h
 .rename_i xs
  by_cases c:c4.cu xs.length 0 l=0/\c4.cu xs.length xs.length u=xs.length
  .rw[if_pos c]at h;cases h
  .rw[if_neg c]at h
   cases h;obtain⟨a,ys,rfl,i,f⟩:=j;exact .inr ⟨a,ys,rfl,i,by rw[f.len];exact c,λp d=>q t _ _ (g.trans (Go.ho d)) (z.ho d) ⟨p,_,rfl,dx.of dZ,(f.cut l u).go (Go.ho d)⟩ trivial⟩
 .split at h
  .rename_i xs av
   cases h;obtain⟨a,ys,rfl,i,f⟩:=R.oW j av;refine .inl ⟨a,ys,rfl,i,λp d=>q (fV t p .dn) _ _ (g.trans (Go.new d)) (z.new d) ⟨p,_,rfl,dZ,lU,(f.cut l u).go (Go.new d)⟩ λb L=>?_⟩;cases L;exact g.same.free d
  .cases h⟩
end
section
variable[aA.a4]
variable{X:aT}{a:Expr}{cM:bt}{pos:Pos}
def ahH{op}(h:bb X a cM):bb X (.BoolOp op [a] pos) cM:=⟨ael h.un⟩
end
section
variable[aA.a4]
variable{X:aT}{scope esc:Scope}{EN N:List Str}{n:Nat}{cap:List Nat}{elt iter:Expr}{ifs:List Expr}{pos fu:Pos}{x:Str}{it:fH}{t:aK->M Bool}{el:bt}
def ahw(S:la esc scope EN N n cap)(d:0<n)(hi:q8 X (.Name x fu) iter it)(c:N[0]? = some x)(b:∀C a s H,Loc (cO X scope N C a s H).env.scope x/\(cO X scope N C a s H).env.scope.names.lookup x=some .local)(e:∀C a s H,q7 (cO X scope N C a s H) ifs t)(h:∀C a s H,bb (cO X scope N C a s H) elt el)(he:X.env.scope=esc:=by rfl)(hN:X.N=EN:=by rfl)(f:X.calm=true:=by rfl)(hs:∀x,amM iter X.env x=pure x:=by intro _;rfl):bb X (.ListComp elt [⟨.Name x fu,iter,ifs,0⟩] scope pos) (eA n cap it t el):=⟨eb (FT (wi:=uI X.K X.mg it) (g:=kF 0) (tt:=lT X.K X.mg t) (te:=fL X.K X.mg el) S hi.un (λC a s H=>uk S.fC c (b C a s H).1 (.inr (b C a s H).2)) (λC a s H=>(e C a s H).un) (λC a s H=>(h C a s H).un) he hN f hs) (CT d)⟩
end
section
variable[aA.a4]
variable{X:aT}{x:Str}{i:Nat}{p apos dw pos:Pos}{e:Expr}{ay:List Expr}{ms:c0}{name:Str}{id:String}{f:List D->List R->M (R×List D)}{r:V->List V->aw->cE->Prop}
def xJ(slot:PySem.Slot "list" name id)(A:typeOf (.builtin id)=pure (.type "method_descriptor"))(t:qX X id r)(s:sz X.K X.mg r f)(d:gv X (e::ay) ms)(hN:X.N[i]? = some x)(l:q6 X.env.scope x)(hd:(x==("__debug__":Str))=false:=by decide)(n:(x==("__classdict__":Str))=false:=by decide)(w:ani (.Name x p) name X.env (eval (.Name x p) X.env)=eval (.Name x p) X.env:=by rfl) (B:((amg dw (alJ (e::ay) X.env)).all (λx=>!x.1)&&(ant dw (amU [] X.env)).all (λx=>x.1.isSome)
&&decide ((e::ay).length+([]:List aoK).length+(if([]:List aoK).isEmpty then 0 else 1)<30))=true:=by rfl) (y:(apos.endLine==dw.line)=true:=by rfl) (hs:alJ (e::ay) X.env=(false,eval e X.env)::alJ ay X.env:=by rfl) (u:(amg dw (alJ ay X.env)).any (·.1)=false:=by rfl) (z:anm (.Call (.Attribute (.Name x p) name apos) (e::ay) [] dw) none pos.line X.env=pure false:=by rfl):e_ X (.Expr (.Call (.Attribute (.Name x p) name apos) (e::ay) [] dw) pos) (rb i f ms):=⟨gL (Ay (FR aoL slot A t (Ax hN l hd n) d.un w B y hs u) z) λD j H a=>by
  obtain⟨O,U,S,E,F,st,h,q⟩:=a;obtain⟨⟨I,G⟩,S1,b,h⟩:=M.inv h;cases h;exact abm s st b λc v H' g m k _=>q c j H' g m k⟩
end
section
variable[aA.a4]
variable{X:aT}{a:Expr}{bV:aK->M Bool}{pos:Pos}
def ah9(b:fi X a bV):lu X (.BoolOp .And [a] pos) bV:=⟨ae2 b.un⟩
end
section
variable[aA.a4]
variable{X:aT}{cf l:Expr}{m:bt}{a:Expr}
theorem ahN(hl:bb X l m):yh X cf l (vY m):=⟨pf (PH hl.un) λn H R i=>by
 obtain⟨O,U,S,xs,k,st,h,q⟩:=i;obtain⟨r,S1,j,h⟩:=M.inv h;refine⟨O,U,S,r,S1,st,j,λd v c g e f nn=>?_⟩;split at h
 .cases h
  obtain⟨a,ys,rfl,ls,b⟩:=f;exact⟨a,rfl,⟨ys,ls.cR⟩,q d c (pR X.K a) ys g e (Ex (.inl ⟨.inl ls.1,.inl ls.2⟩)) b⟩
 .cases h
  obtain⟨a,ys,rfl,ls,t,b⟩:=f;exact⟨a,rfl,⟨ys,dq.of ls⟩,q (cF H d) c (pR X.K a) ys g.cF (e.cF H) (Ex (.inl ⟨.inl ls,.inl (Dw (nn a rfl) t)⟩)) (b.c8 (i' _ _))⟩
 .cases h
  obtain⟨a,ys,rfl,ls,b⟩:=f;exact⟨a,rfl,⟨ys,ls.cR⟩,q d c (pR X.K a) ys g e (Ex ls) b⟩
 .cases h⟩
end
section
variable[aA.a4]
def ahE(j:bb X a o):bb X (.UnaryOp .USub a pos) (bf qz o):=⟨eb (aeq ahb j.un) λm H Q f=>by
 obtain⟨O,U,S,r,l,st,h,q⟩:=f;obtain⟨x,S1,g,h⟩:=M.inv h;unfold qz at h;split at h
 .rename_i i
  cases h;exact⟨O,U,S,_,_,st,g,λd n b k e c bu=>⟨i,c,q d _ b k e rfl trivial⟩⟩
 .cases h⟩
end
section
variable[aA.a4]
variable{X:aT}{pos:Pos}{e:Expr}{m:bt}
variable{i:Nat}{x:Str}{pos':Pos}
def ah2(hN:X.N.Nodup)(hi:X.N[i]? = some x)(a:Loc X.env.scope x)(he:bb X e m)(hs:anm e (some (.Name x pos')) pos.line X.env=pure false:=by rfl)(b:X.fn x=true\/X.env.scope.names.lookup x=some .local:=by first|exact .inl rfl|exact .inr rfl|assumption):e_ X (.Assign [.Name x pos'] e pos) (nq i m):=⟨gL (FY hN hi a he.un hs b) (Pr λ_ _ _ h=>h)⟩
end
section
variable[aA.a4]
def ahQ:q7 X [] eM:=⟨λzn s U H Q J a=>by
 obtain⟨O,U',S,b,c,st,h,q⟩:=a;cases h;exact PF zn s U H Q J (q O H (Go.refl _ _) st)⟩
end
section
variable[aA.a4]
variable{X:aT}{a:Expr}{cM:bt}{pos:Pos}
def ahG(j:bb X a cM):bb X (.UnaryOp .Not a pos) (vl cM):=⟨eb (aek j.un) λn H Q f=>by
 obtain⟨O,U,S,r,m,st,h,q⟩:=f;obtain⟨x,S1,g,h⟩:=M.inv h;obtain⟨t,l,i,h⟩:=M.inv h;obtain⟨rfl,rfl⟩:=A4 i;cases h;exact⟨O,U,S,_,_,st,g,λd p b k e c bu=>⟨t,c,q d _ b k e rfl trivial⟩⟩⟩
end
section
variable[aA.a4]
variable{X:aT}{e:Expr}{ay:List Expr}{ms:c0}{pos p:Pos}{x:Str}{T:String}{r:List V->aw->cE->Prop}{f:List R->M R}
def xI(i:jY X (.type T) r)(j:k9 X.K X.mg r f)(a:d_ X x)(k:X.mg x=none)(d:amB x=some (.type T))(b:gv X (e::ay) ms)(c:x≠"__name__":=by decide)(g:(x==("__debug__":Str))=false:=by decide)(he:alJ (e::ay) X.env=(false,eval e X.env)::alJ ay X.env:=by rfl)(h:(amg pos (alJ ay X.env)).any (·.1)=false:=by rfl):bb X (.Call (.Name x p) (e::ay) [] pos) (cA f ms):=⟨eb (ad7 i a k d b.un c g he h) (JE j)⟩
end
section
variable[aA.a4]
def Bc(h:fi X c t):q7 X [c] t:=⟨aes h.un⟩
end
section
variable[aA.a4]
variable{X:aT}{cf:Expr}{a:Expr}{ms:c0}{pos p:Pos}
def ahO(b:d_ X "range")(d:X.mg "range"=none)(c:gv X [a] ms)(hs:alJ [a] X.env=[(false,eval a X.env)]:=by rfl):yh X cf (.Call (.Name "range" p) [a] [] pos) (gY ms):=⟨pf (FW b d c.un hs) Qj.1⟩
end
section
variable[aA.a4]
variable{X:aT}{a b c:Expr}{cM cT fT:bt}{pos:Pos}
def Q_{op d:CmpOp}{r i:fx}(k:d0 X (amx op) r)(q:eg X.K X.mg r f)(n:d0 X (amx d) i)(j:eg X.K X.mg i g)(m:bb X a cM)(l:bb X b cT)(p:bb X c fT)(s:lastMarks [op,d] [b,c]=false:=by with_unfolding_all rfl):fi X (.Compare a [op,d] [b,c] pos) (aU (fA f g cM cT fT)):=⟨xc (aeQ k n m.un l.un p.un s) λe H Q h=>QJ (JD q j) e H Q (GG e H Q h)⟩
end
section
variable[aA.a4]
variable{X:aT}{cf l:Expr}{m:bt}{a:Expr}
theorem Bb(hl:bb X l m):q8 X cf l (lI m):=⟨pf (PI hl.un) λn H R e=>by
 obtain⟨O,U,S,xs,k,st,h,q⟩:=e;obtain⟨r,S1,f,h⟩:=M.inv h;split at h
 .rename_i p
  cases h;refine⟨O,U,S,_,_,st,f,λc v b j d g nn=>?_⟩;obtain⟨a,ys,rfl,ls,i⟩:=g;exact⟨a,rfl,⟨ys,ls⟩,q c b (sD X.K a) ys j d (NN ls) i⟩
 .cases h⟩
end
section
variable[aA.a4]
variable{X:aT}{cf l:Expr}{m:bt}{e a:Expr}
theorem ahk(hl:bb X l m):q8 X cf l (nF m):=⟨pf (PH hl.un) λp H s f=>by
 obtain⟨O,U,S,xs,n,st,h,q⟩:=f;obtain⟨r,S1,g,h⟩:=M.inv h
 cases e:r.ft with
 |none=>rw[e]at h;cases h
 |some t=>
  rw[e]at h;cases h;refine⟨O,U,S,r,_,st,g,λc v b k d i nn=>?_⟩;obtain⟨a,ys,rfl,ls,j⟩:=R.oW i e;exact⟨a,rfl,⟨ys,ls⟩,q c b (pR X.K a) ys k d (NL ls) j⟩⟩
end
section
variable[aA.a4]
variable{X:aT}{b:aL}{body:List Stmt}{pos:Pos}{c:Expr}{t:aK->M Bool}
def ah5(a:apy (model X.prog X.w) X.A X.env X.dH)(e:fi X c t)(d:hF X body b):e_ X (.While c body [] pos) (vm t b):=⟨gL (PM a e.un d.un) ahS⟩
end
section
variable[aA.a4]
variable{X:aT}{cf l:Expr}{m:bt}{a:Expr}
theorem ahP(hl:bb X l m):yh X cf l (lI m):=⟨pf (PI hl.un) λn H R e=>by
 obtain⟨O,U,S,xs,k,st,h,q⟩:=e;obtain⟨r,S1,f,h⟩:=M.inv h;split at h
 .rename_i p
  cases h;refine⟨O,U,S,_,_,st,f,λc v b j d g nn=>?_⟩;obtain⟨a,ys,rfl,ls,i⟩:=g;exact⟨a,rfl,⟨ys,ls⟩,q c b (sD X.K a) ys j d (ZH ls) i⟩
 .cases h⟩
end
section
variable[aA.a4]
variable{X:aT}{cf:Expr}{a:Expr}{ms:c0}{pos p:Pos}
def ahl(b:d_ X "range")(d:X.mg "range"=none)(c:gv X [a] ms)(hs:alJ [a] X.env=[(false,eval a X.env)]:=by rfl):q8 X cf (.Call (.Name "range" p) [a] [] pos) (gY ms):=⟨pf (FW b d c.un hs) Qj.2⟩
end
section
variable[aA.a4]
variable{X:aT}{st:Stmt}{pos:Pos}{a:aL}{e:Expr}
theorem ah4(i:Nat)(hN:X.N[i]? = some x:=by rfl)(f:q6 X.env.scope x:=by first|exact anG rfl|exact amN (.inl rfl)|exact amN (amN rfl))(hd:(x==("__debug__":Str))=false:=by decide)(g:(x==("__classdict__":Str))=false:=by decide):e_ X (.Return (some (.Name x p)) pos) (yD i):=⟨gL (FX (Ax hN f hd g)) λD c H b=>by
 obtain⟨O,U,S,j,k,st,h,q⟩:=b;unfold yD at h
 cases e:U[i]? with
 |none=>rw[e]at h;cases h
 |some s=>
  rw[e]at h;have l:=st.loc i s e
  cases s with
  |en p xs=>
   obtain⟨a,ys,av,aE,cX,eZ⟩:=l
   cases p with
   |true=>cases h
   |false=>
   cases h;refine⟨.ref a,?_,q O _ H (d5.refl _ _) st.ck st.f9 ⟨a,ys,rfl,cX,.inr ⟨i,aE⟩,eZ⟩⟩
   cases w:c[i]? with
   |none=>rw[w]at av;cases av
   |some y=>rw[w]at av;exact congrArg some av
  |v d=>cases h
  |b4 d=>cases h
  |e=>cases h⟩
end
section
variable[aA.a4]
variable{X:aT}{st:Stmt}{pos:Pos}
theorem ah3 :e_ X (.Return none pos) yC:=⟨gL aeO λD d H a=>by obtain⟨O,U,S,b,c,st,h,q⟩:=a;cases h;exact q O _ H (d5.refl _ _) st.ck st.f9 rfl⟩
end
section
variable[aA.a4]
variable{X:aT}{a b c:Expr}{cM cT fT:bt}{pos:Pos}
def ahv{op d:CmpOp}{r e:fx}(i:d0 X (amx op) r)(n:eg X.K X.mg r f)(l:d0 X (amx d) e)(h:eg X.K X.mg e g)(k:bb X a cM)(j:bb X b cT)(m:bb X c fT)(p:lastMarks [op,d] [b,c]=false:=by with_unfolding_all rfl):bb X (.Compare a [op,d] [b,c] pos) (fA f g cM cT fT):=⟨eb (ad9 i l k.un j.un m.un p) (JD n h)⟩
end
section
variable[aA.a4]
variable{X:aT}{a:Expr}{cM:bt}{apos dw:Pos}
def ahq(j:bb X a cM)(m:ani a "bit_length" X.env (eval a X.env)=eval a X.env:=by rfl)(n:(apos.endLine==dw.line)=true:=by rfl):bb X (.Call (.Attribute a "bit_length" apos) [] [] dw) (bf oBits cM):=⟨eb (Py PySem.F.plainAttrs_int PySem.F.slot_int_bit_length PySem.F.type_int_bit_length abg j.un m n) λs H Q f=>by
  obtain⟨O,U,S,r,p,st,h,q⟩:=f;obtain⟨x,S1,g,h⟩:=M.inv h;unfold oBits at h;split at h
  .rename_i i
   cases h;refine⟨O,U,S,_,_,st,g,λd k b l e c bu=>?_⟩;cases(show k=.int i from c);exact⟨rfl,i,rfl,rfl,q d _ b l e rfl trivial⟩
  .cases h⟩
end
section
variable[aA.a4]
variable{X:aT}{st:Stmt}
def ah1 :e_ X st oh:=⟨gL aeN λD d H a=>by obtain⟨O,U,S,b,c,st,h,q⟩:=a;cases h⟩
end
section
variable[aA.a4]
variable{X:aT}{a:Expr}{bV:aK->M Bool}
def lu.cx(h:lu X a bV):fi X a bV:=⟨xZ.cx h.un⟩
end
section
variable[aA.a4]
variable{X:aT}{scope esc:Scope}{EN N:List Str}{n:Nat}{cap:List Nat}{elt iter:Expr}{ifs:List Expr}{pos fu:Pos}{x:Str}{it:fH}{t:aK->M Bool}{el:bt}
def Bg{py c:Pos}(S:la esc scope EN N n cap)(m:X.N.Nodup)(k:X.N[i]? = some y)(d:X.env.scope.names.lookup y=some .local)(b:0<n)(hi:q8 X (.Name x fu) iter it)(e:N[0]? = some x)(h:∀C a s H,Loc (cO X scope N C a s H).env.scope x/\(cO X scope N C a s H).env.scope.names.lookup x=some .local)(f:∀C a s H,q7 (cO X scope N C a s H) ifs t)(j:∀C a s H,bb (cO X scope N C a s H) elt el)(he:X.env.scope=esc:=by rfl)(hN:X.N=EN:=by rfl)(g:X.calm=true:=by rfl)(hs:∀x,amM iter X.env x=pure x:=by intro _;rfl)(l:anm (.ListComp elt [⟨.Name x fu,iter,ifs,0⟩] scope pos) (some (.Name y py)) c.line X.env=pure true:=by rfl):e_ X (.Assign [.Name y py] (.ListComp elt [⟨.Name x fu,iter,ifs,0⟩] scope pos) c) (nq i (eA n cap it t el)):=⟨gL (HC S m k d b hi.un e h (λC a s H=>(f C a s H).un) (λC a s H=>(j C a s H).un) he hN g hs l) (Pr (CT b))⟩
end
section
variable[aA.a4]
variable{X:aT}{scope esc:Scope}{EN N:List Str}{n:Nat}{cap:List Nat}{elt iter:Expr}{ifs:List Expr}{pos fu:Pos}{x:Str}{it:fH}{t:aK->M Bool}{el:bt}
def ahY{py c:Pos}(S:la esc scope EN N n cap)(m:X.N.Nodup)(k:X.N[i]? = some y)(d:X.env.scope.names.lookup y=some .local)(b:0<n)(hi:q8 X (.Name x fu) iter it)(e:N[0]? = some x)(h:∀C a s H,Loc (cO X scope N C a s H).env.scope x/\(cO X scope N C a s H).env.scope.names.lookup x=some .local)(f:∀C a s H,q7 (cO X scope N C a s H) ifs t)(j:∀C a s H,bb (cO X scope N C a s H) elt el)(he:X.env.scope=esc:=by rfl)(hN:X.N=EN:=by rfl)(g:X.calm=true:=by rfl)(hs:∀x,amM iter X.env x=pure x:=by intro _;rfl)(l:anm (.ListComp elt [⟨.Name x fu,iter,ifs,0⟩] scope pos) (some (.Name y py)) c.line X.env=pure true:=by rfl):e_ X (.Assign [.Name y py] (.ListComp elt [⟨.Name x fu,iter,ifs,0⟩] scope pos) c) (b8 i (eA n cap it t el)):=⟨gL (HC S m k d b hi.un e h (λC a s H=>(f C a s H).un) (λC a s H=>(j C a s H).un) he hN g hs l) (Qq (CT b))⟩
end
def MC:M bI:=⟨λS=>.ok S S,λ_ _ _ h=>by cases h;rfl⟩
def hU:R->M gc
 |.v (.ref n)=>do
  let S <-MC
  match S[n]? with
  |some o=>pure o|none=>bad
 |_=>bad
def O_{r:R}{S a:bI}(h:(hU r).run S=.ok o a):∃n,r=.v (.ref n)/\S[n]? = some o/\S=a:=by
 unfold hU at h;split at h
 .rename_i n
  obtain⟨T,S1,b,h⟩:=M.inv h;cases b
  cases e:S[n]? with
  |none=>rw[e]at h;cases h
  |some c=>rw[e]at h;cases h;exact⟨n,rfl,e,rfl⟩
 .cases h
def ij{κ α:Type}[DecidableEq κ](k:κ)(a:α):List (κ×α)->List (κ×α)
 |[]=>[(k,a)]
 |(g,x)::r=>if g=k then(g,a)::r else(g,x)::ij k a r
theorem PQ{v:V}:∀aS:List (Str×V),ik f v aS=ij f v aS
 |[]=>rfl| (g,x)::r=>by unfold ik ij;rw[PQ r]
section
variable{κ:Type}[DecidableEq κ]
def LW(a:List (κ×D))(k:κ):Option D:=(a.find? λkv=>decide (kv.1=k)).map (·.2)
variable[aA.a4]{K:aN}{mg:bo}{O:a_}{H:aw}
def fy.cons{p:κ×D}{g:List (κ×D)}{d:List (κ×V)}(h:fy K mg O H (p::g) d):∃q r,d=q::r/\p.1=q.1/\Rep K mg O H p.2 q.2/\fy K mg O H g r:=by
 obtain⟨c,f⟩:=h
 cases d with
 |nil=>cases c
 |cons q r=>
  rw[alZ,alZ]at c f;injection c with c o
  obtain⟨y,t,e,a,b⟩:=f;injection e with av aE
  subst av aE;exact⟨q,r,rfl,c,a,o,b⟩
def fy.mk'{r:List (κ×V)}(a:p.1=q.1)(b:Rep K mg O H p.2 q.2)(h:fy K mg O H o r):fy K mg O H (p::o) (q::r):=
 ⟨by rw[alZ,alZ,a,h.1],q.2,_,rfl,b,h.2⟩
def fy.Fu(h:fy K mg O H [] o):o=[]:=List.map_eq_nil_iff.mp h.1.symm
def fy.len{a:List (κ×D)}{b:List (κ×V)}(h:fy K mg O H a b):b.length=a.length:=by
 have:=congrArg anz h.1;rw[alM,alM]at this;exact this.symm
theorem fy.val(k:κ):∀{C:List (κ×D)}{o:List (κ×V)},fy K mg O H C o->match LW C k with
  |some d=>∃v,GP o k=some v/\Rep K mg O H d v|none=>GP o k=none
 |[],o,h=>by obtain rfl:=h.Fu;exact rfl
 |p::C,o,h=>by
  obtain⟨q,r,rfl,av,aE,h'⟩:=h.cons;unfold LW GP
  by_cases a:p.1=k
  .rw[aoi (by simpa using a),aoi (by rw[<-av];simpa using a)]
   exact⟨q.2,rfl,aE⟩
  .rw[aoj (by simpa using a),aoj (by rw[<-av];simpa using a)]
   exact fy.val k h'
theorem fy.ij(k:κ){v:V}(hd:Rep K mg O H d v):∀{C:List (κ×D)}{o:List (κ×V)},fy K mg O H C o->fy K mg O H (aC.ij k d C) (aC.ij k v o)
 |[],o,h=>by obtain rfl:=h.Fu;exact⟨rfl,_,_,rfl,hd,rfl⟩
 |p::C,o,h=>by
  obtain⟨q,r,rfl,av,aE,h'⟩:=h.cons;obtain⟨p1,cj⟩:=p;obtain⟨bq,bO⟩:=q;cases(show p1=bq from av);unfold aC.ij;split
  .exact fy.mk' rfl hd h'
  .exact fy.mk' rfl aE (fy.ij k hd h')
theorem fy.lookup:∀{C:List (Str×D)}{o:List (Str×V)},fy K mg O H C o->C.lookup f=some d->∃v,o.lookup f=some v/\Rep K mg O H d v
 |[],o,h,e=>by cases e
 |p::C,o,h,e=>by
  obtain⟨q,r,rfl,av,aE,h'⟩:=h.cons;obtain⟨p1,cj⟩:=p;obtain⟨bq,bO⟩:=q;cases(show p1=bq from av);rw[al0]at e ⊢
  cases J:f==p1 with
  |true=>rw[J]at e;cases e;exact⟨bO,rfl,aE⟩
  |false=>rw[J]at e;exact fy.lookup h' e
end
variable[aA.a4]
section
variable{K:aN}{mg:bo}{O:a_}{U:aK}{S aq:bI}{ar:St}{H:aw}{r:R}{v:V}{o:gc}
def O'(st:cN K mg O U S ar H)(f:eu K mg O H r v)(h:(hU r).run S=.ok o aq):∃a,v=.ref a/\a∈O.bD/\oa K mg O H a o:=by
 obtain⟨n,rfl,e,rfl⟩:=O_ h;obtain⟨a,c,i⟩:=st.f9 n o e;obtain⟨b,g,d⟩:=f;rw[c]at d;cases d;exact⟨a,g,amh c,i⟩
end
structure m3(K:aN)(mg:bo)(c:Str)(aS:List Str):Prop where
 ex:∃C,mg c=some (.ref C)/\i4 K C/\(W.makesIn K C=true/\anJ K (.ref C)=true)/\∀f∈aS,qY K C f
def bU(c f:Str)(r:R):M R:=do
 let o <-hU r
 match o with
 |.a8 c' aS=>if c'=c then(match aS.lookup f with
  |some d=>pure (.v d)| none=>bad)else bad
 |_=>bad
def gS(m:bt):bt:=λU=>do
 let x <-m U
 let o <-hU x
 match o with
 |.l xs=>pure (.mv xs)|_=>bad
section
variable{X:aT}{e o:Expr}{m:bt}{pos:Pos}{c a:Str}{ns:List Str}
theorem Q2(T:m3 X.K X.mg c ns)(D:a∈ns)(he:bb X e m)(p:ani e a X.env (eval e X.env)=eval e X.env:=by rfl):bb X (.Attribute e a pos) (bf (bU c a) m):=⟨eb (aeb he.un p) λN H Q n=>by
 obtain⟨O,U,S,r,L,st,h,q⟩:=n;obtain⟨x,S1,s,i⟩:=M.inv h;clear h;refine⟨O,U,S,x,S1,st,s,λl P j A f k bu=>?_⟩;obtain⟨o,I,g,h'⟩:=M.inv i;clear i;have h:=h';clear h';obtain⟨b,rfl,_,E⟩:=O' f k g;obtain rfl:=(hU x).fc _ _ _ g;split at h
 .rename_i c' aS
  split at h
  .rename_i B
   subst B
   cases el:aS.lookup a with
   |none=>rw[el]at h;cases h
   |some d=>
    rw[el]at h;cases h;obtain⟨C,t,F,y,w,G⟩:=E;obtain⟨R,av,aE,_,eZ⟩:=T.ex;cases av.symm.trans w.1;obtain⟨v,z,u⟩:=G.lookup el;exact⟨b,C,t,F,v,rfl,y,aE,eZ a D,z,q l v j A f u trivial⟩
  .cases h
 .cases h⟩
def aaF{f:St}{H:aw}{Q:cE}{O:a_}{U:aK}{S S1 n:bI}{x r:R}{g:List D->R}(st:cN X.K X.mg O U S f H)(t:(m U).run S=.ok x S1)
  (h:(do let o <-hU x;match o with|.l xs=>pure (g xs)|_=>bad:M R).run S1=.ok r n) (q:u7 X.K X.mg O U n f H r Q)
  (s:∀d H' xs a ys,d a=.out->H' a=some (.l ys)->bl X.K X.mg d H' xs ys->eu X.K X.mg d H' (g xs) (.ref a)/\jv H (g xs) (.ref a)):fL X.K X.mg m f H Q:=by
 obtain⟨o,E,k,h'⟩:=M.inv h;clear h;have h:=h';clear h';refine⟨O,U,S,x,S1,st,t,λj F i z b p bu=>?_⟩;obtain⟨a,rfl,w,B⟩:=O' b p k;obtain rfl:=(hU x).fc _ _ _ k;split at h
 .cases h
  obtain⟨ys,l,u⟩:=B;obtain⟨A,y⟩:=s j i _ a ys (b.ck.b9.2 a w) l u;exact q j _ i z b A y
 .cases h
theorem ahz(he:bb X e m):bb X e (gS m):=⟨eb he.un λj H Q b=>by
 obtain⟨O,U,S,r,i,st,h,q⟩:=b;obtain⟨x,S1,d,h⟩:=M.inv h;exact aaF st d h q λg H' xs a ys _ l f=>⟨⟨a,ys,rfl,l,f⟩,trivial⟩⟩
end
end aC
namespace aC
open PySem PySem.Spec aA
structure N(α:Type):Type where
 run:bI->Out α
def N.hJ{α d:Type}(m:N α)(f:α->N d):N d:=⟨λS=>match m.run S with
 |.ok a b=>(f a).run b|.exc c b=>.exc c b| .bad=>.bad⟩
instance:Monad N where
 pure a:=⟨λS=>.ok a S⟩
 bind:=N.hJ
def N.inv{α g:Type}{m:N α}{f:α->N g}{S d:bI}{b:g}(h:(m >>= f).run S=.ok b d):∃a S1,m.run S=.ok a S1/\(f a).run S1=.ok b d:=by
 have h:(N.hJ m f).run S=.ok b d:=h;unfold N.hJ at h;dsimp only at h
 cases e:m.run S with
 |ok a S1=>rw[e]at h;exact⟨a,S1,rfl,h⟩|exc c S1=>rw[e]at h;cases h
 |bad=>rw[e]at h;cases h
def hn{α:Type}:N α:=⟨λ_=>.bad⟩
def M.up{α:Type}(m:M α):N α:=⟨m.run⟩
def y5:N bI:=⟨λS=>.ok S S⟩
def putN(S:bI):N Unit:=⟨λ_=>.ok () S⟩
abbrev eD:=aK->N R
abbrev hG:=aK->N (List R)
abbrev bX:=aK->N fG
abbrev dV:=List D->N R
variable[aA.a4]
structure et(O ak:a_)(H H':aw):Prop where
 cells:∀b o,H b=some o->(b∉O.bD\/Fix o)->(h:o8 o:=by exact trivial)->H' b=some o
 own:∀b,H b≠none->ak b=O b
 has:∀b,H b≠none->H' b≠none
 cJ:∀b ps,H b=some (.f' ps)->∃lN,H' b=some (.f' lN)
 bY:TabsOk H->TabsOk H'
 bD:O.bD <+: ak.bD
 new:∀b∈ak.bD,b∈O.bD\/H b=none
structure gr(O ak:a_)(H H':aw):Prop where
 cells:∀b o,H b=some o->(((O b=.free\/O b=.out)/\b∉O.bD)\/Fix o)->(h:o8 o:=by exact trivial)->H' b=some o
 own:∀b,H b≠none->(O b=.free\/O b=.out)->ak b=O b
 has:∀b,H b≠none->H' b≠none
 cJ:∀b ps,H b=some (.f' ps)->∃lN,H' b=some (.f' lN)
 bY:TabsOk H->TabsOk H'
 bD:O.bD <+: ak.bD
 new:∀b∈ak.bD,b∈O.bD\/H b=none
structure fe(O ak:a_)(H H':aw):Prop where
 cells:∀b o,H b=some o->((O b=.free/\b∉O.bD/\∃ys,o=.l ys)\/Fix o)->(h:o8 o:=by exact trivial)->H' b=some o
 own:∀b ys,H b=some (.l ys)->O b=.free->ak b=.free
 bD:O.bD <+: ak.bD
section
variable{K:aN}{mg:bo}{O aD bp ak:a_}{H H1 aI H':aw}{S aq:bI}{U U':aK}{ar dc:St}
omit [aA.a4]in
theorem hX(e:H b=some o):H b≠none:=λz=>by rw[e]at z;cases z
def Go.dA(g:Go O ak H H'):et O ak H H':=⟨λb o e _ n=>g.same.at' b o e n,g.own,λ_ h=>g.same.some h,g.same.cJ,g.same.bY,by rw[g.bD];exact aoZ _,λb h=>.inl (by rw[<-g.bD];exact h)⟩
def d5.ea(g:d5 O ak H H'):gr O ak H H':=⟨λb o e h n=>g.cells b o e (h.elim (λz=>z.1.elim .inl λz=>.inr (.inl z)) λz=>.inr (.inr z)) n,g.own,g.has,g.cJ,g.bY,by rw[g.bD];exact aoZ _,λb h=>.inl (by rw[<-g.bD];exact h)⟩
def et.ea(g:et O ak H H'):gr O ak H H':=⟨λb o e h n=>g.cells b o e (h.imp (·.2) id) n,λb h _=>g.own b h,g.has,g.cJ,g.bY,g.bD,g.new⟩
def et.trans(a:et O aD H H1)(b:et aD bp H1 aI):et O bp H aI:=
  ⟨λc o e h n=>b.cells c o (a.cells c o e h n) (h.imp (λz m=>(a.new c m).elim z (hX e)) id) n,λc h=>(b.own c (a.has c h)).trans (a.own c h),λc h=>b.has c (a.has c h),λc ps h=>let⟨p1,av⟩:=a.cJ c ps h;b.cJ c p1 av,λg=>b.bY (a.bY g),
   a.bD.trans b.bD,λc m=>(b.new c m).elim (a.new c) λz=>.inr (by cases e:H c with|none=>rfl|some o=>exact absurd z (a.has c (hX e)))⟩
def gr.trans(a:gr O aD H H1)(b:gr aD bp H1 aI):gr O bp H aI:=
  ⟨λc o e h n=>b.cells c o (a.cells c o e h n) (h.imp (λz=>⟨by rw[a.own c (hX e) z.1];exact z.1,λm=>(a.new c m).elim z.2 (hX e)⟩) id) n,
   λc h f=>(b.own c (a.has c h) (by rw[a.own c h f];exact f)).trans (a.own c h f),λc h=>b.has c (a.has c h),λc ps h=>let⟨p1,av⟩:=a.cJ c ps h;b.cJ c p1 av,λg=>b.bY (a.bY g),
   a.bD.trans b.bD,λc m=>(b.new c m).elim (a.new c) λz=>.inr (by cases e:H c with|none=>rfl|some o=>exact absurd z (a.has c (hX e)))⟩
def gr.jG(g:gr O ak H H'):fe O ak H H':=⟨λb o e h n=>g.cells b o e (h.imp (λz=>⟨.inl z.1,z.2.1⟩) id) n,λb ys e f=>(g.own b (hX e) (.inl f)).trans f,g.bD⟩
def fe.AP(g:fe O ak H H')(h:dx K H a ys):dx K H' a ys:=by
 rcases h with(h|⟨o,h⟩)|h
 .exact .inl (.inl (g.cells _ _ h (.inr (.inl ⟨_,rfl⟩))))
 .exact .inl (.inr ⟨o,g.cells _ _ h (.inr (.inr ⟨_,_,rfl⟩))⟩)
 .exact .inr h
omit [aA.a4]in
theorem jw.no(r:jw O)(h:O a=w)(hw:w≠.out):a∉O.bD:=λm=>hw (h.symm.trans (r.2 a m))
mutual
theorem Rep.jG(g:fe O ak H H')(b9:jw O):∀{d:D}{v:V},Rep K mg O H d v->Rep K mg ak H' d v
 |.aH,_,h=>h|.ax _,_,h=>h|.int _,_,h=>h|.str _,_,h=>h| .t _,_,h=>by obtain⟨a,ys,q,l,r⟩:=h;exact⟨a,ys,q,g.AP l,bl.jG g b9 r⟩
 |.l _,_,h=>by obtain⟨a,ys,q,l,r⟩:=h;exact⟨a,ys,q,⟨g.cells _ _ l.1 (.inl ⟨l.2,b9.no l.2 (by intro z;cases z),_,rfl⟩),g.own a _ l.1 l.2⟩,bl.jG g b9 r⟩
 |.ref _,_,h=>by
  obtain⟨a,q,l⟩:=h;obtain⟨t,e⟩:=g.bD;exact⟨a,q,by rw[<-e,al8 (alK.mp l).1];exact l⟩
 |.fn _,_,h=>h|.ty _,_,h=>h
theorem bl.jG(g:fe O ak H H')(b9:jw O):∀{ds:List D}{ys:List V},bl K mg O H ds ys->bl K mg ak H' ds ys
 |[],_,h=>h| _::_,_,h=>by obtain⟨x,r,q,a,b⟩:=h;exact⟨x,r,q,Rep.jG g b9 a,bl.jG g b9 b⟩
end
def bl.ea(g:gr O o H H')(b9:jw O)(h:bl K mg O H ds ys):bl K mg o H' ds ys:=h.jG g.jG b9
def Rep.dA(g:et O o H H')(b9:jw O){v:V}(h:Rep K mg O H d v):Rep K mg o H' d v:=h.jG g.ea.jG b9
def bl.dA(g:et O o H H')(b9:jw O)(h:bl K mg O H ds ys):bl K mg o H' ds ys:=h.ea g.ea b9
def R.hu:R->Bool
 |.v _=>true|.fr _=>true|_=>false
def eu.dA(g:et O C H H')(b9:jw O){r:R}{v:V}(hs:r.hu=true)(h:eu K mg O H r v):eu K mg C H' r v:=by
 cases r with
 |v d=>exact Rep.dA g b9 h| fr xs=>obtain⟨a,ys,q,l,o,r⟩:=h;exact⟨a,ys,q,g.cells _ _ l (.inl (b9.no o (by intro z;cases z))),(g.own a (hX l)).trans o,r.dA g b9⟩
 |b4 xs=>cases hs
 |mv xs=>cases hs
def jv.dA(g:et O C H H'):∀{r:R}{v:V},jv H' r v->jv H r v
 |.v _,_,_=>trivial|.b4 _,_,_=>trivial|.mv _,_,_=>trivial|.fr _,_,h=>λa e=>by
  cases av:H a with
  |none=>rfl|some o=>exact absurd (h a e) (g.has a (hX av))
def qW(K:aN)(O:a_)(H:aw)(a:Addr)(ys:List V):Prop:=(hE H a (.l ys)/\(O a=.free\/O a=.out)/\a∉O.bD)\/BJ K a ys
structure dv(K:aN)(mg:bo)(O:a_)(U:aK)(S:bI)(ar:St)(H:aw):Prop where
 s3:cN K mg O U S ar H
 full:O.bD.length=S.length
 qL:∀(i:Nat)(xs:List D),U[i]? = some (.b4 xs)->∃a ys,ar[i]?.join=some (.ref a)/\qW K O H a ys/\bl K mg O H xs ys
def qW.ea(g:gr O C H H')(h:qW K O H a ys):qW K C H' a ys:=by
 rcases h with⟨h,f,m⟩|h
 .have b:H a≠none:=hE.some h
  refine .inl ⟨?_,by rw[g.own a b f];exact f,λz=>(g.new a z).elim m b⟩;rcases h with h|⟨o,h⟩
  .exact .inl (g.cells _ _ h (.inl ⟨f,m⟩))
  .exact .inr ⟨o,g.cells _ _ h (.inl ⟨f,m⟩)⟩
 .exact .inr h
def qW.v(h:qW K O H a ys):h2 K O H a ys:=h.imp (λz=>⟨z.1,z.2.1⟩) id
def dv.go(s:dv K mg O U S C H)(g:Go O o H H')(d:dh o H'):dv K mg o U S C H':=
 ⟨s.s3.go g d,by rw[g.bD];exact s.full,λi xs e=>by obtain⟨a,ys,av,l,r⟩:=s.qL i xs e;exact⟨a,ys,av,l.ea g.bM.ea,r.go g⟩⟩
def dv.bM(s:dv K mg O U S J H)(g:d5 O o H H')(k:fg U U' J C)(t:cN K mg o U' S C H'):dv K mg o U' S C H':=
 ⟨t,by rw[g.bD];exact s.full,λi xs e=>by
  obtain⟨b,c⟩:=k.1 i xs e;obtain⟨a,ys,av,l,r⟩:=s.qL i xs b;exact⟨a,ys,by rw[c];exact av,l.ea g.ea,bl.bM g r⟩⟩
def dv.dA(s:dv K mg O U S ar H)(g:et O C H H')(d:dh C H')(dQ:fY K mg C H' J)(b:C.bD.length=J.length):dv K mg C U J ar H':=by
 have b9:=s.s3.ck.b9;have b4:∀(i:Nat)(xs:List D),U[i]? = some (.b4 xs)->∃a ys,ar[i]?.join=some (.ref a)/\qW K C H' a ys/\bl K mg C H' xs ys:=λi xs e=>by
  obtain⟨a,ys,av,l,r⟩:=s.qL i xs e;exact⟨a,ys,av,l.ea g.ea,r.dA g b9⟩
 refine⟨⟨d,s.s3.len,λi t e=>?_,dQ⟩,b,b4⟩;have l:=s.s3.loc i t e
 cases t with
 |e=>exact trivial|v d=>obtain⟨v,q,r⟩:=l;exact⟨v,q,r.dA g b9⟩
 |en p xs=>obtain⟨a,ys,q,o,l,r⟩:=l;exact⟨a,ys,q,(g.own a (hX l)).trans o,g.cells _ _ l (.inl (b9.no o (by intro z;cases z))),r.dA g b9⟩
 |b4 xs=>obtain⟨a,ys,av,l,r⟩:=b4 i xs e;exact⟨a,ys,av,l.v,r⟩
end
inductive sI{α:Type}(K:aN)(mg:bo)(m:aK->N α)(ar:St)(H:aw)(P:a_->aK->bI->α->Prop):Prop
 |mk (O:a_) (U:aK) (S:bI) (x:α) (aq:bI) (st:dv K mg O U S ar H) (h:(m U).run S=.ok x aq) (q:P O U aq x):sI K mg m ar H P
def xS(K:aN)(mg:bo)(m:eD):TE:=λb H Q=>sI K mg m b H λO U c r=>∀a v H',et O a H H'->dv K mg a U c b H'->eu K mg a H' r v->jv H r v->Q v H'
def Rh(K:aN)(mg:bo)(m:aK->N Bool):TT:=λc H Q=>sI K mg m c H λO U d b=>∀a H',et O a H H'->dv K mg a U d c H'->Q b H'
def G1(K:aN)(mg:bo)(m:hG):fQ:=λb H Q=>sI K mg m b H λO U c rs=>∀a vs H',et O a H H'->dv K mg a U c b H'->i8 K mg a H' rs vs->ks H rs vs->Q vs H'
def u9(K:aN)(mg:bo)(O:a_)(c:bI)(H:aw)(e:fG)(d:Ends):Prop:=match e with
 |.bu U'=>∀a b H',gr O a H H'->dv K mg a U' c b H'->d.bu b H'|.bk U'=>∀a b H',gr O a H H'->dv K mg a U' c b H'->d.bk b H'|.cx U'=>∀a b H',gr O a H H'->dv K mg a U' c b H'->d.cx b H'|.cp r=>∀a v H',gr O a H H'->dh a H'->fY K mg a H' c->a.bD.length=c.length->BP K mg a H' r v->d.cp v H'
def u9.ea{O c:a_}(h:u9 K mg O C H o J)(g:gr O c H H1):u9 K mg c C H1 o J:=by
 cases o with
 |bu U'=>exact λa b H' g'=>h a b H' (g.trans g')
 |bk U'=>exact λa b H' g'=>h a b H' (g.trans g')
 |cx U'=>exact λa b H' g'=>h a b H' (g.trans g')
 |cp r=>exact λa v H' g'=>h a v H' (g.trans g')
def pJ(K:aN)(mg:bo)(m:bX):gu:=λd c H=>sI K mg m c H λO _ b a=>u9 K mg O b H a d
section
variable(X:aT)
structure fz(e:Expr)(m:eD):Prop where
 un:b1 X e (xS X.K X.mg m)
structure vb(e:Expr)(m:aK->N Bool):Prop where
 un:iy X e (Rh X.K X.mg m)
structure lx(ay:List Expr)(m:hG):Prop where
 un:gR X ay (G1 X.K X.mg m)
structure gg(st:Stmt)(m:bX):Prop where
 un:iw X st (pJ X.K X.mg m)
structure iz(uE:List Stmt)(m:bX):Prop where
 un:ix X uE (pJ X.K X.mg m)
end
def dy(m:bt):eD:=λU=>(m U).up
def fW(m:aK->M Bool):aK->N Bool:=λU=>(m U).up
def dR(m:c0):hG:=λU=>(m U).up
def b5(m:aL):bX:=λU=>(m U).up
section
variable{X:aT}{e:Expr}{ay:List Expr}{m:bt}{t:aK->M Bool}{ms:c0}{b:aL}{st:Stmt}{uE:List Stmt}
theorem aix(h:bb X e m):fz X e (dy m):=⟨eb h.un λk H Q i=>by
 obtain⟨O,U,S,r,a,st,h,q⟩:=i;obtain rfl:=(m U).fc _ _ _ h;exact⟨O,U,a,r,a,st.s3,h,λf v d c g j nn=>q f v d c.dA (st.go c g.ck) j nn⟩⟩
theorem aiK(h:fi X e t):vb X e (fW t):=⟨xc h.un λj H Q i=>by
 obtain⟨O,U,S,r,a,st,h,q⟩:=i;obtain rfl:=(t U).fc _ _ _ h;exact⟨O,U,a,r,a,st.s3,h,λf d c g=>q f d c.dA (st.go c g.ck)⟩⟩
theorem aip(h:gv X ay ms):lx X ay (dR ms):=⟨xa h.un λk H Q i=>by
 obtain⟨O,U,S,r,a,st,h,q⟩:=i;obtain rfl:=(ms U).fc _ _ _ h;exact⟨O,U,a,r,a,st.s3,h,λf v d c g j nn=>q f v d c.dA (st.go c g.ck) j nn⟩⟩
theorem Rg:∀D f H,pJ K mg (b5 b) D f H->lS K mg b D f H:=by
 rintro D f H ⟨O,U,S,i,j,st,h,q⟩;obtain rfl:=(b U).fc _ _ _ h;refine⟨O,U,j,i,j,st.s3,h,?_⟩
 cases i with
 |bu U'=>exact λa c H' g t k=>q a c H' g.ea (st.bM g k t)
 |bk U'=>exact λa c H' g t k=>q a c H' g.ea (st.bM g k t)
 |cx U'=>exact λa c H' g t k=>q a c H' g.ea (st.bM g k t)
 |cp r=>exact λa v H' g d dQ l=>q a v H' g.ea d dQ (by rw[g.bD];exact st.full) l
def aiE(h:e_ X st b):gg X st (b5 b):=⟨gL h.un Rg⟩
def Rl(h:hF X uE b):iz X uE (b5 b):=⟨Az h.un Rg⟩
end
end aC
namespace aC
open PySem PySem.Spec aA
def bw(a b:bX):bX:=λU=>do
 let c <-a U
 match c with
 |.bu U'=>b U'|c=>pure c
def fO(t:aK->N Bool)(a b:bX):bX:=λU=>do
 let t <-t U
 if t=true then a U else b U
def n8(i:Nat)(m:eD):bX:=λU=>do
 let r <-m U
 let d <-r.dat.up
 pure (.bu (U.set i (.v d)))
def jX(m:eD):bX:=λU=>do
 let r <-m U
 match r with
 |.v d=>pure (.cp (.v d))|.fr xs=>pure (.cp (.fr xs))|_=>hn
def fN(m:eD):bX:=λU=>do
 let _ <-m U
 pure (.bu U)
variable[aA.a4]
section
variable{K:aN}{mg:bo}{O pV:a_}{H H₀:aw}{S:bI}{U:aK}{ar:St}
def dv.cF(s:dv K mg O U S ar H)(H₀:aw):dv K mg (cF H₀ O) U S ar H:=⟨s.s3.cF H₀,s.full,λi xs e=>by
 obtain⟨a,ys,av,l,r⟩:=s.qL i xs e;refine⟨a,ys,av,l.imp (λz=>⟨z.1,?_,z.2.2⟩) id,r.c8 (i' _ _)⟩;rcases z.2.1 with f|f
 .exact .inl ((i' H₀ O).fr a f)
 .exact .inr (by rw[rA (by rw[f];intro z;cases z)];exact f)⟩
def et.cF(g:et pV O H₀ H):et pV (cF H₀ O) H₀ H:=⟨λb o e h n=>g.cells b o e h n,λb a=>(Dv a).trans (g.own b a),g.has,g.cJ,g.bY,g.bD,g.new⟩
def dv.set{s:Slot}{v:V}(st:dv K mg O U S ar H)(hs:∀xs,s≠.b4 xs)(h:jx K mg O H (.loc i) s (some v)):dv K mg O (U.set i s) S (ar.set i (some v)) H:=⟨st.s3.set h,st.full,λj xs e=>by
 by_cases a:i=j
 .subst a
  rw[al9 (by have:=(alK.mp e).1;rwa[amr]at this)]at e;exact absurd (amf e) (hs xs)
 .rw[alU a]at e
  rw[alU a];exact st.qL j xs e⟩
end
section
variable{X:aT}{st:Stmt}{rest A B:List Stmt}{pos pos':Pos}{a b:bX}{e c:Expr}{m:eD}{t:aK->N Bool}{i:Nat}{x:Str}
def aiJ(h:gg X st a):iz X [st] a:=⟨PO h.un⟩
def aiI(d:gg X st a)(p:iz X rest b):iz X (st::rest) (bw a b):=⟨Az (PN d.un p.un) λD y H n=>by
 obtain⟨O,U,S,k,s,st,h,q⟩:=n;obtain⟨g,S1,d,h⟩:=N.inv h;refine⟨O,U,S,g,S1,st,d,?_⟩
 cases g with
 |bu f=>exact λj z w u l=>⟨j,f,S1,k,s,l,h,q.ea u⟩
 |cp r=>cases h;exact q
 |bk f=>cases h;exact q
 |cx f=>cases h;exact q⟩
theorem aiC(s:vb X c t)(r:iz X A a)(n:iz X B b):gg X (.If c A B pos) (fO t a b):=⟨gL (PL s.un r.un n.un) λD w H l=>by
 obtain⟨O,U,S,f,j,st,h,q⟩:=l;obtain⟨t,S1,p,h⟩:=N.inv h;refine⟨O,U,S,t,S1,st,p,λd u k g=>?_⟩
 cases t with
 |false=>
  rw[if_neg alR]at h;exact oP ⟨d,U,S1,f,j,g,h,q.ea k.ea⟩
 |true=>
  rw[if_pos rfl]at h;exact oQ ⟨d,U,S1,f,j,g,h,q.ea k.ea⟩⟩
theorem aiF(he:fz X e m):gg X (.Return (some e) pos) (jX m):=⟨gL (FX he.un) λD w H n=>by
 obtain⟨O,U,S,s,u,st,h,q⟩:=n;obtain⟨r,S1,p,h⟩:=N.inv h;refine⟨O,U,S,r,S1,st,p,λj v g l f k nn=>?_⟩
 cases r with
 |v d=>cases h;exact q j v g l.ea f.s3.ck f.s3.f9 f.full k
 |fr xs=>cases h;exact q j v g l.ea f.s3.ck f.s3.f9 f.full (Qe k (.inr ⟨_,rfl⟩))
 |b4 xs=>cases h
 |mv xs=>cases h⟩
theorem aiA(he:fz X e m)(hs:anm e none pos.line X.env=pure false:=by rfl):gg X (.Expr e pos) (fN m):=⟨gL (Ay he.un hs) λD l H j=>by
 obtain⟨O,U,S,p,s,st,h,q⟩:=j;obtain⟨r,S1,k,h⟩:=N.inv h;cases h;exact⟨O,U,S,r,_,st,k,λf v d n g u nn=>q f l d n.ea g⟩⟩
theorem aiG(hN:X.N.Nodup)(hi:X.N[i]? = some x)(p:Loc X.env.scope x)(he:fz X e m)(hs:anm e (some (.Name x pos')) pos.line X.env=pure false:=by rfl)(w:X.fn x=true\/X.env.scope.names.lookup x=some .local:=by first|exact .inl rfl|exact .inr rfl|assumption) :
  gg X (.Assign [.Name x pos'] e pos) (n8 i m):=⟨gL (FY hN hi p he.un hs w) λD G H k=>by
 obtain⟨O,U,S,y,F,st,h,q⟩:=k;obtain⟨r,S1,l,h⟩:=N.inv h;obtain⟨d,E,n,h⟩:=N.inv h;cases h;refine⟨O,U,S,r,S1,st,l,λg v f u j s nn=>?_⟩;obtain⟨dg,rfl⟩:=rk (H₀:=H) s nn n;exact q (cF H g) _ f u.cF.ea ((j.cF H).set (λxs z=>by cases z) ⟨v,rfl,dg⟩)⟩
end
def Hj(b:iv)(O:a_)(H:aw)(ys:List V):Prop:=∀c a,gr O c H a->∀i,(i<ys.length->b.go i a/\∀x H',b.pK i a x H'->H'=a/\ys[i]? = some x)/\(ys.length<=i->b.stop i a)
def GL(K:aN)(mg:bo)(m:fH):TI:=λb H R=>sI K mg (λU=>(m U).up) b H λO U d xs=>∀a H' c ys,Go O a H H'->dv K mg a U d b H'->Hj c a H' ys->bl K mg a H' xs ys->R c H'
structure yj(X:aT)(cf e:Expr)(m:fH):Prop where
 un:j1 X cf e (GL X.K X.mg m)
def k6(b:D->bX):List D->bX
 |[]=>λU=>pure (.bu U)
 |d::ds=>λU=>do
  let a <-b d U
  match a with
  |.bu U'=>k6 b ds U'|.cx U'=>k6 b ds U'|.bk U'=>pure (.bu U')|.cp r=>pure (.cp r)
def Q'(B:D->bX)(it:fH):bX:=λU=>do
 let ds <-(it U).up
 k6 B ds U
abbrev qQ(i:Nat)(it:fH)(b:bX):bX:=Q' (λd U=>b (U.set i (.v d))) it
section
variable{X:aT}{cf iter:Expr}{m:bt}{a:Expr}{ms:c0}{pos p fu:Pos}{it:fH}{bd:bX}{body:List Stmt}{i:Nat}{x:Str}
theorem NM{O:a_}(lo:Int)(n:Nat):Hj (m6 lo n) O H (mQ lo n):=λc b _ i=>Ey (H:=b) lo n b (ez.refl _) i
def aiy(k:d_ X "range")(t:X.mg "range"=none)(n:gv X [a] ms)(hs:alJ [a] X.env=[(false,eval a X.env)]:=by rfl):yj X cf (.Call (.Name "range" p) [a] [] pos) (gY ms):=⟨pf (FW k t n.un hs) λw H R l=>by
 obtain⟨O,U,S,xs,u,st,h,q⟩:=l;obtain rfl:=(gY ms U).fc _ _ _ h;obtain⟨rs,S1,b,h⟩:=M.inv h;obtain rfl:=(ms U).fc _ _ _ b;split at h
 .rename_i j
  by_cases c:-(2 ^ 62)<=j/\j<2 ^ 62
  .rw[if_pos c]at h
   cases h;refine⟨O,U,S1,_,S1,st.s3,b,λf vs e d g s nn=>?_⟩;obtain⟨v,rfl,r⟩:=kY s;cases(show v=.int j from r);exact⟨j,rfl,c.1,c.2,q f e (m6 0 j.toNat) (mQ 0 j.toNat) d (st.go d g.ck) (NM _ _) (Gd _ _)⟩
  .rw[if_neg c]at h;cases h
 .cases h⟩
theorem aaM{K:aN}{mg:bo}{H:iv}{G:iP}{B:aC.D->bX}{b:List aC.D}{u:a_}{U:aK}{S1 E:bI}{P:St}{t:aw}{A:fG}{T:Ends}(V:dv K mg u U S1 P t)(stop:∀c H',gr u c t H'->H.stop b.length H')
  (step:∀k d c H' U' n w f j,b[k]? = some d->gr u c t H'->dv K mg c U' n w H'->(B d U').run n=.ok f j->H.go k H'/\∀x g (R:St->aw->Prop),H.pK k H' x g->
   (∀L O F,gr c c H' F->dv K mg c L n O F->(bd L).run n=.ok f j->R O F)->G x w g R)
  (h:(k6 B b U).run S1=.ok A E) (q:u9 K mg u E t A T):xA (λ_ _ R=>R H t) G (pJ K mg bd) T P t:=by
 refine⟨λk m w H'=>m=b.length-k/\k<=b.length/\∃c U' n,dv K mg c U' n w H'/\gr u c t H'/\(k6 B (b.drop k) U').run n=.ok A E,
  ⟨_,rfl,amt _,u,U,S1,V,(d5.refl _ _).ea,h⟩,?_⟩
 rintro k m w H' ⟨rfl,au,c,U',n,S,g',h⟩
 cases e:b.drop k with
 |nil=>
  obtain rfl:k=b.length:=by
   have:=congrArg anz e;rw[amL,am4]at this;omega
  rw[e]at h;cases h;exact .inl ⟨stop c H' g',q c w H' g' S⟩
 |cons d kA=>
  have J:k<b.length:=by
   have:=congrArg anz e;rw[amL,amk]at this;omega
  have C:b[k]? = some d:=by
   have:=congrArg (·[0]?) e;simpa using this
  have Q:b.drop (k+1)=kA:=by
   have:=congrArg (List.drop 1) e;simpa[apo]using this
  rw[e]at h;obtain⟨M,j,Y,h⟩:=N.inv h;obtain⟨go,mV⟩:=step k d c H' U' n w M j C g' S Y;refine .inr ⟨go,λz g=>∃l s j,dv K mg l s j z g/\gr u l t g/\(k6 B (b.drop (k+1)) s).run j=.ok A E,?_,λx g k8=>mV x g _ k8 λL O F rB sh W=>?_⟩
  .rintro z g ⟨l,s,j,a1,a2,fI⟩
   exact⟨_,by omega,rfl,J,l,s,j,a1,a2,fI⟩
  .refine⟨c,L,n,M,j,sh,W,?_⟩
   have I:=g'.trans rB
   cases M with
   |bu s=>exact λl z g y bF=>⟨l,s,j,bF,I.trans y,by rw[Q];exact h⟩
   |cx s=>exact λl z g y bF=>⟨l,s,j,bF,I.trans y,by rw[Q];exact h⟩
   |bk s=>cases h;exact λl z g y bF=>q l z g (I.trans y) bF
   |cp r=>cases h;exact λl v g y Z aE f2 o=>q l v g (I.trans y) Z aE f2 o
theorem VC{G:iP}{B:aC.D->bX}(T:∀O U S b H d y f c Q,dv K mg O U S b H->Rep K mg O H d y->(B d U).run S=.ok f c->(∀j l,dv K mg O j S l H->(bd j).run S=.ok f c->Q l H)->G y b H Q) :
  ∀D b H,pJ K mg (Q' B it) D b H->xA (GL K mg it) G (pJ K mg bd) D b H:=by
 rintro D b H ⟨O,U,S,Z,o,st,h,q⟩;obtain⟨ds,S1,w,h⟩:=N.inv h;refine⟨O,U,S,ds,S1,st,w,λY W C ys I n its r=>aaM n (λe H' g=>(its e H' g _).2 (aoE r.len)) (λk d e H' U' e9 J f c F g' E z=>?_) h (q.ea I.bM.ea)⟩;obtain⟨y,s,A⟩:=(r.ea g' n.s3.ck.b9).get F;obtain⟨go,P⟩:=(its e H' g' k).1 (alK.mp s).1;refine⟨go,λx t R M L=>?_⟩;obtain⟨rfl,ex⟩:=P x t M;rw[s]at ex;cases ex;exact T _ _ _ _ _ _ _ _ _ _ E A z λj l V u=>L _ _ _ (d5.refl _ _).ea V u
def aiB(b:apy (model X.prog X.w) X.A X.env X.dH)(f:X.calm=true)(hi:yj X (.Name x fu) iter it)(hN:X.N.Nodup)(d:X.N[i]? = some x)(hl:Loc X.env.scope x)(c:iz X body bd)
  (hs:∀x,amM iter X.env x=pure x:=by intro _;rfl) (g:X.fn x=true\/X.env.scope.names.lookup x=some .local:=by first|exact .inl rfl|exact .inr rfl|assumption):gg X (.For (.Name x fu) iter body [] pos) (qQ i it bd):=
 ⟨gL (PK b f hi.un (uk hN d hl g) c.un hs) (VC λ_ _ _ _ _ _ _ _ _ _ st e h k=>k _ _ (st.set (s:=.v _) (λxs z=>by cases z) ⟨_,rfl,e⟩) h)⟩
end
end aC
namespace aC
open PySem PySem.Spec aA
def fnX(n N:Nat)(b:bX):dV:=λds=>if ds.length=n then do
  let a <-b (ds.map b0++amm (N-n) .e)
  match a with
  |.cp (.v d)=>pure (.v d)|.cp (.fr xs)=>pure (.fr xs)|.bu _=>pure (.v .aH)|_=>hn
 else hn
def Dr{n N:Nat}{ds:List D}{S a:bI}{r:R}(h:(fnX n N b ds).run S=.ok r a):ds.length=n:=by
 unfold fnX at h
 by_cases c:ds.length=n
 .exact c
 .rw[if_neg c]at h;cases h
def qR:hG:=λ_=>pure []
def xN(m:eD)(ms:hG):hG:=λU=>do
 let x <-m U
 let xs <-ms U
 if x.hu=true then pure (x::xs)else hn
def sx(m:eD)(ms:c0):hG:=λU=>do
 let x <-m U
 let xs <-(ms U).up
 pure (x::xs)
def n6(mf:dV)(ms:hG):eD:=λU=>do
 let rs <-ms U
 if rs.all R.hu=true then mf (rs.map R.arg)else hn
def dS(c m:Str)(mf:dV)(mo:bt)(ms:hG):eD:=λU=>do
 let x <-(mo U).up
 let o <-(hU x).up
 match o with
 |.a8 c' aS=>if c'=c/\aS.lookup m=none then(do
  let rs <-ms U
  if rs.all R.hu=true then mf (x.arg::rs.map R.arg)else hn)else hn
 |_=>hn
def lY(c:Str)(mf:dV)(ms:hG):eD:=λU=>do
 let rs <-ms U
 if rs.all R.hu=true then(do
  let S <-y5
  putN (S++[.a8 c []])
  let r <-mf (.ref S.length::rs.map R.arg)
  match r with
  |.v .aH=>pure (.v (.ref S.length))| _=>hn)else hn
variable[aA.a4]
def pN(K:aN)(mg:bo)(O:a_)(H:aw):D->V->Prop
 |.l xs,v=>∃a ys,v=.ref a/\((hE H a (.l ys)/\a∉O.bD)\/BJ K a ys)/\bl K mg O H xs ys|d,v=>Rep K mg O H d v
def m1(K:aN)(mg:bo)(O:a_)(H:aw):List D->List V->Prop
 |[],ys=>ys=[]|x::xs,ys=>∃y r,ys=y::r/\pN K mg O H x y/\m1 K mg O H xs r
section
variable{K:aN}{mg:bo}{O:a_}{H:aw}{S:bI}
def pN.rep{v:V}(b9:jw O)(h:Rep K mg O H d v):pN K mg O H d v:=by
 cases d with
 |l xs=>obtain⟨a,ys,e,l,r⟩:=h;exact⟨a,ys,e,.inl ⟨.inl l.1,b9.no l.2 (by intro z;cases z)⟩,r⟩
 |_=>exact h
def Se{r:R}{v:V}(b9:jw O)(hs:r.hu=true)(h:eu K mg O H r v):pN K mg O H r.arg v:=by
 cases r with
 |v d=>exact pN.rep b9 h| fr xs=>obtain⟨a,ys,e,l,t,r⟩:=h;exact⟨a,ys,e,.inl ⟨.inl l,b9.no t (by intro z;cases z)⟩,r⟩
 |b4 _=>cases hs
 |mv _=>cases hs
theorem yn(b9:jw O):∀{rs:List R}{vs:List V},rs.all R.hu=true->i8 K mg O H rs vs->m1 K mg O H (rs.map R.arg) vs
 |[],_,_,h=>h|_::_,_,hs,h=>by
  rw[aoa,amc]at hs;obtain⟨y,r,q,a,b⟩:=h;exact⟨y,r,q,Se b9 hs.1 a,yn b9 hs.2 b⟩
def pN.r{v:V}(h:pN K mg O H d v):uX K mg O H d v:=by
 cases d with
 |l xs=>obtain⟨a,ys,e,l,r⟩:=h;exact⟨a,ys,e,l.imp (·.1) id,r⟩
 |_=>exact h
theorem m1.r:∀{ds:List D}{vs:List V},m1 K mg O H ds vs->l2 K mg O H ds vs
 |[],_,h=>h| _::_,_,h=>by obtain⟨y,r,q,a,b⟩:=h;exact⟨y,r,q,a.r,m1.r b⟩
theorem m1.get:∀{ds:List D}{xs:List V}{i:Nat}{d:D},m1 K mg O H ds xs->ds[i]? = some d->∃x,xs[i]? = some x/\pN K mg O H d x
 |[],_,_,_,_,e=>by simp at e| _::_,_,0,d,h,e=>by obtain⟨x,r,rfl,a,_⟩:=h;cases(show some _=some d from e);exact⟨x,rfl,a⟩
 |_::ds,_,i+1,d,h,e=>by
  obtain⟨x,r,rfl,_,b⟩:=h;obtain⟨y,av,aE⟩:=m1.get (i:=i) b (by simpa using e);exact⟨y,by simpa using av,aE⟩
def hY(K:aN)(mg:bo)(mf:dV):ej:=λvs H Q _=>∃O ds r S b,dh O H/\fY K mg O H S/\O.bD.length=S.length/\m1 K mg O H ds vs/\(mf ds).run S=.ok r b/\
 ∀a v H',et O a H H'->dh a H'->fY K mg a H' b->a.bD.length=b.length->eu K mg a H' r v->jv H r v->Q v H'
def af2{ps N:List Str}{ds:List D}(h:dh O H)(dQ:fY K mg O H S)(f:O.bD.length=S.length)(b:m1 K mg O H ds vs)(hl:ds.length=ps.length):dv K mg (d2 O) (ds.map b0++amm (N.length-ps.length) .e) S (aA.start N vs) H:=by
 refine⟨Gv h dQ b.r hl,f,λi xs e=>?_⟩
 by_cases hi:i<ds.length
 .rw[al8 (by rw[alM];exact hi),al4]at e
  cases o:ds[i]? with
  |none=>rw[o]at e;cases e
  |some d=>
   rw[o]at e;obtain⟨v,c,g⟩:=b.get o
   cases d with
   |l j=>
    cases e;obtain⟨a,ys,rfl,l,r⟩:=g;refine⟨a,ys,?_,l.imp (λz=>⟨z.1,lz O a,z.2⟩) id,r.c8 (j3 O)⟩;unfold aA.start;rw[al8 (by rw[alM];exact(alK.mp c).1),al4,c];rfl
   |_=>cases e
 .rw[al6 (by rw[alM];omega),ank]at e
  split at e
  .cases e
  .cases e
theorem Jx{ps N:List Str}(J:hY K mg (fnX ps.length N.length C) vs H Q E):pJ K mg C { bu:=λ_ H'=>Q .aH H',cp:=Q } (aA.start N vs) H:=by
 obtain⟨O,ds,r,S,aq,u,dQ,M,Y,h,q⟩:=J;have hl:=Dr h;unfold fnX at h;rw[if_pos hl]at h;obtain⟨I,S1,R,h⟩:=aC.N.inv h;have U:=af2 (N:=N) u dQ M Y hl;have back:∀{c:a_}{H':aw},gr (d2 O) c H H'->dh c H'->∃j:a_,et O j H H'/\dh j H'/\l5 c j/\∀b,(c b=.dn\/∃i,c b=.loc i)->H b=none/\j b=.dn:=λ{c H'} g d=>by
  have F:∀b,H b≠none->(match H b with|some _=>O b|none=>(match c b with|.loc _=>.dn|o=>o))=O b:=λb f=>by
   cases e:H b with
   |none=>exact absurd e f|some o=>rfl
  have A:∀b,H b=none->(match H b with|some _=>O b|none=>(match c b with|.loc _=>.dn|o=>o))=(match c b with|.loc _=>Own.dn|o=>o):=λb f=>by rw[f]
  refine⟨⟨λb=>match H b with|some _=>O b|none=>(match c b with|.loc _=>.dn|o=>o),c.bD⟩,⟨λb o e h n=>g.cells b o e (h.imp (λz=>⟨lz O b,z⟩) id) n,F,g.has,g.cJ,g.bY,g.bD,g.new⟩,⟨λb f=>?_,d.tabs,d.b9.1,λb m=>?_⟩,⟨λb f=>?_,rfl⟩,λb f=>?_⟩
  .cases e:H b with
   |some o=>exact g.has b (hX e)|none=>
    refine d.has b λz=>f ?_
    refine(A b e).trans ?_;rw[z]
  .rcases g.new b m with z|z
   .exact(F b (u.has b (by rw[u.b9.2 b z];intro z;cases z))).trans (u.b9.2 b z)
   .refine(A b z).trans ?_
    rw[d.b9.2 b m]
  .cases e:H b with
   |some o=>exact(F b (hX e)).trans (og.mp ((g.own b (hX e) (lz O b)).symm.trans f))|none=>
    refine(A b e).trans ?_;rw[f]
  .have p:H b=none:=by
    cases e:H b with
    |none=>rfl|some o=>
     exfalso;have bq:=g.own b (hX e) (lz O b);rcases lz O b with z|z<;>rw[z]at bq<;>rcases f with w|⟨i,w⟩<;>rw[bq]at w<;>cases w
   refine⟨p,(A b p).trans ?_⟩;rcases f with w|⟨i,w⟩<;>rw[w]
 refine⟨d2 O,_,S,I,S1,U,R,?_⟩
 cases I with
 |bu U'=>
  cases h;intro c dc H' g D;obtain⟨j,y,x,k,_⟩:=back g D.s3.ck;exact q j .aH H' y x (D.s3.f9.all (λ_ _ z=>Rep.c8 k z) k.bD λ_ _ _ l _=>l) (by rw[k.bD];exact D.full) rfl trivial
 |bk U'=>cases h
 |cx U'=>cases h
 |cp W=>
  intro c v H' g d B P s;obtain⟨j,y,x,k,Z⟩:=back g d;have L:=B.all (λ_ _ z=>Rep.c8 k z) k.bD λ_ _ _ l _=>l
  have G:j.bD.length=S1.length:=by rw[k.bD];exact P
  cases W with
  |v dz=>cases h;exact q j v H' y x L G (Rep.c8 k s) trivial
  |fr xs=>
   cases h;obtain⟨a,ys,rfl,l,t,V⟩:=s;obtain⟨p,T⟩:=Z a t;exact q j _ H' y x L G ⟨a,ys,rfl,l,T,V.c8 k⟩ λb X=>by cases X;exact p
  |b4 xs=>exact amu s|mv xs=>exact amu s
end
structure x1(K:aN)(mg:bo)(c m qual:Str)(st:Stmt)(ps:List Str):Prop where
 ex:∃C f fd,mg c=some (.ref C)/\i4 K C/\Meth K C m f/\lg K m qual st f fd/\Binds K fd ps []
structure ko(P:al7)(w:World)(K:aN)(mg:bo)(base:Heap)(c m:Str)(ps:List Str)(k:Nat)(sp:ej):Prop where
 ex:∃C f fd,mg c=some (.ref C)/\i4 K C/\Meth K C m f/\e5 P w K mg base ey k f fd ps sp/\Binds K fd ps []
section
variable{P:al7}{w:World}{K:aN}{mg:bo}{base:Heap}{x c m qual:Str}{st:Stmt}{ps N:List Str}{k:Nat}{cT:bX}{n nl:Nat}{f:Addr}{fd:amT}
def Ds(F:lg K x qual st f fd)(b:gP N ps (df st))(g:ps.length=n)(hl:N.length=nl)
  (e:∀(a:Value)(A:ami)(outer:List Env)(s:alO)(H:aw)(E:gw),cB k (A.deeper (amR qual (df st) s.heap.objs.size f a))->
   iz (gU ey P w K mg base N qual (df st) f a A outer s H E).gB (fJ st) cT):e5 P w K mg base ey (k+1) f fd ps (hY K mg (fnX n nl cT)):=by
 subst g hl;exact F.ok b (λvs H Q E ⟨O,ds,r,S,p,t,dQ,l,i,h,q⟩=>i.r.len.trans (Dr h)) λa A outer s H vs Q E d j=>⟨_,(e a A outer s H E d).un,Jx j⟩
theorem Wy(gO:gO K mg x st ps)(d:gP N ps (df st))(g:ps.length=n)(hl:N.length=nl)
  (e:∀(f:Addr)(a:Value)(A:ami)(outer:List Env)(s:alO)(H:aw)(E:gw),cB k (A.deeper (amR x (df st) s.heap.objs.size f a))->
   iz (gU ey P w K mg base N x (df st) f a A outer s H E).gB (fJ st) cT):eV P w K mg base x ps (k+1) (hY K mg (fnX n nl cT)):=by
 obtain⟨f,fd,F,b,m⟩:=gO.ex;exact⟨f,fd,Ds F d g hl (λa=>e f a),b,F.kp,m⟩
theorem Ww(gO:x1 K mg c m qual st ps)(d:gP N ps (df st))(g:ps.length=n)(hl:N.length=nl)
  (e:∀(f:Addr)(a:Value)(A:ami)(outer:List Env)(s:alO)(H:aw)(E:gw),cB k (A.deeper (amR qual (df st) s.heap.objs.size f a))->
   iz (gU ey P w K mg base N qual (df st) f a A outer s H E).gB (fJ st) cT):ko P w K mg base c m ps (k+1) (hY K mg (fnX n nl cT)):=by
 obtain⟨C,f,fd,h,cl,me,F,b⟩:=gO.ex;exact⟨C,f,fd,h,cl,me,Ds F d g hl (λa=>e f a),b⟩
theorem Wx{cT:aL}(gO:x1 K mg c m qual st ps)(d:gP N ps (df st))(g:ps.length=n)(hl:N.length=nl)
  (e:∀(f:Addr)(a:Value)(A:ami)(outer:List Env)(s:alO)(H:aw)(E:gw),cB k (A.deeper (amR qual (df st) s.heap.objs.size f a))->
   u0 (gU ey P w K mg base N qual (df st) f a A outer s H E).gB (fJ st) cT):ko P w K mg base c m ps (k+1) (e3 K mg (fnOf n nl cT)):=by
 obtain⟨C,f,fd,h,cl,me,F,b⟩:=gO.ex;exact⟨C,f,fd,h,cl,me,Mo F d g hl (λa=>e f a),b⟩
end
section
variable{X:aT}{x:Str}{ps:List Str}{k:Nat}{mf:dV}{p pos:Pos}{e:Expr}{ay:List Expr}{ms:hG}{pm:c0}{Bq:eD}
theorem ks.dA{O a:a_}(g:et O a H H'):∀{rs:List R}{vs:List V},ks H' rs vs->ks H rs vs
 |[],_,_=>trivial|_::_,[],_=>trivial|_::_,_::_,h=>⟨h.1.dA g,ks.dA g h.2⟩
theorem ain(s:fz X e Bq)(g:lx X ay ms)(hs:alJ (e::ay) X.env=(false,eval e X.env)::alJ ay X.env:=by rfl):lx X (e::ay) (xN Bq ms):=⟨xa (uj s.un g.un hs) λA H Q l=>by
 obtain⟨O,U,S,r,z,st,h,q⟩:=l;obtain⟨x,S1,m,h⟩:=N.inv h;obtain⟨xs,y,n,h⟩:=N.inv h;split at h
 .rename_i u
  cases h;refine⟨O,U,S,x,S1,st,m,λi b w c a f bu=>?_⟩;exact⟨i,U,S1,xs,_,a,n,λt vs j d bF rs ns=>q t (b::vs) j (c.trans d) bF ⟨b,vs,rfl,f.dA d a.s3.ck.b9 u,rs⟩ ⟨bu,ns.dA c⟩⟩
 .cases h⟩
theorem aio(s:fz X e Bq)(i:gv X ay pm)(hs:alJ (e::ay) X.env=(false,eval e X.env)::alJ ay X.env:=by rfl):lx X (e::ay) (sx Bq pm):=⟨xa (uj s.un i.un hs) λz H Q m=>by
 obtain⟨O,U,S,r,y,st,h,q⟩:=m;obtain⟨x,S1,n,h⟩:=N.inv h;obtain⟨xs,w,c,h⟩:=N.inv h;cases h;obtain rfl:=(pm U).fc _ _ _ c;refine⟨O,U,S,x,_,st,n,λj d u f b g bu=>?_⟩;exact⟨j,U,_,xs,_,b.s3,c,λt vs l a bF rs ns=>q t (d::vs) l (f.trans a.dA) (b.go a bF.ck) ⟨d,vs,rfl,g.go a,rs⟩ ⟨bu,ns.dA f⟩⟩⟩
def T_:∀b H Q,xS K mg (n6 mf ms) b H Q->AV (hY K mg mf) (G1 K mg ms) b H Q:=by
 rintro b H Q ⟨O,U,S,r,m,st,h,q⟩;obtain⟨rs,S1,j,h⟩:=N.inv h;split at h
 .rename_i u
  refine⟨O,U,S,rs,S1,st,j,λf vs w c a n nn=>?_⟩;exact⟨f,_,r,S1,m,a.s3.ck,a.s3.f9,a.full,yn a.s3.ck.b9 u n,h,λl v H' g d dQ i s t=>q l v H' (c.trans g) (a.dA g d dQ i) s (t.dA c)⟩
 .cases h
def aiq(h:eV X.prog X.w X.K X.mg X.base x ps k (hY X.K X.mg mf))(a:cB k X.A)(b:d_ X x)(c:lx X (e::ay) ms)(d:(x==("__debug__":Str))=false:=by decide)
  (he:alJ (e::ay) X.env=(false,eval e X.env)::alJ ay X.env:=by rfl) (f:(amg pos (alJ ay X.env)).any (·.1)=false:=by rfl):fz X (.Call (.Name x p) (e::ay) [] pos) (n6 mf ms):=
 ⟨eb (Pz h a b c.un d he f) T_⟩
end
end aC
namespace aC
open PySem PySem.Spec aA
def cP(c m:Str)(mf:bj)(mo:bt)(ms:c0):bt:=λU=>do
 let x <-mo U
 let o <-hU x
 match o with
 |.a8 c' aS=>if c'=c/\aS.lookup m=none then(do
  let rs <-ms U
  mf (x.arg::rs.map R.arg))else bad
 |_=>bad
def Gm(x:R)(o:gc):N Unit:=match x with
 |.v (.ref n)=>⟨λS=>.ok () (S.set n o)⟩
 |_=>hn
def dN(c f:Str)(mo:bt)(mv:eD):bX:=λU=>do
 let r <-mv U
 let d <-r.dat.up
 let x <-(mo U).up
 let o <-(hU x).up
 match o with
 |.a8 c' aS=>if c'=c/\aS.length<1000 then(do
  Gm x (.a8 c (ij f d aS))
  pure (.bu U))else hn
 |_=>hn
def n7(f:List D->List R->M (R×List D))(mo:bt)(ms:c0):bX:=λU=>do
 let x <-(mo U).up
 let rs <-(ms U).up
 let o <-(hU x).up
 match o with
 |.l xs=>do
  let p <-(f xs rs).up
  Gm x (.l p.2)
  pure (.bu U)
 |_=>hn
def lZ(m:eD):eD:=λU=>do
 let r <-m U
 match r with
 |.fr xs=>do
  let S <-y5
  putN (S++[.l xs])
  pure (.v (.ref S.length))
 |_=>hn
variable[aA.a4]
def hp(O:a_)(p:Addr):a_:=⟨λb=>if b=p then .out else O b,O.bD++[p]⟩
section
variable{K:aN}{mg:bo}{O ak:a_}{H H':aw}{S aq:bI}{U:aK}{ar:St}{p a:Addr}{o:gc}{n:Nat}{u u':gG}
omit [aA.a4]in
theorem o9(h:b≠p):hp O p b=O b:=if_neg h
omit [aA.a4]in
theorem acO:hp O p p=.out:=if_pos rfl
theorem O1(c:dh O H)(d:p∉O.bD):jw (hp O p):=⟨aoM.mpr ⟨c.b9.1,by simp,λx b y f=>by rintro rfl;rw[amb.mp f]at b;exact d b⟩,λa m=>by
 by_cases e:a=p
 .rw[e];exact acO
 .rw[o9 e];exact c.b9.2 a ((amy.mp m).elim id λz=>absurd (amb.mp z) e)⟩
def dh.acY(b:dh O H)(c:H p=none):p∉O.bD:=λm=>b.has p (by rw[b.b9.2 p m];intro z;cases z) c
theorem alloc(i:dh O H)(dQ:fY K mg O H S)(k:O.bD.length=S.length)(q:H p=none)(c:ez H H')(w:H' p≠none)(a8:(∀d v,Rep K mg O H d v->Rep K mg (hp O p) H' d v)->oa K mg (hp O p) H' p o) :
  et O (hp O p) H H'/\dh (hp O p) H'/\fY K mg (hp O p) H' (S++[o])/\(hp O p).bD.length=(S++[o]).length:=by
 have g:et O (hp O p) H H':=⟨λb o e _ n=>c.at' b o e n,λb j=>o9 (by rintro rfl;exact j q),λ_ h=>c.some h,c.cJ,c.bY,aoG _ _,λb m=>(amy.mp m).imp id λz=>by rw[amb.mp z];exact q⟩;have f:∀d v,Rep K mg O H d v->Rep K mg (hp O p) H' d v:=λ_ _ z=>Rep.dA g i.b9 z
 refine⟨g,⟨λb j=>?_,c.bY i.tabs,O1 i (i.acY q)⟩,λn x e=>?_,by rw[alN,<-k];exact alN⟩
 .by_cases e:b=p
  .rw[e];exact w
  .rw[o9 e]at j;exact c.some (i.has b j)
 .by_cases r:n<S.length
  .rw[al8 r]at e
   obtain⟨a,s,t⟩:=dQ n x e;exact⟨a,by show(O.bD++[p])[n]? = _;rw[al8 (by rw[k];exact r)];exact s,t.all f λu l n=>c.at' _ _ l n⟩
  .rw[al6 (by omega)]at e
   obtain rfl:n=S.length:=by
    have:=(alK.mp e).1;simp at this;omega
   rw[an4]at e;cases e;exact⟨p,by show(O.bD++[p])[S.length]? = _;rw[<-k,al6 (alQ _),an4];rfl,a8 f⟩
def dv.write(st:dv K mg O U S ar H)(r:O.bD[n]? = some a)(c:H a=some u)(B:¬Fix u)(s:∀ps,u≠.f' ps)(w:∀q,u≠.ext (rd a q))(a8:(∀d v,Rep K mg O H d v->Rep K mg O (upd H a u') d v)->oa K mg O (upd H a u') a o) :
  et O O H (upd H a u')/\dv K mg O U (S.set n o) ar (upd H a u'):=by
 have x:=amh r;have bY:TabsOk H->TabsOk (upd H a u'):=λt=>t.put u' (λps z=>s ps (amf (c.symm.trans z))) (λq z=>w q (amf (c.symm.trans z)))
 have has:∀b,H b≠none->upd H a u' b≠none:=λb i=>by
  by_cases e:b=a
  .rw[e,dZ];intro z;cases z
  .rw[c1 e];exact i
 have g:et O O H (upd H a u'):=by
  refine⟨λb o e h _=>?_,λ_ _=>rfl,has,λb ps e=>⟨ps,?_⟩,bY,aoZ _,λ_ m=>.inl m⟩
  .rw[c1]
   .exact e
   .rintro rfl
    rcases h with h|h
    .exact h x
    .rw[c]at e;cases e;exact B h
  .rw[c1]
   .exact e
   .rintro rfl;rw[c]at e;cases e;exact s _ rfl
 have f:∀d v,Rep K mg O H d v->Rep K mg O (upd H a u') d v:=λ_ _ z=>Rep.dA g st.s3.ck.b9 z
 refine⟨g,st.dA g ⟨λb i=>has b (st.s3.ck.has b i),bY st.s3.ck.tabs,st.s3.ck.b9⟩ (λk y e=>?_) (by rw[amr];exact st.full)⟩
 by_cases j:n=k
 .subst j
  rw[al9 (by have:=(alK.mp e).1;rwa[amr]at this)]at e;cases e;exact⟨a,r,a8 f⟩
 .rw[alU j]at e
  obtain⟨b,av,aE⟩:=st.s3.f9 k y e;refine⟨b,av,aE.all f λu l _=>?_⟩;rw[c1]
  .exact l
  .rintro rfl
   obtain⟨bq,bO⟩:=alK.mp av;obtain⟨D,A⟩:=alK.mp r;exact j ((List.getElem_inj st.s3.ck.b9.1).mp (A.trans bO.symm))
theorem i8.dA(g:et O ak H H')(b9:jw O):∀{rs:List R}{vs:List V},rs.all R.hu=true->i8 K mg O H rs vs->i8 K mg ak H' rs vs
 |[],_,_,h=>h|_::_,_,hs,h=>by
  rw[aoa,amc]at hs;obtain⟨y,r,q,a,b⟩:=h;exact⟨y,r,q,a.dA g b9 hs.1,i8.dA g b9 hs.2 b⟩
def w3{r:R}{v:V}(st:cN K mg O U S ar H)(f:eu K mg O H r v)(h:(hU r).run S=.ok o aq):∃n a,r=.v (.ref n)/\v=.ref a/\O.bD[n]? = some a/\S[n]? = some o/\oa K mg O H a o:=by
 obtain⟨n,rfl,e,rfl⟩:=O_ h;obtain⟨a,c,i⟩:=st.f9 n o e;obtain⟨b,g,d⟩:=f;rw[c]at d;cases d;exact⟨n,a,rfl,g,c,e,i⟩
theorem fy.E1:∀{J:List (Str×D)}{C:List (Str×V)},fy K mg O H J C->J.lookup f=none->C.lookup f=none
 |[],C,h,e=>by obtain rfl:=h.Fu;rfl
 |p::J,C,h,e=>by
  obtain⟨q,r,rfl,av,aE,h'⟩:=h.cons;obtain⟨p1,cj⟩:=p;obtain⟨bq,bO⟩:=q;cases(show p1=bq from av);rw[al0]at e ⊢
  cases c7:f==p1 with
  |true=>rw[c7]at e;cases e
  |false=>rw[c7]at e;exact fy.E1 h' e
end
def AW(mg:bo)(c m:Str)(sp:ej)(f:TE)(t:fQ):TE:=λU H Q=>f U H λx b=>∃a C e aS,x=.ref a/\mg c=some (.ref C)/\b a=some (.ins C e aS)/\aS.lookup m=none/\t U b λvs d=>sp (x::vs) d Q i5
def BX(t:TE):Prop:=∀U H Q a,(∀v H',Q v H'->a v H')->t U H Q->t U H a
def sl:BX (fL K mg m):=λc H Q d i ⟨O,U,S,x,b,st,h,q⟩=>⟨O,U,S,x,b,st,h,λa v H' g s p n=>i _ _ (q a v H' g s p n)⟩
section
variable{X:aT}{c m:Str}{ps:List Str}{k:Nat}{sp:ej}{o e:Expr}{ay:List Expr}{bV:TE}{t:fQ}{apos pos:Pos}{mf:dV}{r_:bj}{mo:bt}{pm:c0}{ms:hG}
def PC{pl:Sem Bool}(h:ko X.prog X.w X.K X.mg X.base c m ps k sp)(i:cB k X.A)(up:BX bV)(he:b1 X o bV)(j:gR X (e::ay) t)
  (u:alJ (e::ay) X.env=(false,eval e X.env)::alJ ay X.env:=by rfl) (q:(amg pos (alJ ay X.env)).any (·.1)=false:=by rfl)
  (n:eval (.Call (.Attribute o m apos) (e::ay) [] pos) X.env=(do
   let bK <-eval o X.env
   anY apos.atName
   let(f,first) <-ang [bK] (anL bK m pl)
   aog pos f first (amg pos (alJ (e::ay) X.env)) (ant pos (amU [] X.env))):=by rfl) :
  b1 X (.Call (.Attribute o m apos) (e::ay) [] pos) (AW X.mg c m sp bV t):=by
 obtain⟨C,f,y,s,cl,me,F,b⟩:=h.ex;refine eb (PB (dvs:=[]) (ds:=[]) he cl me F i b .nil r9 j u q n) λU H Q g=>up _ _ _ _ (λv x z=>?_) g
 obtain⟨a,B,l,aS,r,d,p,hl,z⟩:=z;rw[s]at d;cases d;refine⟨a,l,aS,r,p,hl,?_⟩;simpa only[am2]using z
def PD{pl:Sem Bool}(h:ko X.prog X.w X.K X.mg X.base c m ps k sp)(i:cB k X.A)(up:BX bV)(he:b1 X o bV)
  (l:eval (.Call (.Attribute o m apos) [] [] pos) X.env=(do
   let bK <-eval o X.env
   anY apos.atName
   let(f,first) <-ang [bK] (anL bK m pl)
   aog pos f first (amg pos (alJ [] X.env)) (ant pos (amU [] X.env))):=by rfl) :
  b1 X (.Call (.Attribute o m apos) [] [] pos) (AW X.mg c m sp bV xB):=by
 obtain⟨C,f,s,q,cl,me,F,b⟩:=h.ex;refine eb (aei (dvs:=[]) (ds:=[]) he cl me F i b .nil r9 l) λU H Q g=>up _ _ _ _ (λv r z=>?_) g
 obtain⟨a,u,j,aS,p,d,n,hl,z⟩:=z;rw[q]at d;cases d;exact⟨a,j,aS,p,n,hl,z⟩
def OL:∀b H Q,fL K mg (cP c m r_ mo pm) b H Q->AW mg c m (e3 K mg r_) (fL K mg mo) (pw K mg pm) b H Q:=by
 rintro b H Q ⟨O,U,S,r,A,st,h,q⟩;obtain⟨x,S1,y,s⟩:=M.inv h;clear h;refine⟨O,U,S,x,S1,st,y,λu fv J p j i bu=>?_⟩;obtain⟨a8,aY,l,h⟩:=M.inv s;clear s;obtain⟨n,a,rfl,rfl,bx,w,W⟩:=w3 j i l;obtain rfl:=(hU (.v (.ref n))).fc _ _ _ l;split at h
 .rename_i c' aS
  split at h
  .rename_i T
   obtain⟨rfl,V⟩:=T;obtain⟨rs,N,D,h⟩:=M.inv h;obtain⟨C,B,Y,L,I,Z⟩:=W;refine⟨a,C,B,Y,rfl,I.1,L,Z.E1 V,u,U,_,rs,N,j,D,λE vs aI f bF F nn=>?_⟩;obtain rfl:=(r_ _).fc _ _ _ h;exact⟨E,.ref n::rs.map R.arg,r,A,bF.ck,bF.f9,⟨_,_,rfl,HB (eu.go f i),B5 F⟩,h,λz v H' g d G P=>q z v H' ((p.trans f).trans g) (bF.go g d) G (P.back (p.trans f).same)⟩
  .cases h
 .cases h
def ahC{pl:Sem Bool}(h:ko X.prog X.w X.K X.mg X.base c m ps k (e3 X.K X.mg r_))(a:cB k X.A)(he:bb X o mo)(b:gv X (e::ay) pm)
  (i:alJ (e::ay) X.env=(false,eval e X.env)::alJ ay X.env:=by rfl) (g:(amg pos (alJ ay X.env)).any (·.1)=false:=by rfl)
  (d:eval (.Call (.Attribute o m apos) (e::ay) [] pos) X.env=(do
   let bK <-eval o X.env
   anY apos.atName
   let(f,first) <-ang [bK] (anL bK m pl)
   aog pos f first (amg pos (alJ (e::ay) X.env)) (ant pos (amU [] X.env))):=by rfl):bb X (.Call (.Attribute o m apos) (e::ay) [] pos) (cP c m r_ mo pm):=
 ⟨eb (PC h a sl he.un b.un i g d) OL⟩
def ahD{pl:Sem Bool}(h:ko X.prog X.w X.K X.mg X.base c m ps k (e3 X.K X.mg r_))(g:cB k X.A)(he:bb X o mo)
  (l:eval (.Call (.Attribute o m apos) [] [] pos) X.env=(do
   let bK <-eval o X.env
   anY apos.atName
   let(f,first) <-ang [bK] (anL bK m pl)
   aog pos f first (amg pos (alJ [] X.env)) (ant pos (amU [] X.env))):=by rfl):bb X (.Call (.Attribute o m apos) [] [] pos) (cP c m r_ mo ai):=
 ⟨eb (PD h g sl he.un l) λn H Q d=>sl _ _ _ _ (λv b z=>by
  obtain⟨a,C,j,aS,av,aE,cX,eZ,O,U,S,rs,S1,st,i,q⟩:=z;cases i;exact⟨a,C,j,aS,av,aE,cX,eZ,q O [] b (Go.refl _ _) st rfl trivial⟩) (OL _ _ _ d)⟩
def Fn:∀i H Q,xS K mg (dS c m mf mo ms) i H Q->AW mg c m (hY K mg mf) (fL K mg mo) (G1 K mg ms) i H Q:=by
 rintro i H Q ⟨O,U,S,r,F,st,h,q⟩;obtain⟨x,S1,p,y⟩:=N.inv h;clear h;obtain rfl:=(mo U).fc _ _ _ p;refine⟨O,U,S1,x,S1,st.s3,p,λA fv H1 u b l bu=>?_⟩;have f:=st.go u b.ck;obtain⟨a8,aY,s,h⟩:=N.inv y;clear y;obtain⟨n,a,rfl,rfl,bx,D,ht⟩:=w3 b l s;obtain rfl:=(hU (.v (.ref n))).fc _ _ _ s;split at h
 .rename_i c' aS
  split at h
  .rename_i Y
   obtain⟨rfl,J⟩:=Y;obtain⟨rs,z,I,h⟩:=N.inv h;obtain⟨C,G,j7,V,T,pg⟩:=ht;split at h
   .rename_i Z
    refine⟨a,C,G,j7,rfl,T.1,V,pg.E1 J,A,U,_,rs,z,f,I,λL vs aI w bF M nn=>?_⟩;have j:=u.dA.trans w;exact⟨L,.ref n::rs.map R.arg,r,z,F,bF.s3.ck,bF.s3.f9,bF.full,⟨_,_,rfl,Rep.dA w b.ck.b9 l,yn bF.s3.ck.b9 Z M⟩,h,λE v H' g d dQ B P W=>q E v H' (j.trans g) (bF.dA g d dQ B) P (W.dA j)⟩
   .cases h
  .cases h
 .cases h
def ait{pl:Sem Bool}(h:ko X.prog X.w X.K X.mg X.base c m ps k (hY X.K X.mg mf))(a:cB k X.A)(he:bb X o mo)(b:lx X (e::ay) ms)
  (i:alJ (e::ay) X.env=(false,eval e X.env)::alJ ay X.env:=by rfl) (g:(amg pos (alJ ay X.env)).any (·.1)=false:=by rfl)
  (d:eval (.Call (.Attribute o m apos) (e::ay) [] pos) X.env=(do
   let bK <-eval o X.env
   anY apos.atName
   let(f,first) <-ang [bK] (anL bK m pl)
   aog pos f first (amg pos (alJ (e::ay) X.env)) (ant pos (amU [] X.env))):=by rfl):fz X (.Call (.Attribute o m apos) (e::ay) [] pos) (dS c m mf mo ms):=
 ⟨eb (PC h a sl he.un b.un i g d) Fn⟩
def aiu{pl:Sem Bool}(h:ko X.prog X.w X.K X.mg X.base c m ps k (hY X.K X.mg mf))(g:cB k X.A)(he:bb X o mo)
  (l:eval (.Call (.Attribute o m apos) [] [] pos) X.env=(do
   let bK <-eval o X.env
   anY apos.atName
   let(f,first) <-ang [bK] (anL bK m pl)
   aog pos f first (amg pos (alJ [] X.env)) (ant pos (amU [] X.env))):=by rfl):fz X (.Call (.Attribute o m apos) [] [] pos) (dS c m mf mo qR):=
 ⟨eb (PD h g sl he.un l) λn H Q d=>sl _ _ _ _ (λv b z=>by
  obtain⟨a,C,j,aS,av,aE,cX,eZ,O,U,S,rs,S1,st,i,q⟩:=z;cases i;exact⟨a,C,j,aS,av,aE,cX,eZ,q O [] b (Go.refl _ _).dA st rfl trivial⟩) (Fn _ _ _ d)⟩
theorem Ri{aS:List Str}{p:Pos}(T:m3 X.K X.mg c aS)(h:ko X.prog X.w X.K X.mg X.base c "__init__" ps k (hY X.K X.mg mf))(Y:cB (k+1) X.A)(J:d_ X c)(j:lx X (e::ay) ms)(eE:(c==("__debug__":Str))=false:=by decide)
  (he:alJ (e::ay) X.env=(false,eval e X.env)::alJ ay X.env:=by rfl) (eI:(amg pos (alJ ay X.env)).any (·.1)=false:=by rfl):fz X (.Call (.Name c p) (e::ay) [] pos) (lY c mf ms):=by
 obtain⟨C,f,fd,B,cl,me,F,b⟩:=h.ex;obtain⟨k',P,_,⟨mk,kp⟩,_⟩:=T.ex;rw[B]at P;cases P;refine⟨eb (aeh (dvs:=[]) (ds:=[]) ⟨mk,me.at_,me.fn,kp⟩ F Y J B b .nil r9 j.un eE he eI) λar H Q aV=>?_⟩;obtain⟨O,U,S,r,aq,st,h,q⟩:=aV;obtain⟨rs,S1,ag,l⟩:=N.inv h;clear h;refine⟨O,U,S,rs,S1,st,ag,λs vs E g1 i br nn a x j W u=>?_⟩;split at l
 .rename_i M
  obtain⟨q5,aY,ah,I⟩:=N.inv l;clear l;cases ah;obtain⟨_,h3,bA,L⟩:=N.inv I;clear I;cases bA;obtain⟨cc,pX,cK,h⟩:=N.inv L;clear L;have pj:ez E (upd (upd E x (.own a)) a (.ins C x [])):=(uA W _).trans (uA (by rw[c1 (anH u)];exact j) _);obtain⟨D,y,V,G⟩:=alloc (o:=.a8 c []) i.s3.ck i.s3.f9 i.full j pj (by rw[dZ];intro z;cases z) λ_=>⟨C,x,[],dZ,⟨B,cl⟩,rfl,rfl⟩
  rw[am2];have n:(hp s a).bD[S1.length]? = some a:=by show(s.bD++[a])[S1.length]? = _;rw[<-i.full,al6 (alQ _),an4];rfl
  have ja:=g1.trans D;refine⟨hp s a,.ref S1.length::rs.map R.arg,cc,_,pX,y,V,G,⟨_,_,rfl,⟨a,rfl,n⟩,?_⟩,cK,λak v H' g d dQ Z bz hT=>?_⟩
  .exact yn y.b9 M (i8.dA D i.s3.ck.b9 M br)
  .split at h
   .cases h
    refine⟨bz,q ak _ H' (ja.trans g) ((i.dA D y V G).dA g d dQ Z) ⟨a,rfl,?_⟩ trivial⟩;obtain⟨t,e⟩:=g.bD;rw[<-e,al8 (alK.mp n).1];exact n
   .cases h
 .cases l
end
end aC
namespace aC
open PySem PySem.Spec aA PyProof.Rows
@[reducible] def v5:aqo where
 α:=Int
 blt a b:=decide (a<b)
 irrefl a:=by simp
 trans a b c o C:=by simp only[decide_eq_true_eq]at *;omega
 negTrans a b c h:=by simp only[decide_eq_true_eq]at *;omega
 total a b o C:=by simp only[decide_eq_false_iff_not]at *;omega
 keyOf v:=match v with|.int i _=>some i|_=>none
 dflt:=0
def Zw:v5.OneLt:=by
 intro prog w A E s x y a b Q d c h;cases x<;>simp only[v5,reduceCtorEq,aqA]at d
 cases y<;>simp only[v5,reduceCtorEq,aqA]at c
 cases d;cases c;exact oneLt_int h
structure iK where
 κ:aqo
 eK:κ.α->D
 un:D->Option κ.α
structure iK.Ok(Z:iK):Prop where
 one:Z.κ.OneLt
 uL:∀d a,Z.un d=some a->d=Z.eK a
 key:∀(a:Z.κ.α)(K:aN)(mg:bo)(O:a_)(H:aw)(v:V)(u:Value),Rep K mg O H (Z.eK a) v->RelV v u->Z.κ.keyOf u=some a
 kind:∀(qM qN:Value)(vs:List Value),(∀v∈qM::qN::vs,∃a,Z.κ.keyOf v=some a)->keyKind' (qM::qN::vs).toArray=pure oneType'
@[reducible] def fs:iK where
 κ:=v5
 eK:=D.int
 un d:=match d with|.int i=>some i|_=>none
@[reducible] def mx:iK where
 κ:=aqp
 eK:=λl=>D.str ⟨l.toArray⟩
 un d:=match d with|.str x=>some x.cps.toList|_=>none
def N9:fs.Ok where
 one:=Zw
 uL:=λd a h=>by cases d<;>first|(cases h;rfl)|cases h
 key:=λa K mg O H v u h r=>by
  cases(show v=.int a from h);obtain⟨t,rfl⟩:=r;rfl
 kind:=λe f vs h=>by
  refine keyKind_ints (ns:=(e::f::vs).map numOf) (intsAre_map _ λv c=>?_);obtain⟨a,b⟩:=h v c;cases v<;>first|(cases b;exact⟨_,_,rfl⟩)|cases b
def aac:mx.Ok where
 one:=strKind_oneLt
 uL:=λd a h=>by cases d<;>first|(cases h;rfl)|cases h
 key:=λa K mg O H v u h r=>by
  cases(show v=.str ⟨a.toArray⟩from h);obtain⟨t,rfl⟩:=r;rfl
 kind:=λe f vs h=>by
  have key:∀(l:List Value),(∀v∈l,∃a,aqp.keyOf v=some a)->∃ss,StrsAre l ss:=λl=>by
   induction l with
   |nil=>exact λ_=>⟨[],.nil⟩
   |cons v l b=>
    intro h;obtain⟨ss,hs⟩:=b λw hw=>h w (alW _ hw)
    obtain⟨a,c⟩:=h v al2;cases v<;>first|exact⟨_::ss,.cons _ _ hs⟩|cases c
  obtain⟨ss,hs⟩:=key _ h;exact keyKind_strs hs
section
variable{β:Type}
def tn(blt:β->β->Bool)(p:β×D):List (β×D)->List (β×D)
 |[]=>[p]
 |q::r=>if blt q.1 p.1 then q::tn blt p r else p::q::r
def jV(blt:β->β->Bool):List (β×D)->List (β×D)
 |[]=>[]
 |p::r=>tn blt p (jV blt r)
theorem Et(blt:β->β->Bool)(p:β×D):∀l,(tn blt p l).Perm (p::l)
 |[]=>.refl _|q::r=>by
  unfold tn;split
  .exact((Et blt p r).cons q).trans (.swap p q r)
  .exact .refl _
theorem AO(blt:β->β->Bool):∀l,(jV blt l).Perm l
 |[]=>.refl _|p::r=>(Et blt p _).trans ((AO blt r).cons p)
end
theorem NF(O:anq)(p:O.α×D):∀l:List (O.α×D),l.Pairwise (λa b=>O.blt a.1 b.1=true)->(∀q∈l,q.1≠p.1)->(tn O.blt p l).Pairwise (λa b=>O.blt a.1 b.1=true)
 |[],_,_=>List.pairwise_singleton _ _|q::r,h,o=>by
  rw[anv]at h;unfold tn
  cases e:O.blt q.1 p.1 with
  |true=>
   rw[if_pos rfl,anv];refine⟨λx c=>?_,NF O p r h.2 λx c=>o x (alW _ c)⟩;rcases alY.mp ((Et O.blt p r).mem_iff.mp c)with rfl|c
   .exact e
   .exact h.1 x c
  |false=>
   rw[if_neg alR,anv,anv];have d:O.blt p.1 q.1=true:=by
    cases aE:O.blt p.1 q.1 with
    |true=>rfl|false=>exact absurd (O.total _ _ e aE) (o q al2)
   refine⟨λx c=>?_,h.1,h.2⟩;rcases alY.mp c with rfl|c
   .exact d
   .exact O.trans _ _ _ d (h.1 x c)
theorem Gp(O:anq):∀l:List (O.α×D),(l.map (·.1)).Nodup->(jV O.blt l).Pairwise (λa b=>O.blt a.1 b.1=true)
 |[],_=>.nil|p::r,h=>by
  rw[alZ,amK]at h;refine NF O p _ (Gp O r h.2) λq c e=>h.1 ?_
  rw[<-e];exact an7 ((AO O.blt r).mem_iff.mp c)
theorem Qf{f:Type}{lt:f->f->Prop}(g:∀a,¬lt a a)(i:∀a b c,lt a b->lt b c->lt a c):∀{d l₂:List f},d.Perm l₂->d.Pairwise lt->l₂.Pairwise lt->d=l₂
 |[],l₂,p,_,_=>(List.nil_perm.mp p).symm|a::d,[],p,_,_=>(List.nil_perm.mp p.symm)
 |a::d,b::l₂,p,o,C=>by
  rw[anv]at o C;have e:a=b:=by
   rcases alY.mp (p.mem_iff.mp al2)with h|h
   .exact h
   .rcases alY.mp (p.mem_iff.mpr al2)with h'|h'
    .exact h'.symm
    .exact(g _ (i _ _ _ (o.1 b h') (C.1 a h))).elim
  subst e;rw[Qf g i (List.Perm.cons_inv p) o.2 C.2]
def Gq(O:anq){l ps:List (O.α×D)}(e:(l.map (·.1)).Nodup)(d:ps.Perm l)(hs:ps.Pairwise (λa b=>O.blt a.1 b.1=true)):ps=jV O.blt l:=
 Qf (lt:=λa b=>O.blt a.1 b.1=true) (λa=>by rw[O.irrefl];exact alR) (λa b c=>O.trans _ _ _) (d.trans (AO O.blt l).symm) hs (Gp O l e)
def af6(O:anq){ps:List (O.α×D)}(c:(ps.map (·.1)).Nodup)(h:ps.Pairwise (λa b=>O.blt b.1 a.1=false)):ps.Pairwise (λa b=>O.blt a.1 b.1=true):=by
 induction ps with
 |nil=>exact .nil|cons p r g=>
  rw[alZ,amK]at c;rw[anv]at h ⊢;refine⟨λq d=>?_,g c.2 h.2⟩
  cases e:O.blt p.1 q.1 with
  |true=>rfl| false=>exact absurd (an7 (f:=λx:O.α×D=>x.1) d) (by rw[<-O.total _ _ e (h.1 q d)];exact c.1)
end aC
namespace aC
open PySem PySem.Spec aA PyProof.Rows
variable[aA.a4]
def n'(X:aT)(k:Nat)(f:Addr)(G:aw->Prop)(mf:bj):Prop:=
 (∀H H',ez H H'->G H->G H')/\(∀H p a o,H p=some (.l a)->G H->G (upd H p o))/\∀(A:ami)(s:alO)(H:aw)(u:Value)(v:V)(Q:cE),cB k A->lb X.prog X.w X.K X.mg X.base A X.stack s H->G H->RelV v u->e3 X.K X.mg mf [v] H Q i5->
  aow (model X.prog X.w) A (.call (.ref f) ⟨[u],[]⟩) (Ha ey X.stack X.prog X.w H s Q i5) s
def lstP(a:Addr)(e:Nat):Heap->Prop:=λh=>h.get? a=some (amO "list" #[] e)
structure qV(X:aT)(zn:cW)(U:aA.St)(G:aw->Prop)(O:a_)(H:aw)(a dB:Addr)(av:Nat)(b3:List D)(a3:alO):Prop where
 ex:∃ak H' ys,Inv X zn U H' a3/\Go O ak H H'/\dh ak H'/\G H'/\H' a=some (.ext (lstP a av))/\H' dB=some (.l ys)/\bl X.K X.mg ak H' b3 ys/\ak dB=.dn
 na:a∉O.bD
section
variable{X:aT}{zn:cW}{U:aA.St}{H:aw}{s:alO}{G:aw->Prop}{mf:bj}{f a dB:Addr}{k:Nat}{O:a_}{av:Nat}
def aaQ{h:Heap}(e:h.get? a=some (amO "list" #[] av)):iO prog w H h a (.ext (lstP a av)):=
 ⟨e,⟨_,e⟩,λb c p q=>q _ p⟩
def Me{H':aw}(J:Inv X zn U H' C)(b:H' a=some (.ext (lstP a av)))(q:Str):H' a≠some (.ext (rd a q)):=λz=>by
 obtain⟨p,_⟩:=J.cb a _ b;obtain⟨cj,_⟩:=J.cb a _ z;obtain⟨c,o,vs,t,av,aE,cX,_⟩:=cj;cases av;have p:C.heap.get? a=_:=p;rw[p]at aE;cases aE;cases cX
def Z8{m:List D}{v:V}(E:n' X k f G mf)(I:cB k X.A.in1.in1)(mn:H a=none)(mr:H dB=none)(oG:dB≠a)(dg:Rep X.K X.mg O H d v)(d9:RelV v u)(hd:(mf [d]).run []=.ok (.v o) [])(tg:m.length<64)(S:qV X zn U G O H a dB av m C) :
  wpAny (model X.prog X.w) X.A.in1.in1 (call (.ref f) [u]) (λu' s2=>∃(b:a_)(H':aw)(ys:List V)(c:V),Inv X zn U H' s2/\Go O b H H'/\dh b H'/\G H'/\H' a=some (.ext (lstP a av))/\H' dB=some (.l ys)/\bl X.K X.mg b H' m ys/\Rep X.K X.mg b H' o c/\RelV c u'/\b dB=.dn) (λ_ _=>False) C:=by
 obtain⟨p,n,ys,y,B,fl,F,N,t,W,dJ⟩:=S.ex;refine wpAny_call (aoo (E.2.2 X.A.in1.in1 C n u v (λc H'=>∃b,Go p b n H'/\dh b H'/\Rep X.K X.mg b H' o c) I y.vw.in1.in1 F d9 ?_) λr s2 i=>?_)
 .refine⟨p,[d],.v o,[],fl,fY.nil,⟨v,[],rfl,?_,rfl⟩,hd,λb c H' g Y T _=>⟨b,g,Y,T⟩⟩
  have j:=dg.go B;cases d<;>first|exact j|exact amu j|skip
  obtain⟨x,zs,q,l,r⟩:=j;exact⟨x,zs,q,l.cR,r⟩
 .cases r with
  |error e=>exact amu i|ok M=>
   cases M with
   |ret u'=>
    obtain⟨c,L,P,Q,R,h,Z,J⟩:=y.after i;exact⟨R,L,ys,c,P,B.trans h,Z,E.1 _ _ h.same F,h.same.at' _ _ N,h.same.at' _ _ t,W.go h,J,Q,(h.own dB (by rw[t];intro z;cases z)).trans dJ⟩
   |next=>exact amu i
   |brk=>exact amu i|cont=>exact amu i
def afY{Z:iK}(j9:Z.Ok){ds:List D}{c:List Z.κ.α}{xs:List V}{us:List Value}{P:Fin->alO->Prop}{E:de}(gk:n' X k f G mf)(aB:cB k X.A.in1.in1)(mn:H a=none)(mr:H dB=none)(oG:dB≠a)
  (J:bl X.K X.mg O H ds xs) (C:Vals xs us) (tg:∀(i:Nat)(d:D),ds[i]? = some d->∃κ,c[i]? = some κ/\(mf [d]).run []=.ok (.v (Z.eK κ)) []) (hlen:c.length=ds.length) (lE:ds.length<64) (S:qV X zn U G O H a dB av [] s)
  (fin:∀(q:alO)(p:Array Value),qV X zn U G O H a dB av (c.map Z.eK) q->p.toList.map Z.κ.keyOf=c.map some->wpAny (model X.prog X.w) X.A.in1.in1 (ksk_end a false us.toArray av (.ref dB) p) P E q) :
  wpAny (model X.prog X.w) X.A.in1.in1 (ksk_rest a (.ref f) false us.toArray av (.ref dB)) P E s:=by
 have aaT:=J.len;have E4:=C.length;unfold ksk_rest;refine alI (apU ?_)
 first
  |rw[List.forIn_toArray]
  |(rw[<-Array.forIn_toList];simp only[List.toList_toArray])
  |rw[<-Array.forIn_toList]
 refine alI (ksk_fold (λi q=>qV X zn U G O H a dB av ((c.take i).map Z.eK) q) us 0 s (by rw[aqi];exact S) ?step ?done)
 case step=>
  intro j u q cG B;simp only[an3]at B ⊢;have a':j<us.length:=(alK.mp cG).1;obtain⟨v,I,d9⟩:∃v,xs[j]? = some v/\RelV v u:=by
   have I:xs[j]? = some xs[j]:=al1 (by omega);obtain⟨u',zp,r⟩:=C.get I;rw[cG]at zp;cases zp;exact⟨_,I,r⟩
  obtain⟨d,hd,dg⟩:=J.MD I;obtain⟨κ,Zh,hm⟩:=tg j d hd;have hz:((c.take j).map Z.eK).length<64:=by rw[alM,amV];omega
  refine alI (wpAny_attempt (amH (Z8 gk aB mn mr oG dg d9 hm hz B) (λu' s2 he=>?_) λ_ _ kI=>kI.elim));obtain⟨W,Q,ys,fM,F,L,c_,qU,vK,m,N,R,T,Y⟩:=he
  try dsimp only
  obtain⟨gJ,its,n,g,M⟩:=F.cb dB _ m;have YF:its.length=(c.take j).length:=by rw[<-g.length,N.len,alM]
  have akR:its.length<64:=by rw[YF,amV];omega
  have s1:=amX s2.heap dB (amj (·.push u'));obtain⟨ae,jJ⟩:∃ae,(s2.heap.update dB (amj (·.push u'))).get? dB=some (amO "list" (its.toArray.push u') ae):=⟨_,aof M (·.push u')⟩;refine alI (apK M rfl ?_ (by rw[alS,ama];omega) (amq (aoE (Array.size_push ..)) (by rw[alS,ama];omega)));refine alT ⟨rfl,⟨⟨W,upd Q dB (.l (ys++[fM])),ys++[fM],?_,⟨uN mr L.same m _,L.own,L.bD⟩,c_.dY m,gk.2.1 _ _ _ _ m qU,by rw[c1 oG.symm];exact vK,dZ,?_,Y⟩,B.na⟩⟩
  .refine F.write (x:=dB) (e:=dB) (t':=s2.toks) (by rw[m];trivial) (.inl rfl) (λb o ab e=>(s1.2 b ab).trans e) ⟨_,jJ⟩ ⟨?_,its++[u'],ae,g.append (.cons T .nil),?_⟩
   .rw[alN,g.length];rw[ama];simp;omega
   .rw[jJ];simp[amO]
  .have hb:c.take (j+1)=c.take j++[κ]:=by rw[apP,Zh];rfl
   rw[hb,ane];exact(N.append (.one R)).dY (by rw[Y];intro z;cases z) m
 case done=>
  intro q B;have cX:c.take (0+us.length)=c:=am8 (by omega);rw[cX]at B;obtain⟨W,Q,ys,F,L,c_,qU,vK,m,N,Y⟩:=id B.ex;obtain⟨gJ,its,n,g,M⟩:=F.cb dB _ m;refine alI (listItems_at M rfl ?_);refine fin q its.toArray B ?_;have key:∀(c:List Z.κ.α)(ys:List V)(its:List Value),bl X.K X.mg W Q (c.map Z.eK) ys->Vals ys its->its.map Z.κ.keyOf=c.map some:=by
   intro c
   induction c with
   |nil=>intro ys its h r;cases h;cases r;rfl
   |cons κ c aP=>
    intro ys its h r;obtain⟨y,t,rfl,ag,ah⟩:=h
    cases r with
    |cons bC cc=>
     rw[alZ,alZ,aP _ _ ah cc,j9.key κ _ _ _ _ _ _ ag bC]
  exact key _ _ _ N g
end
end aC
namespace aC
open PySem PySem.Spec aA PyProof.Rows
def aer{α b:Type}(f:α->b):∀{L M:List b},L.Perm M->∀{Q:List α},M=Q.map f->∃a:List α,a.Perm Q/\L=a.map f:=by
 intro L M h
 induction h with
 |nil=>
  intro Q e
  cases Q with
  |nil=>exact⟨[],.refl _,rfl⟩|cons q Q=>cases e
 |cons x _ d=>
  intro Q e
  cases Q with
  |nil=>cases e
  |cons q Q=>
   rw[alZ]at e;injection e with av aE
   obtain⟨a,p,cX⟩:=d aE;exact⟨q::a,p.cons q,by rw[av,cX];rfl⟩
 |swap x y l=>
  intro Q e
  cases Q with
  |nil=>cases e
  |cons q Q=>
   cases Q with
   |nil=>rw[alZ]at e;injection e with _ aE;cases aE
   |cons r Q=>
    rw[alZ,alZ]at e;injection e with av aE
    injection aE with aE cX
    exact⟨r::q::Q,.swap _ _ _,by rw[av,aE,cX];rfl⟩
 |trans _ _ j i=>
  intro Q e;obtain⟨g,p1,av⟩:=i e;obtain⟨c,cj,aE⟩:=j av;exact⟨c,cj.trans p1,aE⟩
variable[aA.a4]
abbrev ye(Z:iK):=(Value×Value)×(Z.κ.α×(D×V))
section
variable{K:aN}{mg:bo}{O:a_}{H:aw}{Z:iK}
def ae7{ds:List D}:∀{xs:List V}{us a:List Value}{b:List Z.κ.α},bl K mg O H ds xs->Vals xs us->a.map Z.κ.keyOf=b.map some->b.length=ds.length->
  ∃Q:List (ye Z),Q.map (·.1)=a.zip us/\Q.map (λq=>(q.2.1,q.2.2.1))=b.zip ds/\∀q∈Q,Z.κ.keyOf q.1.1=some q.2.1/\Rep K mg O H q.2.2.1 q.2.2.2/\RelV q.2.2.2 q.1.2:=by
 induction ds with
 |nil=>
  intro xs us a b h r e l;cases h;cases r;rw[an9.mp l]at e ⊢;have:a=[]:=by cases a with|nil=>rfl|cons=>cases e
  subst this;exact⟨[],rfl,rfl,λ_ h=>(nomatch h)⟩
 |cons d ds f=>
  intro xs us a b h r e l;obtain⟨x,t,rfl,g,i⟩:=h
  cases r with
  |@cons _ u _ us j k=>
   cases b with
   |nil=>cases l
   |cons κ b=>
    cases a with
    |nil=>cases e
    |cons kv a=>
     rw[alZ,alZ]at e;injection e with av aE
     obtain⟨Q,bq,bO,m⟩:=f i k aE (by simpa using l);refine⟨((kv,u),(κ,(d,x)))::Q,?_,?_,λq c=>?_⟩
     .rw[alZ,bq];rfl
     .rw[alZ,bO];rfl
     .rcases alY.mp c with rfl|c
      .exact⟨av,g,j⟩
      .exact m q c
theorem Qb{α:Type}(f:α->D)(g:α->V):∀l:List α,(∀q∈l,Rep K mg O H (f q) (g q))->bl K mg O H (l.map f) (l.map g)
 |[],_=>rfl|q::l,h=>⟨_,_,rfl,h q al2,Qb f g l λx a=>h x (alW _ a)⟩
omit [aA.a4]in
theorem QY{α:Type}(f:α->V)(g:α->Value):∀l:List α,(∀q∈l,RelV (f q) (g q))->Vals (l.map f) (l.map g)
 |[],_=>.nil|q::l,h=>.cons (h q al2) (QY f g l λx a=>h x (alW _ a))
def sorted_out{ds:List D}{xs:List V}{us:List Value}{e:Array Value}{g:List Z.κ.α}(G:bl K mg O H ds xs)(F:Vals xs us)(E:e.toList.map Z.κ.keyOf=g.map some)(hl:g.length=ds.length)(w:g.Nodup)
  {c:Array Keyed}(B:c.Perm (e.zip us.toArray)) (hs:SortedToK Z.κ c c.size) :
  ∃ys,Vals ys (c.map (·.2)).toList/\ys.length=ds.length/\bl K mg O H ((jV Z.κ.blt (g.zip ds)).map (·.2)) ys:=by
 obtain⟨Q,bq,bO,I⟩:=ae7 G F E hl;have y:c.toList.Perm (Q.map (·.1)):=by
  rw[bq,<-ksk_zip];exact Array.perm_iff_toList_perm.mp B
 obtain⟨d,r,n⟩:=aer (λq:ye Z=>q.1) y rfl;have k:∀q∈d,Z.κ.keyOf q.1.1=some q.2.1/\Rep K mg O H q.2.2.1 q.2.2.2/\RelV q.2.2.2 q.1.2:=λq h=>I q (r.mem_iff.mp h)
 have x:(g.zip ds).map (·.1)=g:=by rw[List.map_fst_zip];omega
 have f:(d.map λq=>(q.2.1,q.2.2.1)).Perm (g.zip ds):=by rw[<-bO];exact r.map _
 have fC:((d.map λq:ye Z=>(q.2.1,q.2.2.1)).map (·.1)).Nodup:=by
  have:=f.map (λp:Z.κ.α×D=>p.1);rw[x]at this;exact this.nodup_iff.mpr w
 have l:(d.map λq:ye Z=>(q.2.1,q.2.2.1)).Pairwise (λa b=>Z.κ.blt b.1 a.1=false):=by
  rw[aom,List.pairwise_iff_getElem];intro i j hi A z;have u:c.toList.length=d.length:=by rw[n,alM]
  have L:i<c.size:=by rw[amA]at u;omega
  have t:j<c.size:=by rw[amA]at u;omega
  have:=hs i j (anr z) t;have at':∀(m:Nat)(s:m<d.length)(M:m<c.size),KK Z.κ c m=d[m].2.1:=λm s M=>by
   have av:c[m]? = some d[m].1:=by
    have:c.toList[m]? = some d[m].1:=by rw[n,al4,al1 s];rfl
    rwa[aoq]at this
   unfold KK;rw[av];show(Z.κ.keyOf d[m].1.1).getD Z.κ.dflt=_;rw[(k _ (anK s)).1];rfl
  rw[at' i hi L,at' j A t]at this;exact this
 have one:=Gq Z.κ.toKeyOrd (by rw[x];exact w) f (af6 Z.κ.toKeyOrd fC l);refine⟨d.map λq=>q.2.2.2,?_,?_,?_⟩
 .have:(c.map (·.2)).toList=d.map λq=>q.1.2:=by
   rw[Array.toList_map,n,anM];rfl
  rw[this];exact QY _ _ _ λq h=>(k q h).2.2
 .rw[alM,r.length_eq]
  have:=congrArg anz bO;rw[alM,List.length_zip,hl,Nat.min_self]at this;exact this
 .rw[<-one,anM]
  exact Qb _ _ _ λq h=>(k q h).2.1
end
section
variable{X:aT}{zn:cW}{U:aA.St}{H:aw}{s:alO}{G:aw->Prop}{a dB:Addr}{O:a_}{av:Nat}{Z:iK}{ds:List D}{cz:List Z.κ.α}{xs:List V}{us:List Value}{E:de}{keys:Array Value}
def BQ(X:aT)(zn:cW)(U:aA.St)(O:a_)(H:aw)(a:Addr)(out:List D)(c:alO):Prop:=
 ∃b H' ys,Inv X zn U H' c/\Go O b H H'/\dh b H'/\H' a=some (.l ys)/\b a=.dn/\bl X.K X.mg b H' out ys
def Qy{A:ami}{st:SortSt}(B:H a=none)(mr:H dB=none)(Q:dB≠a)(bx:bl X.K X.mg O H ds xs)(bN:Vals xs us)(au:keys.toList.map Z.κ.keyOf=cz.map some)(hl:cz.length=ds.length)(az:cz.Nodup)(lE:ds.length<64)
  (S:qV X zn U G O H a dB av (cz.map Z.eK) s) (C:(arrOf st).Perm (keys.zip us.toArray)) (hs:SortedToK Z.κ (arrOf st) (arrOf st).size) (W:failedOf st=none) :
  wpAny (model X.prog X.w) A (ksk_tail a false av (.ref dB) st) (λr Y=>r=.done (.ret .none)/\BQ X zn U O H a ((jV Z.κ.blt (cz.zip ds)).map (·.2)) Y) E s:=by
 obtain⟨M,h,alF,t,j,i,qU,T,k,uu,uh⟩:=S.ex;obtain⟨_,its,n,f,N⟩:=t.cb dB _ k;have V:s.heap.get? a=some (amO "list" #[] av):=(t.cb a _ T).1;obtain⟨D,I,mW,q⟩:=sorted_out bx bN au hl az C hs;have gJ:(arrOf st).size=ds.length:=by
  have ag:=I.length;have ah:((arrOf st).map (·.2)).toList.length=(arrOf st).size:=by rw[amA,Array.size_map]
  omega
 have J:its.length=ds.length:=by rw[<-f.length,uu.len,alM,hl]
 have R:=amX s.heap dB (amj λ_=>(#[]:Array Value));obtain⟨bf,F⟩:∃bf,(s.heap.update dB (amj λ_=>(#[]:Array Value))).get? dB=some (amO "list" #[] bf):=⟨_,aof N λ_=>#[]⟩;have p:(s.heap.update dB (amj λ_=>(#[]:Array Value))).get? a=some (amO "list" #[] av):=(R.2 a Q.symm).trans V;have u:Inv X zn U (upd h dB (.l [])) { s with heap:=s.heap.update dB (amj λ_=>(#[]:Array Value)) }:=
  t.write (x:=dB) (e:=dB) (t':=s.toks) (by rw[k];trivial) (.inl rfl) (λb o c e=>(R.2 b c).trans e) ⟨_,F⟩ ⟨amt _,[],bf,.nil,F⟩
 have s2:=amX (s.heap.update dB (amj λ_=>(#[]:Array Value))) a (amj λ_=>(arrOf st).map (·.2));obtain⟨ae,P⟩:∃ae,((s.heap.update dB (amj λ_=>(#[]:Array Value))).update a (amj λ_=>(arrOf st).map (·.2))).get? a=some (amO "list" ((arrOf st).map (·.2)) ae):=⟨_,aof p λ_=>(arrOf st).map (·.2)⟩;have d:upd h dB (.l []) a=some (.ext (lstP a av)):=by rw[c1 Q.symm];exact T
 unfold ksk_tail
 try dsimp only
 simp only[aoH,if_false];refine alI (apK N rfl ?_ (by rw[alS,ama];omega) (amt _));refine alI (aok ?_);refine alI (seqEpoch_at p rfl ?_);refine alI (apK p rfl ?_ (amt _) (amq (aoE (Array.size_map ..)) (by rw[gJ,ama];omega)));rw[W];simp only[bne_self_eq_false,aoH,if_false];have same:ez H (upd (upd h dB (.l [])) a (.l D)):=by
  have y:=uN mr j.same k (.l []);refine⟨λb o e n=>by rw[c1 (kV e B)];exact y.at' b o e n,λb ps e=>by rw[c1 (kV e B)];exact y.cJ b ps e,λg=>?_⟩;exact(y.bY g).put _ (λps=>by rw[d];intro z;cases z) (Me u d)
 have go:Go O (fV M a .dn) H (upd (upd h dB (.l [])) a (.l D)):=⟨same,λb c=>by
  rw[pC (by rintro rfl;exact c B)];exact j.own b c,j.bD⟩
 refine alT ⟨rfl,fV M a .dn,_,D,?_,go,⟨λb c=>?_,?_,i.b9.1,λb m=>by rw[pC (by rintro rfl;exact S.na (j.bD▸m))];exact i.b9.2 b m⟩,dZ,lU,q.go go⟩
 .refine u.write (x:=a) (e:=a) (t':=s.toks) (by rw[d];trivial) (.inl rfl) (λb o c e=>(s2.2 b c).trans e) ⟨_,P⟩ ⟨?_,_,ae,I,?_⟩
  .rw[mW,ama];omega
  .rw[P,apb]
 .by_cases e:b=a
  .rw[e,dZ];intro z;cases z
  .rw[c1 e]
   rw[pC e]at c
   by_cases L:b=dB
   .rw[L,dZ];intro z;cases z
   .rw[c1 L];exact i.has b c
 .exact(i.tabs.l k _).put _ (λps=>by rw[d];intro z;cases z) (Me u d)
def afW{A:ami}(t:Z.Ok)(u:H a=none)(x:H dB=none)(y:dB≠a)(l:bl X.K X.mg O H ds xs)(h:Vals xs us)(f:keys.toList.map Z.κ.keyOf=cz.map some)(hl:cz.length=ds.length)(q:cz.Nodup)(m:ds.length<64)
    (S:qV X zn U G O H a dB av (cz.map Z.eK) s) :
    wpAny (model X.prog X.w) A (ksk_end a false us.toArray av (.ref dB) keys) (λr n=>r=.done (.ret .none)/\BQ X zn U O H a ((jV Z.κ.blt (cz.zip ds)).map (·.2)) n) E s:=by
  have F:us.length=ds.length:=by rw[<-h.length,l.len]
  have V:keys.size=ds.length:=by
    have:=congrArg anz f;rw[alM,alM,amA]at this;omega
  have g:(keys.zip us.toArray).size=ds.length:=by rw[Array.size_zip,V,alS,F,Nat.min_self]
  have D:∀v∈keys.toList,∃κ,Z.κ.keyOf v=some κ:=λv k=>by
    have:Z.κ.keyOf v∈cz.map some:=by rw[<-f];exact an7 k
    obtain⟨κ,_,e⟩:=amd.mp this;exact⟨κ,e.symm⟩
  unfold ksk_end
  try dsimp only
  simp only[aoH,if_false]
  by_cases b:us.toArray.size<2
  · rw[if_pos b,if_pos b]
    refine alI (alT ?_);rw[StateT.run_pure];refine alI (alT ?_)
    try dsimp only
    refine Qy (st:=SortSt.mk' general' (keys.zip us.toArray) #[] 7 none) u x y l h f hl q m S (Array.Perm.refl _) ?_ rfl;intro i j W M;have I:j<(keys.zip us.toArray).size:=M;rw[g]at I;rw[alS]at b;have:i=j:=by omega
    subst this;exact PyProof.Rows.KeyOrd.kle_refl _
  · rw[if_neg b,if_neg b]
    rw[alS]at b;have L:2<=(keys.zip us.toArray).size:=by
      have Y:2<=us.length:=Nat.le_of_not_lt b;rw[g];omega
    have T:keyKind' keys=pure oneType':=by
      cases e:keys.toList with
      |nil=>
               have N:keys.size=0:=by rw[<-amA,e];rfl
               omega
      |cons z r=>
        cases r with
        |nil=>
                 have N:keys.size=1:=by rw[<-amA,e];rfl
                 omega
        |cons B r=>
          have P:keys=(z::B::r).toArray:=by rw[<-e,apb]
          rw[P];exact t.kind z B r λv k=>D v (by rw[e];exact k)
    rw[T];refine alI (alT ?_);refine alI (amH (wpS_sortRunsK (κ:=Z.κ) t.one (a₀:=keys.zip us.toArray) (st:=SortSt.mk' oneType' (keys.zip us.toArray) #[] 7 none)
      (Q:=λ_ d=>(arrOf d).Perm (keys.zip us.toArray)/\failedOf d=none/\SortedToK Z.κ (arrOf d) (keys.zip us.toArray).size)
      (λp c=>?_) ⟨Array.Perm.refl _,rfl,rfl,rfl⟩ L (by rw[g];exact m) λd a1 a2 fI=>⟨a1,a2,fI⟩) ?_ λ_ _ e=>e)
    · rw[ksk_zip]at c
      exact D _ (aox c).1
    rintro⟨⟨⟩,d⟩ n ⟨rfl,c,R,hs⟩
    try dsimp only
    exact Qy u x y l h f hl q m S c (by rw[c.size_eq];exact hs) R
end
end aC
namespace aC
open PySem PySem.Spec aA PyProof.Rows
variable[aA.a4]
section
variable{X:aT}{zn:cW}{U:aA.St}{H:aw}{s:alO}{G:aw->Prop}{mf:bj}{f l:Addr}{k:Nat}{O:a_}{Z:iK}{ds:List D}{cz:List Z.κ.α}{xs:List V}{E:de}
def afV(S:Z.Ok)(J:Inv X zn U H s)(y:dh O H)(t:bl X.K X.mg O H ds xs)(fo:dq X.K H l xs)(R:n' X k f G mf)(qa:G H)(aB:cB (k+2) X.A)
  (tg:∀(i:Nat)(d:D),ds[i]? = some d->∃κ,cz[i]? = some κ/\(mf [d]).run []=.ok (.v (Z.eK κ)) []) (c:cz.length=ds.length) (az:cz.Nodup) (V:ds.length<64) :
  wpAny (model X.prog X.w) X.A (call (.builtin "sorted") [.ref l] [(al3 "key",.ref f)]) (λu F=>∃a,u=.ref a/\H a=none/\BQ X zn U O H a ((jV Z.κ.blt (cz.zip ds)).map (·.2)) F) E s:=by
 obtain⟨us,p,pl,_⟩:=J.list fo;have hl:s.heap.IsList l us.toArray:=pl.isList;have E4:us.length=ds.length:=by rw[<-p.length,t.len]
 have g:H (s.heap.objs.size+1)=none:=J.cb.fresh (apx _);refine call_function_entry_kw kind_sorted plain_sorted entry_sorted (ksk_s1 _ _) ?_;unfold apr.«sorted»;refine alI (m:=checkCount "sorted" 1 1 _) (alT ?_);refine alI (collect_list hl ?_ (by rw[ama];omega));refine alI (wpAny_newList ?_ (by rw[ama];omega));have M:((s.heap.push (amO "list" #[] 0)).update s.heap.objs.size (amj (·++us.toArray))).objs.size=s.heap.objs.size+1:=by
  rw[Heap.size_update,size_push']
 have j:(((s.heap.push (amO "list" #[] 0)).update s.heap.objs.size (amj (·++us.toArray))).push (amO "list" us.toArray 0)).get? (s.heap.objs.size+1)=some (amO "list" us.toArray 0):=by
  rw[<-M];exact alV _ rfl
 have keep:∀b o,s.heap.get? b=some o->(((s.heap.push (amO "list" #[] 0)).update s.heap.objs.size (amj (·++us.toArray))).push (amO "list" us.toArray 0)).get? b=some o:=λb o q=>by
  have L:b<s.heap.objs.size:=alX q;rw[Heap.get?_push_ne _ _ _ (by rw[M];exact amo (Nat.lt_succ_of_lt L)),Heap.get?_update_ne _ _ _ _ (amo L),Heap.get?_push_ne _ _ _ (amo L)];exact q
 have bg:Inv X zn U (upd H (s.heap.objs.size+1) (.l xs)) { s with heap:=((s.heap.push (amO "list" #[] 0)).update s.heap.objs.size (amj (·++us.toArray))).push (amO "list" us.toArray 0) }:=
  J.laid (t':=s.toks) keep (apx _) ⟨by rw[t.len,ama];omega,us,0,p,j⟩
 have V2:Go O O H (upd H (s.heap.objs.size+1) (.l xs)):=Go.ho g;have ai6:dh O (upd H (s.heap.objs.size+1) (.l xs)):=y.same V2.same;show wpAny _ _ _ _ _ { s with heap:=((s.heap.push (amO "list" #[] 0)).update s.heap.objs.size (amj (·++us.toArray))).push (amO "list" us.toArray 0) };rw[M];refine alI (anh (wpAny_call_entry_kw slot_list_sort ⟨_,j,rfl⟩ entry_list_sort ?body (ksk_l1 _ _)))
 case body=>
  show wpAny (model X.prog X.w) X.A.in1.in1 (apr.«list.sort» ⟨[.ref (s.heap.objs.size+1)],[(al3 "key",.ref f)]⟩) _ _ _;rw[ksk_t1];generalize h7:s.heap.objs.size+1=a at *;generalize((s.heap.push (amO "list" #[] 0)).update s.heap.objs.size (amj (·++us.toArray))).push (amO "list" us.toArray 0)=ag at *;have s1:=amX ag a (amj λ_=>(#[]:Array Value));obtain⟨av,B⟩:∃av,(ag.update a (amj λ_=>(#[]:Array Value))).get? a=some (amO "list" #[] av):=⟨_,aof j λ_=>#[]⟩;have P:Inv X zn U (upd (upd H a (.l xs)) a (.ext (lstP a av))) { s with heap:=ag.update a (amj λ_=>(#[]:Array Value)) }:=
   bg.write (x:=a) (e:=a) (t':=s.toks) (by rw[dZ];trivial) (.inl rfl) (λb o ab e=>(s1.2 b ab).trans e) ⟨_,B⟩ (aaQ B)
  rw[ahd]at P;unfold ksk_tree;refine alI (listItems_at j rfl ?_);refine alI (apK j rfl ?_ (by rw[alS,ama];omega) (amt _));refine alI (seqEpoch_at B rfl ?_);refine alI (wpAny_newTuple ?_ (by show us.length<=_;rw[ama];omega));refine alI (wpAny_newList ?_ (amt _));refine anh ?_;have Q:Inv X zn U (upd H a (.ext (lstP a av))) { s with heap:=(ag.update a (amj λ_=>(#[]:Array Value))).push (amO "tuple" us.toArray 0) }:=
   P.kept (t':=s.toks) λb o e=>alL _ e
  generalize akQ:(ag.update a (amj λ_=>(#[]:Array Value))).push (amO "tuple" us.toArray 0)=C at *;have h:upd H a (.ext (lstP a av)) C.objs.size=none:=Q.cb.fresh (alQ _);have n:C.objs.size≠a:=by
   intro z;rw[z,dZ]at h;cases h
  have W:H C.objs.size=none:=by rw[c1 n]at h;exact h
  have j0:Inv X zn U (upd (upd H a (.ext (lstP a av))) C.objs.size (.l [])) { s with heap:=C.push (amO "list" #[] 0) }:=
   Q.laid (t':=s.toks) (λb o e=>alL _ e) (alQ _) ⟨amt _,[],0,.nil,alV _ rfl⟩
  have N:Go O (fV O C.objs.size .dn) H (upd (upd H a (.ext (lstP a av))) C.objs.size (.l [])):=(Go.ho g).trans (Go.new h);have UN:dh (fV O C.objs.size .dn) (upd (upd H a (.ext (lstP a av))) C.objs.size (.l [])):=(y.same (Go.ho (O:=O) g).same).new h;have Y:qV X zn U G O H a C.objs.size av [] { s with heap:=C.push (amO "list" #[] 0) }:=
   ⟨⟨fV O C.objs.size .dn,_,[],j0,N,UN,R.1 _ _ N.same qa,by rw[c1 n.symm];exact dZ,dZ,rfl,lU⟩,λm=>y.has a (by rw[y.b9.2 a m];intro z;cases z) g⟩
  refine amH (afY (E:=E) S R (aB.in1.in1) g W n t p tg c V Y λF T aq YL=>afW S g W n t p YL c az V aq) (λr F I=>?_) λ_ _ e=>e
  obtain⟨rfl,I⟩:=I;exact⟨_,rfl,alT ⟨_,rfl,a,rfl,g,I⟩⟩
end
structure pU(K:aN)(c P:Addr)(q:Str):Prop where
 hd:∀h,K.In h->W.CodeHd h c P
 il:a4.il P
 ur:a4.ur P=q
structure iI(base:Heap)(mg:bo):Prop where
 ex:∃bm o,mg (al3 "__builtins__")=some (amI bm)/\bm≠apR/\bm≠aml/\base.get? bm=some o/\o.cls=aql "module"/\o.dict=some apR/\o.data=Data.plain
def FC(f:Addr)(a8:Obj):Heap->Prop:=λh=>h.get? f=some a8
def m8(f c:Addr)(q:Str)(a8:Obj):aw->Prop:=λH=>H f=some (.ext (FC f a8))/\H c=some (.ext (rd c q))
def m8.mono(H H':aw)(s:ez H H')(g:m8 f c q a8 H):m8 f c q a8 H':=⟨s.at' _ _ g.1,s.at' _ _ g.2⟩
def m8.upd(H:aw)(p:Addr)(a:List V)(o:gG)(h:H p=some (.l a))(g:m8 f c q a8 H):m8 f c q a8 (upd H p o):=
 ⟨by rw[c1 (by rintro rfl;have:=g.1;rw[h]at this;cases this)];exact g.1,by rw[c1 (by rintro rfl;have:=g.2;rw[h]at this;cases this)];exact g.2⟩
def Vq{K:aN}{mg:bo}{N ps:List Str}{m:bt}{vs:List V}{H:aw}{Q:cE}(h:e3 K mg (fnOf ps.length N.length (a0 m)) vs H Q i5):fL K mg m (aA.start N vs) H Q:=by
 obtain⟨O,ds,r,S,k,dQ,F,h,q⟩:=h;have hl:=yY h;unfold fnOf at h;rw[if_pos hl]at h;obtain⟨I,S1,B,h⟩:=M.inv h;have G:=Gv (N:=N) k dQ F hl;obtain⟨u,A,D,n⟩:=M.inv B;refine⟨d2 O,_,S,u,A,G,D,λj v H' g x w nn=>?_⟩
 let i:a_:=⟨λb=>match H b with|some _=>O b|none=>j b,O.bD⟩
 have s:∀b,H b≠none->i b=O b:=λb c=>by
  show(match H b with|some _=>O b|none=>j b)=O b
  cases e:H b with
  |none=>exact absurd e c|some o=>rfl
 have p:∀b,H b=none->i b=j b:=λb c=>by
  show(match H b with|some _=>O b|none=>j b)=j b;rw[c]
 have c8:l5 j i:=⟨λb c=>by
  by_cases f:H b=none
  .rw[p b f];exact c
  .rw[s b f];exact og.mp ((g.own b f).symm.trans c),g.bD.symm⟩
 have go:Go O i H H':=⟨g.same,λb c=>s b c,rfl⟩;have ck:dh i H':=⟨λb c=>by
  by_cases f:H b=none
  .rw[p b f]at c;exact x.ck.has b c
  .exact g.same.some f,x.ck.tabs,k.b9.1,λb m=>(s b (k.has b (by rw[k.b9.2 b m];intro z;cases z))).trans (k.b9.2 b m)⟩
 cases u with
 |v d=>
  cases n;cases h;exact q i v H' go ck (Rep.c8 c8 w) trivial
 |fr y=>
  cases n;cases h;obtain⟨a,ys,rfl,l,t,E⟩:=w;have f:=nn a rfl;exact q i _ H' go ck ⟨a,ys,rfl,l,(p a f).trans t,E.c8 c8⟩ nn
 |b4 y=>cases n
 |mv y=>cases n
section
variable{X:aT}{k:Nat}{f c:Addr}{name q:Str}{params:aoF}{body:Expr}{scope:Scope}{pm gT:Value}{N ps:List Str}{m:bt}
theorem Oj{p1:Str}(a:gP N [p1] scope)(O:∀(u:Value),an0 (W.kla_fn name q params body scope [] pm (.ref c) gT) ⟨[u],[]⟩=pure [(p1,u)])
  (B:∀(A:ami)(s:alO)(H:aw),cB k (A.deeper (aop q scope s.heap.objs.size f (.ref c)))->hy (gU ey X.prog X.w X.K X.mg X.base N q scope f (.ref c) A X.stack s H i5).gB body m) :
  n' X (k+1) f (m8 f c q (W.kla_obj name q params body scope [] pm c gT)) (fnOf 1 N.length (a0 m)):=by
 refine⟨m8.mono,m8.upd,λA s H u v Q i d g E L=>?_⟩;obtain⟨G,_⟩:=d.cb f _ g.1;obtain⟨I,_⟩:=d.cb c _ g.2;have j:s.heap.NoLimit:=d.mod.nolimit.keeps λb o e=>(d.bs b o e).1
 have p:∀y∈[p1].zip [u],scope.names.lookup y.1=some .local\/(scope.names.lookup y.1=some .cell/\((cellsFrom (s.heap.objs.size+1) scope.names []).lookup y.1).isSome=true):=λt z=>by
  obtain⟨n,v⟩:=t;rcases a.par n (aox z).1 with q|q
  .exact .inl q
  .exact .inr ⟨q,ap1 _ _ _ (.inl q)⟩
 refine W.kla_callFunE i.depth G rfl a.co a.gen rfl I ?_;rw[O];refine alT ?_;refine wpAny_newFunctionEnv_cells a.kind p λenv he l x=>?_
 subst he;refine⟨j.keeps x.toInCall.keep,W.kla_codeExpr ?_⟩;have J:Inv (gU ey X.prog X.w X.K X.mg X.base N q scope f (.ref c) A X.stack s H i5) [] (aA.start N [v]) H l:=NG a i.hd d rfl (.cons E .nil) x;refine amH ((b1.gB (B A s H (i.deeper _))) [] l (aA.start N [v]) H _ J (Vq (ps:=[p1]) L)) (λu' r hs=>?_) λe r hs=>hs
 obtain⟨F,H',h,D,M⟩:=hs;exact⟨F,H',h.os,h.bare,h.base,h.cb,D,M⟩
end
end aC
namespace aC
open PySem PySem.Spec aA PyProof.Rows
theorem QM{a b:Int}:∀l:List Value,aqa l->aqa (l++[anS a,anS b,c])
 |[],_=>trivial|.int _ _::.int _ _::_::rest,h=>QM rest h
theorem Hx{pos e:Pos}:∀l:List Value,aqa l->ao4 e (l++[anS pos.line,anS pos.col,c])=some o->ao4 e l=some o\/o=c
 |[],_,h=>by
  right;have h:(if((pos.line:Int)==e.line&&(pos.col:Int)==e.col)=true then some c else none)=some o:=h;split at h
  .cases h;rfl
  .cases h
 |.int a _::.int b _::d::rest,t,h=>by
  have h:(if(a==e.line&&b==e.col)=true then some d else ao4 e (rest++[anS pos.line,anS pos.col,c]))=some o:=h;show(if(a==e.line&&b==e.col)=true then some d else ao4 e rest)=some o\/_;split at h
  .rename_i f;rw[if_pos f];exact .inl h
  .rename_i f;rw[if_neg f];exact Hx rest t h
variable[aA.a4]
section
variable{X:aT}{zn:cW}{U:aA.St}{H:aw}{s:alO}{O:a_}{c P:Addr}{q:Str}{params:aoF}{body:Expr}{scope:Scope}{pos:Pos}
def Oi(J:Inv X zn U H s)(cV:dh O H)(L:pU X.K c P q)(B:iI X.base X.mg)(nD:X.env.code=.ref c)(a5:X.env.qual++al3 "<lambda>"=q)(oI:apV params X.env=([],[]))(nC:aoe scope X.env=pure []) :
  wpAny (model X.prog X.w) X.A (eval (.Lambda params body scope pos) X.env) (λu a3=>∃(f c':Addr)(pm E:Value)(H':aw),u=.ref f/\Inv X zn U H' a3/\Go O O H H'/\dh O H'/\m8 f c' q (W.kla_obj (al3 "<lambda>") q params body scope [] pm c' E) H') X.dH s:=by
 obtain⟨ps,i,Q,V⟩:=cV.tabs P L.il;rw[L.ur]at V;have Mx:s.heap.get? P=some (W.tabObj ps):=J.cb P _ i;have Jo:∀b o,X.base.get? b=some o->b≠P:=λb o e z=>by
  subst z;have:=(J.bs b o e).2;rw[i]at this;cases this
 have qc:s.heap.Ns aml X.mg:=J.mod.glob.keeps J.bk;have YB:aml≠P:=by
  obtain⟨o,ay,cm,e,_⟩:=J.mod.glob;exact Jo _ _ e
 have nB:s.heap.BuiltinsAt X.mg P:=by
  obtain⟨bm,o,b6,cw,g8,hI,jA⟩:=B.ex;exact⟨bm,o,b6,cw,g8,Jo _ _ hI,J.bk _ _ hI,jA⟩
 have C:=L.hd _ J.f3;refine W.kla_eval oI ?_;rw[a5]
 cases ha:ao4 pos ps.toList with
 |some F=>
  obtain⟨c',rfl,rK⟩:=V pos F ha;refine W.kla_makeFunctionHit nC J.ok.glob qc nD C Mx Q ha nB λE h' tk au gJ=>?_
  have M:H h'.objs.size=none:=J.cb.fresh gJ;have go:Go O O H (upd H h'.objs.size (.ext (FC h'.objs.size (W.kla_obj (al3 "<lambda>") q params body scope [] ((X.mg (al3 "__name__")).getD .none) c' E)))):=Go.ho M;refine⟨h'.objs.size,c',_,E,_,rfl,J.laid (t':=tk) (λb o e=>alL _ (au b o e)) gJ ?_,go,cV.same go.same,dZ,go.same.at' _ _ rK⟩;exact⟨alV _ rfl,⟨_,alV _ rfl⟩,λy a p r=>r _ p⟩
 |none=>
  refine W.kla_makeFunction nC J.ok.glob qc nD C Mx Q ha YB nB λc' E h' tk I M8 eQ Ec Nv=>?_
  have Nh:H c'=none:=J.cb.fresh M8;have Y:c'≠P:=(kV i Nh).symm
  let N:=ps++#[anS pos.line,anS pos.col,.ref c']
  let m:=upd (upd H P (.f' N)) c' (.ext (rd c' q))
  have k:∀{b:Addr},b≠P->b≠c'->m b=H b:=λy a=>by show upd _ _ _ _=_;rw[c1 a,c1 y]
  have R:m P=some (.f' N):=by show upd _ _ _ _=_;rw[c1 Y.symm];exact dZ
  have T:m c'=some (.ext (rd c' q)):=dZ;have acM:∀{b:Addr}{o:Obj},s.heap.get? b=some o->b≠c':=λe=>amo (amn (alX e) M8)
  have x:∀{b:Addr}{o:gG},H b=some o->b≠c':=λe=>kV e Nh
  have un:gH X.aS [] H m s.heap h':=by
   refine⟨λb o e n _ _=>I b o (by rintro rfl;rw[i]at n;cases n) e,λb o e n _ _=>⟨o.slots,I b o (by rintro rfl;rw[i]at n;cases n) e⟩,
    λb o e n _=>by rw[k (by rintro rfl;rw[i]at n;cases n) (acM e)];exact n,λb o e _=>?_,λb xs e=>?_,λb o u e=>?_,λb S e=>?_⟩
   .by_cases l:b=P
    .rw[l];exact⟨_,Nv⟩
    .exact⟨o,I b o l e⟩
   .rw[k (by rintro rfl;rw[i]at e;cases e) (x e)];exact e
   .rw[k (by rintro rfl;rw[i]at e;cases e) (x e)];exact e
   .by_cases l:b=P
    .subst l
     rw[i]at e;cases e;exact⟨_,R⟩
    .exact⟨#[],by rw[k l (x e),e];simp⟩
  have cb:gb X.prog X.w m h':=λb u e=>by
   by_cases y:b=c'
   .subst y
    rw[T]at e;cases e;obtain⟨ae,cS,vs,t,gF,eC,xT,Bu⟩:=Ec;cases gF;exact⟨⟨_,cS,vs,t,rfl,eC,xT,Bu⟩,⟨_,eC⟩,λy a aV r=>by obtain⟨fA,Z,ahg,t3,aij,aik,ail,aim⟩:=aV;cases aij;exact⟨_,Z,ahg,t3,rfl,r _ aik,ail,aim⟩⟩
   .by_cases a:b=P
    .subst a
     rw[R]at e;cases e;exact Nv
    .rw[k a y]at e
     refine(J.cb b u e).sg (λd o hd jE=>I d o (λz=>?_) jE) (λd D=>?_) λd xs D=>?_
     .rcases hd with rfl|hd
      .exact a z
      .rw[z,i]at hd;cases hd
     .rw[k (by rintro rfl;rw[i]at D;cases D) (x D)];exact D
     .rw[k (by rintro rfl;rw[i]at D;cases D) (x D)];exact D
  have bg:Inv X zn U m { s with heap:=h',toks:=tk }:=J.un (t':=tk) un cb;have M:m h'.objs.size=none:=cb.fresh (alQ _);have afE:ez H m:=by
   refine⟨λb o e n=>by rw[k (by rintro rfl;rw[i]at e;cases e;exact n) (x e)];exact e,λb S e=>?_,λg q1 Wo=>?_⟩
   .by_cases l:b=P
    .exact⟨N,by rw[l];exact R⟩
    .exact⟨S,by rw[k l (x e)];exact e⟩
   .obtain⟨S,av,aE,cX⟩:=g q1 Wo
    by_cases l:q1=P
    .subst l
     refine⟨N,R,?_,λj F G=>?_⟩
     .show aqa (ps++#[anS pos.line,anS pos.col,.ref c']).toList
      rw[Array.toList_append];exact QM _ Q
     .have G:ao4 j (ps++#[anS pos.line,anS pos.col,.ref c']).toList=some F:=G
      rw[Array.toList_append]at G;rw[L.ur];rcases Hx _ Q G with h|h
      .obtain⟨ae,rfl,a⟩:=V j F h
       exact⟨ae,rfl,by rw[k (by rintro rfl;rw[i]at a;cases a) (x a)];exact a⟩
      .exact⟨c',h,T⟩
    .refine⟨S,by rw[k l (x av)];exact av,aE,λj F G=>?_⟩
     obtain⟨ae,y,a⟩:=cX j F G;exact⟨ae,y,by rw[k (by rintro rfl;rw[i]at a;cases a) (x a)];exact a⟩
  have go:Go O O H (upd m h'.objs.size (.ext (FC h'.objs.size (W.kla_obj (al3 "<lambda>") q params body scope [] ((X.mg (al3 "__name__")).getD .none) c' E)))):=(⟨afE,λ_ _=>rfl,rfl⟩:Go O O H m).trans (Go.ho M);refine⟨h'.objs.size,c',_,E,_,rfl,bg.laid (t':=tk) (λb o e=>alL _ e) (alQ _) ?_,go,cV.same go.same,dZ,(uA M _).at' _ _ T⟩;exact⟨alV _ rfl,⟨_,alV _ rfl⟩,λy a p r=>r _ p⟩
end
end aC
namespace aC
open PySem PySem.Spec aA PyProof.Rows
def T5:amB "sorted"=some (.builtin "sorted"):=by decide +kernel
def tv(Z:iK)(mf:bj)(d:D):Option Z.κ.α:=match(mf [d]).run []with
 |.ok (.v x) []=>Z.un x|_=>none
def keysOf(Z:iK)(mf:bj):List D->Option (List Z.κ.α)
 |[]=>some []|d::ds=>match tv Z mf d,keysOf Z mf ds with
  |some a,some as=>some (a::as)|_,_=>none
def nf{α:Type}(blt:α->α->Bool):List α->Bool
 |[]=>true|a::r=>r.all (λb=>blt a b||blt b a)&&nf blt r
def oC(Z:iK)(mf:bj)(x:R):M R:=match x.ft with
 |some ds=>match keysOf Z mf ds with
  |some a=>if nf Z.κ.blt a=true/\ds.length<64 then pure (.fr ((jV Z.κ.blt (a.zip ds)).map (·.2)))else bad|none=>bad
 |none=>bad
@[simp] def p0(Z:iK)(mf:bj)(a:bt)(U:aK):M R:=do
 let x <-a U
 oC Z mf x
theorem N4{Z:iK}{mf:bj}(uL:∀d a,Z.un d=some a->d=Z.eK a):∀{ds:List D}{b:List Z.κ.α},keysOf Z mf ds=some b->b.length=ds.length/\∀(i:Nat)(d:D),ds[i]? = some d->∃κ,b[i]? = some κ/\(mf [d]).run []=.ok (.v (Z.eK κ)) []
 |[],b,h=>by cases h;exact⟨rfl,λi d h=>by simp at h⟩
 |d::ds,b,h=>by
  unfold keysOf at h;split at h
  .rename_i a as c f
   cases h;obtain⟨l,r⟩:=N4 uL f;refine⟨by rw[amk,amk,l],λi e he=>?_⟩
   cases i with
   |zero=>
    cases(show some d=some e from he);refine⟨a,rfl,?_⟩;unfold tv at c;split at c
    .rename_i x g
     rw[g,uL x a c]
    .cases c
   |succ i=>
    obtain⟨κ,av,aE⟩:=r i e (by simpa using he);exact⟨κ,by simpa using av,aE⟩
  .cases h
theorem Hz(Q:anq):∀{l:List Q.α},nf Q.blt l=true->l.Nodup
 |[],_=>.nil|a::r,h=>by
  unfold nf at h;rw[amc,amv]at h;rw[amK];refine⟨λb=>?_,Hz Q h.2⟩;have:=h.1 a b;rw[Q.irrefl]at this;cases this
variable[aA.a4]
section
variable{X:aT}{k:Nat}{e:Expr}{cM:bt}{Z:iK}{p pos kp:Pos}{jg:Expr}{mf:bj}{G:Addr->aw->Prop}
def Uo(F:Z.Ok)(V:d_ X "sorted")(hm:X.mg "sorted"=none)(T:cB (k+2) X.A)(Y:hy X e cM)
  (ei:∀(zn:cW)(s:alO)(U:aA.St)(O:a_)(H:aw),Inv X zn U H s->dh O H->
   wpAny (model X.prog X.w) X.A (eval jg X.env) (λu P=>∃(f:Addr)(H':aw)(G:aw->Prop),u=.ref f/\Inv X zn U H' P/\Go O O H H'/\dh O H'/\G H'/\n' X k f G mf) X.dH s)
  (he:amg pos (alJ [e] X.env)=(false,eval e X.env)::amg pos (alJ [] X.env):=by rfl)
  (hs:alJ [e] X.env=(false,eval e X.env)::alJ [] X.env:=by rfl)
  (ib:(amg pos (alJ [e] X.env)).any (·.1)=false:=by rfl) :
  hy X (.Call (.Name "sorted" p) [e] [⟨some (al3 "key"),jg,kp⟩] pos) (p0 Z mf cM):=by
 rintro zn s U H Q J ⟨O,I,S,r,o,st,h,q⟩;obtain⟨x,S1,W,h⟩:=M.inv h;obtain⟨ds,g,oJ,N,y9,lE,rfl,rfl⟩:∃ds g,x.ft=some ds/\keysOf Z mf ds=some g/\nf Z.κ.blt g=true/\ds.length<64/\r=.fr ((jV Z.κ.blt (g.zip ds)).map (·.2))/\S1=o:=by
  unfold oC at h;split at h
  .rename_i ds av
   split at h
   .rename_i g aE
    by_cases c:nf Z.κ.blt g=true/\ds.length<64
    .rw[if_pos c]at h
     cases h;exact⟨ds,g,av,aE,c.1,c.2,rfl,rfl⟩
    .rw[if_neg c]at h;cases h
   .cases h
  .cases h
 obtain⟨m,tg⟩:=N4 F.uL N;refine am7 (nK J V hm T5 ?_);refine callWith_kw ?_ he ib rfl rfl;refine bW ((uj Y Aw hs) pos zn s U H (λvs i=>∃v d,vs=[v]/\Go O d H i/\cN X.K X.mg d I S1 U i/\eu X.K X.mg d i x v) J ⟨O,I,S,x,S1,st,W,λd v i t n B nn=>⟨v,d,rfl,t,n,B⟩⟩) λus s1 y=>?_
 obtain⟨vs,i,bg,bC,v,d,ev,t,n,B⟩:=y;subst ev;obtain⟨l,ys,rfl,hl,bx⟩:=R.oW B oJ;obtain⟨u,rfl,d9⟩:=vals1 bC;cases d9;refine wpAny_evalAll_cons (alI (bW (ei zn s1 U d i bg n.ck) λu s2 C=>alI (aoU (alT ?_))));obtain⟨f,aI,G,rfl,b2,j,c_,L,gk⟩:=C;refine wpAny_evalAll_nil ?_;show wpAny _ _ (call (.builtin "sorted") [.ref l] [(al3 "key",.ref f)]) _ _ _;refine bW (afV F b2 c_ (bx.go j) (j.same.seq hl) gk L T tg m (Hz Z.κ.toKeyOrd y9) lE) λu s3 y=>?_
 obtain⟨a,nv,mn,e6,D,zs,dG,E,p4,rI,nW,z⟩:=y;subst nv;refine⟨.ref a,D,dG,rfl,q e6 _ D (t.trans (j.trans E)) (n.go (j.trans E) p4) ⟨a,zs,rfl,rI,nW,z⟩ λb c7=>?_⟩;cases c7;exact(t.trans j).same.free mn
def Up{c P:Addr}{q p1:Str}{params:aoF}{body:Expr}{scope:Scope}{z:Pos}{N:List Str}{m:bt}(y:Z.Ok)(i:d_ X "sorted")(t:X.mg "sorted"=none)(h:cB (k+3) X.A)(L:pU X.K c P q)(B:iI X.base X.mg)(I:X.env.code=.ref c)
  (g:X.env.qual++al3 "<lambda>"=q) (d:gP N [p1] scope)
  (E:∀(c:Addr)(b a u:Value),an0 (W.kla_fn (al3 "<lambda>") q params body scope [] b (.ref c) a) ⟨[u],[]⟩=pure [(p1,u)])
  (j:∀(f c:Addr)(A:ami)(s:alO)(H:aw),cB k (A.deeper (aop q scope s.heap.objs.size f (.ref c)))->hy (gU ey X.prog X.w X.K X.mg X.base N q scope f (.ref c) A X.stack s H i5).gB body m)
  (l:hy X e cM) (Q:apV params X.env=([],[]):=by rfl) (F:aoe scope X.env=pure []:=by rfl)
  (he:amg pos (alJ [e] X.env)=(false,eval e X.env)::amg pos (alJ [] X.env):=by rfl)
  (hs:alJ [e] X.env=(false,eval e X.env)::alJ [] X.env:=by rfl)
  (x:(amg pos (alJ [e] X.env)).any (·.1)=false:=by rfl) :
  hy X (.Call (.Name "sorted" p) [e] [⟨some (al3 "key"),.Lambda params body scope z,kp⟩] pos) (p0 Z (fnOf 1 N.length (a0 m)) cM):=
 Uo (k:=k+1) y i t h l (λzn s U O H J n=>bW (Oi J n L B I g Q F) λu R ⟨f,c',b,a,H',M,r,g',d',D⟩=>
  ⟨f,H',_,M,r,g',d',D,Oj d (E c' b a) (j f c')⟩) he hs x
end
def y_{P:al7}{w:World}{K:aN}{mg:bo}{base:Heap}{x:Str}{st:Stmt}{ps N:List Str}{k:Nat}{p:aL}{n nl:Nat}{c:Addr}(gO:gO K mg x st ps)(M:∀(f:Addr)(cS:Value)(i:Option Addr)(dr a l:Value)(g:Option Addr)(d cx:Value)(j:Array (Option Value)),mg x=some (.ref f)->K.lookup f=some ⟨cS,i,.func (anF x x (iS st) (fJ st) (df st) .none dr a l g d cx),j⟩->d=.ref c)
  (u:gP N ps (df st)) (B:ps.length=n) (hl:N.length=nl)
  (z:∀(f:Addr)(A:ami)(outer:List Env)(s:alO)(H:aw)(E:gw),cB k (A.deeper (amR x (df st) s.heap.objs.size f (.ref c)))->
   u0 (gU ey P w K mg base N x (df st) f (.ref c) A outer s H E).gB (fJ st) p):eV P w K mg base x ps (k+1) (e3 K mg (fnOf n nl p)):=by
 obtain⟨f,G,F,b,m⟩:=gO.ex;refine⟨f,G,?_,b,F.kp,m⟩;obtain⟨cS,i,dr,a,l,g,d,cx,j,rfl,t,I⟩:=F.ex;have e:=M f cS i dr a l g d cx j m t;subst e;subst B hl;refine Du t I u (λvs H Q E ⟨O,ds,r,R,S,dQ,D,h,q⟩=>D.len.trans (yY h)) λA outer s H vs Q E y L=>⟨_,(z f A outer s H E y).gB,Jy L⟩
end aC
namespace aA
open PySem PySem.Spec PyProof.Rows
def ig(r:Int->Int->Bool)(z:Nat->Nat->Bool):List Int->List Int->Bool
 |x::xs,y::ys=>if x=y then ig r z xs ys else r x y|xs,ys=>z xs.length ys.length
def Ov(r:Int->Int->Bool)(z:Nat->Nat->Bool)(x y:Int)(xs ys:List Int):ig r z (x::xs) (y::ys)=if x=y then ig r z xs ys else r x y:=rfl
def aaC(r:Int->Int->Bool)(z:Nat->Nat->Bool)(ys:List Int):ig r z [] ys=z 0 ys.length:=by cases ys<;>rfl
def aaD(r:Int->Int->Bool)(z:Nat->Nat->Bool)(xs:List Int):ig r z xs []=z xs.length 0:=by cases xs<;>rfl
inductive iM where
 |lt|le|gt
def iM.op:iM->CmpOp
 |.lt=>.Lt|.le=>.LtE|.gt=>.Gt
abbrev iM.r(c:iM)(i j:Int):Bool:=match c with
 |.lt=>decide (i<j)|.le=>decide (i<=j)|.gt=>decide (j<i)
abbrev iM.z(c:iM)(i j:Nat):Bool:=match c with
 |.lt=>decide (i<j)|.le=>decide (i<=j)|.gt=>decide (j<i)
def iM.B:iM->apr
 |.lt=>apr.«tuple.__lt__»|.le=>apr.«tuple.__le__»|.gt=>apr.«tuple.__gt__»
abbrev lexLt:List Int->List Int->Bool:=ig (λi j=>decide (i<j)) (λi j=>decide (i<j))
abbrev lexLe:List Int->List Int->Bool:=ig (λi j=>decide (i<=j)) (λi j=>decide (i<=j))
abbrev qn:List Int->List Int->Bool:=ig (λi j=>decide (j<i)) (λi j=>decide (j<i))
def iM.uV(c:iM){a b d e:Nat}(h:a+e=b+d):c.z a b=c.z d e:=by cases c<;>exact decide_eq_decide.mpr (by omega)
def iM.pn(c:iM)(m n:Nat):Builtin.Tuple.tupleCompareSizes c.op m n=.bool (c.z m n):=by cases c<;>rfl
section
open PySem.SeqAt
open PySem.AutoSeq1 (wpAny_loadPart')
open PySem.MeetsSeq PySem.MeetsSeq2 PySem.MeetsSeq3
set_option maxHeartbeats 0 in
def GK(i:iM)(l b:Addr)(f m:Array Value)(n X:Nat)(dz Y:Option Addr)(bc Z:Array (Option Value))(ns ms:List Int)(hi:anZ f.toList ns)(P:anZ m.toList ms) :
  Meets (i.B ⟨[.ref l,.ref b],[]⟩)
   (λ_ R s=>s.heap.get? l=some { cls:=.type "tuple",dict:=dz,data:=.seq f n,slots:=bc }/\s.heap.get? b=some { cls:=.type "tuple",dict:=Y,data:=.seq m X,slots:=Z }/\
    R (.ok (.ret (.bool (ig i.r i.z ns ms)))) s):=
 .of_wp λprog w A R s h=>by
  have pn:=i.pn;have uV:=@iM.uV i;have O:∀(A:ami)(a c:Int)(t u:Tok)(E:de)(Q:de)(s:alO),Q (.bool (i.r a c)) s->wpAny (model prog w) A (richCompare i.op (.int a t) (.int c u)) Q E s:=by
   cases i<;>intro A a c t u E Q s h
   .exact(PyProof.Rows.lt_int h:wpAny (model prog w) A (amx .Lt (.int a t) (.int c u)) Q E _)
   .exact(PyProof.Rows.le_int h:wpAny (model prog w) A (amx .LtE (.int a t) (.int c u)) Q E _)
   .exact(PyProof.Rows.gt_int h:wpAny (model prog w) A (amx .Gt (.int a t) (.int c u)) Q E _)
  have L:∀{x y:Int}{xs ys:List Int},ig i.r i.z (x::xs) (y::ys)=if x=y then ig i.r i.z xs ys else i.r x y:=rfl
  generalize i.r=C at *;generalize i.z=o at *;obtain⟨K,g,d,tk,os⟩:=s;obtain⟨hl,W,h⟩:=h;cases i
  all_goals
   dsimp only[iM.op]at O pn;have f2:=ap3;have gF:f.size=ns.length:=by rw[<-hi.length];simp
   have eC:m.size=ms.length:=by rw[<-P.length];simp
   wp_walk using wpAny_loadPart' hl,wpAny_loadPart' W,wpAny_forIn_list _ (λrest b I=>b.1=none/\I=⟨K,g,d,tk,os⟩/\∃(vs F:List Value)(D p:List Int),rest=vs.zip F/\
    anZ vs D/\anZ F p/\D.length+m.size=p.length+f.size/\R (.ok (.ret (.bool (ig C o D p)))) ⟨K,g,d,tk,os⟩) _
   case turn=>
    rintro⟨y,x⟩ rest b I ⟨M,rfl,vs,F,D,p,hz,G,H,j,k⟩
    cases G with
    |nil=>rw[List.zip_nil_left]at hz;cases hz
    |cons a t V=>
     cases H with
     |nil=>rw[List.zip_nil_right]at hz;cases hz
     |cons c u T=>
      rw[aoI]at hz;injection hz with U J
      injection U with aX aj
      subst aX aj;rw[L]at k;simp only[amk]at j;obtain⟨e,he,N⟩:=c4.U7 A.in1 ⟨K,g,d,tk,os⟩ a t c u;refine alI (he prog w _ _ ?_)
      cases e with
      |true=>
       rw[if_pos (N.mp rfl)]at k
       wp_walk
       exact⟨rfl,rfl,_,_,_,_,J,V,T,by omega,k⟩
      |false=>
       rw[if_neg (λq=>absurd (N.mpr q) alR)]at k
       wp_walk using O
       exact⟨_,rfl,by simpa using k⟩
   case fin=>
    rintro⟨b6,cw⟩ I ⟨M,rfl,vs,F,D,p,hz,G,H,j,k⟩;simp only at M;subst M;have S:ig C o D p=o f.size m.size:=by
     cases G with
     |nil=>
      rw[aaC];simp only[am4]at j;exact uV (by simp only[am4]at *;omega)
     |cons a t S=>
      cases H with
      |nil=>
       rw[aaD];simp only[am4]at j;exact uV (by simp only[am4]at *;omega)
      |cons c u hw=>
       rw[aoI]at hz;cases hz
    rw[S]at k
    wp_walk
    exact⟨_,rfl,by rw[pn];exact k⟩
   case h=>
    exact⟨rfl,rfl,f.toList,m.toList,ns,ms,rfl,hi,P,by omega,h⟩
end
def JI(c:iM){prog:al7}{w:World}{A:ami}{E:de}{s:alO}{l b:Addr}{a g:Array Value}{ns ms:List Int}{Q:de}(hl:IsTup s.heap l a)(B:IsTup s.heap b g)(hi:anZ a.toList ns)(j:anZ g.toList ms)
  (k:A.units<cLine) (h:Q (.bool (ig c.r c.z ns ms)) s):wpAny (model prog w) A (amx c.op (.ref l) (.ref b)) Q E s:=by
 obtain⟨⟨cls,dz,data,bc⟩,d,u,i,hd⟩:=id hl;obtain⟨⟨D,q,m,t⟩,e,y,p,f⟩:=id B;simp only at u hd y f;subst u hd y f;have n:apQ (ig c.r c.z ns ms)≠Value.notImplemented/\Q (.bool (ig c.r c.z ns ms)) s:=⟨(λx=>nomatch x),h⟩;cases c
 .exact aoR (op:=.Lt) ⟨_,d,rfl⟩ ⟨_,e,rfl⟩ PySem.F.slot_tuple_lt PySem.F.entry_tuple_lt (PySem.F.args_tuple_lt_2 _ _) (GK .lt l b a g i p dz q bc t ns ms hi j) ⟨d,e,n⟩ k
 .exact aoR (op:=.LtE) ⟨_,d,rfl⟩ ⟨_,e,rfl⟩ PySem.F.slot_tuple_le PySem.F.entry_tuple_le (PySem.F.args_tuple_le_2 _ _) (GK .le l b a g i p dz q bc t ns ms hi j) ⟨d,e,n⟩ k
 .exact aoR (op:=.Gt) ⟨_,d,rfl⟩ ⟨_,e,rfl⟩ PySem.F.slot_tuple_gt PySem.F.entry_tuple_gt (PySem.F.args_tuple_gt_2 _ _) (GK .gt l b a g i p dz q bc t ns ms hi j) ⟨d,e,n⟩ k
def Pj(c:iM)(k:X.A.units+64<cLine):d0 X (amx c.op) (λx y H Q=>∃a b ns ms,x=.ref a/\y=.ref b/\dx X.K H a (ns.map V.int)/\dx X.K H b (ms.map V.int)/\Q (.ax (ig c.r c.z ns ms)) H):=by
 intro zn s U H x y v u Q J d i h;obtain⟨a,b,ns,ms,rfl,rfl,f,e,q⟩:=h;cases d;cases i;obtain⟨its,g,p1,_⟩:=J.tuple f;obtain⟨l,j,cj,_⟩:=J.tuple e;exact JI c p1 cj (intsAre_of g) (intsAre_of j) (by omega) ⟨.ax (ig c.r c.z ns ms),H,J,rfl,q⟩
def adl(c:X.A.units+64<cLine):d0 X (amx .Lt) (λx y H Q=>∃a b ns ms,x=.ref a/\y=.ref b/\dx X.K H a (ns.map V.int)/\dx X.K H b (ms.map V.int)/\Q (.ax (lexLt ns ms)) H):=Pj .lt c
def adk(c:X.A.units+64<cLine):d0 X (amx .LtE) (λx y H Q=>∃a b ns ms,x=.ref a/\y=.ref b/\dx X.K H a (ns.map V.int)/\dx X.K H b (ms.map V.int)/\Q (.ax (lexLe ns ms)) H):=Pj .le c
def Wa{A:ami}{s:alO}{a c:Array Value}{ns ms:List Int}{Q:de}(hl:IsTup s.heap l a)(e:IsTup s.heap b c)(hi:anZ a.toList ns)(d:anZ c.toList ms)(f:A.units<cLine)(h:Q (.bool (qn ns ms)) s):wpAny (model prog w) A (amx .Gt (.ref l) (.ref b)) Q E s:=JI .gt hl e hi d f h
end aA
namespace aC
open PySem PySem.Spec aA
def uc(g:List Int->List Int->Bool):R->R->M R
 |.v (.t xs),.v (.t ys)=>match nums xs,nums ys with
  |some ns,some ms=>pure (.v (.ax (g ns ms)))|_,_=>bad
 |_,_=>bad
variable[aA.a4]
def HH{g:List Int->List Int->Bool}:eg K mg (λx y H Q=>∃a b ns ms,x=.ref a/\y=.ref b/\dx K H a (ns.map V.int)/\dx K H b (ms.map V.int)/\Q (.ax (g ns ms)) H) (uc g):=λO U S m H x y k n p l Q st f e h q=>by
 unfold uc at h;split at h
 .rename_i xs ys
  split at h
  .rename_i ns ms av aE
   cases h;obtain⟨a,as,rfl,d,i⟩:=f;obtain⟨b,bs,rfl,c,j⟩:=e;rw[An i av]at d;rw[An j aE]at c;exact⟨a,b,ns,ms,rfl,rfl,d,c,q O _ H (Go.refl _ _) st rfl trivial⟩
  .cases h
 .cases h
end aC
namespace aC
open PySem PySem.Spec aA PyProof.Rows
def tx(x:Str):Str:=x++al3 ".<locals>."++al3 "<lambda>"
def oO(K:aN)(P:Addr)(x:Str):Bool:=match W.tabIn K x with
 |some (_,o)=>o==P|none=>false
abbrev uH(K:aN)(ln:List Str):a4:=⟨λP=>∃x∈ln,∃c,W.tabIn K x=some (c,P),λP=>match ln.find? (oO K P)with
 |some x=>tx x| none=>""⟩
def ae6{K:aN}{ln:List Str}{x:Str}{c P:Addr}(b:x∈ln)(d:W.tabIn K x=some (c,P))(inj:∀y∈ln,oO K P y=true->y=x):(uH K ln).ur P=tx x:=by
 show(match ln.find? (oO K P)with|some x=>tx x|none=>"")=_;have a:oO K P x=true:=by unfold oO;rw[d];exact beq_self_eq_true P
 cases e:ln.find? (oO K P)with
 |none=>exact absurd a (List.find?_eq_none.mp e x b)|some y=>
  dsimp only;rw[inj y (anx e) (aoz e)]
def xE{K:aN}{x:Str}{f c P:Addr}{cS g:Value}{i h:Option Addr}{b:amT}{bc k:Array (Option Value)}{vs:Array Value}(a:aoQ K aml x=some (some (.ref f)))(l:K.lookup f=some ⟨cS,i,.func b,bc⟩)(j:b.code=.ref c)
  (d:K.lookup c=some ⟨g,h,.fields vs,k⟩) (e:vs[11]? = some (.ref P)):W.tabIn K x=some (c,P):=by
 unfold W.tabIn;rw[a];simp only[l,j,d,e]
def Yf{K:aN}{c P:Addr}{n:Option Addr}{bc:Array (Option Value)}{vs:Array Value}{b:Str}{f cf tt:Tok}{a e:Int}{g:Bool}(d:K.lookup c=some ⟨.type "code",n,.fields vs,bc⟩)(p:vs[11]? = some (.ref P))(j:vs.getD 11 .none=.ref P)
  (k:vs.getD 18 .none=.str b f) (l:vs.getD 7 .none=.int a cf) (m:vs.getD 9 .none=.bool g) (i:vs.getD 10 .none=.int e tt) (ne:c≠P):∀h,K.In h->W.CodeHd h c P:=λh X=>
 ⟨_,vs,b,f,a,cf,g,e,tt,X _ _ d,rfl,rfl,p,j,k,l,m,i,ne⟩
def Uu{K:aN}{st:Stmt}{g:amT}(X:K.In h)(G:h.Ns aml mg)(a:aoQ K aml x=some (some (.ref o)))(l:K.lookup o=some ⟨C,J,.func g,U⟩)(n:g.code=.ref c) :
  ∀(f:Addr)(cS:Value)(j:Option Addr)(dr b m:Value)(i:Option Addr)(d cx:Value)(k:Array (Option Value)),mg x=some (.ref f)->K.lookup f=some ⟨cS,j,.func (anF x x (iS st) (fJ st) (df st) .none dr b m i d cx),k⟩->d=.ref c:=by
 intro f cS j dr b m i d cx k p hl;have e:=apq X G a;rw[p]at e;cases e;rw[l]at hl;cases hl;exact n
def R7{l:W.OpenLaw}{w:World}{K:aN}{mg:bo}{fa:Addr}{k:Nat}{st:Stmt}[aA.a4](j:mg "law"=some (.ref fa))(i:gO K mg "law" st ["script"])
  (n:∀(dr c h:Value)(d:Option Addr)(g cx v:Value),an0 (anF "law" "law" (iS st) (fJ st) (df st) .none dr c h d g cx) ⟨[v],[]⟩=pure [(("script":Str),v)])
  (ok:∀(base:Heap),iI base mg->∀(f:Addr)(a:amT),lg K "law" "law" st f a->e5 l.prog w K mg base ey k f a ["script"] (xw K)) :
  ∃a:amT,(∀(s:alO)(v:Value),BindsTo s a ⟨[v],[]⟩ [("script",v)])/\∀base:Heap,K.In base->base.Ns aml mg->iI base mg->e5 l.prog w K mg base ey k fa a ["script"] (xw K):=by
 obtain⟨f,a,F,b,m⟩:=i.ex;have e:amI fa=amI f:=amf (j.symm.trans m);cases e;refine⟨a,λs v=>?_,λbase _ _ bm=>ok base bm fa a F⟩;obtain⟨cS,p,dr,c,h,d,g,cx,q,rfl,t,r⟩:=F.ex;exact .of_eq (n dr c h d g cx v)
def aap{P:al7}{w:World}{K:aN}{mg O:bo}{k:Nat}{fa a:Addr}{U:amT}{c:alO}{vs:List Value}{ns:List Int}[aA.a4]
  (Z:K.In c.heap) (zk:c.heap.Ns aml mg) (f:c.heap.Ns apR O) (Yb:∀x:Str,x≠"__name__"->O x=amB x) (YO:c.heap.NoLimit) (aQ:c.gens=#[])
  (A:c.heap.get? a=some { cls:=.type "list",data:=.seq vs.toArray }) (hi:anZ vs ns) (hl:ns.length<=63) (aB:cB k apY)
  (DQ:iI c.heap mg) (F:∀base:Heap,K.In base->base.Ns aml mg->iI base mg->e5 P w K mg base ey k fa U ["script"] (xw K)) (mm:∀(s:alO)(u:Value),BindsTo s U ⟨[u],[]⟩ [("script",u)])
  (i:∀p,a4.il p->c.heap.get? p=some (W.tabObj #[])/\isCodeTable c.heap p/\K.lookup p=none) :
  aow (model P w) apY (.call (.ref fa) ⟨[.ref a],[]⟩) (λr g=>r=.ok (.ret (.bool true))/\OldK c.heap g.heap/\g.os=c.os/\ao2 g.gens) c:=by
 have Y:=QX hi;have M:=hi.length;have S:ns.length<=alP:=by rw[ama];omega
 have N:¬a4.il a:=λz=>by have:=(i a z).1;rw[A]at this;cases this
 have j:∀H:aw,(∀b,H b=none\/(∃o xs,H b=some (.cF o (.l xs)))\/(a4.il b/\H b=some (.f' #[])))->dq K H a (ns.map V.int)->TabsOk H->gb P w H c.heap->(∀b,H b≠none->b=a\/a4.il b)->(∀b,H b≠none->K.lookup b=none)->
   aow (model P w) apY (.call (.ref fa) ⟨[.ref a],[]⟩) (λr g=>r=.ok (.ret (.bool true))/\OldK c.heap g.heap/\g.os=c.os/\ao2 g.gens) c:=by
  intro H Wn fo Wr cb h7 hh;have wZ:∀{b:Addr}{o:Obj}{I:Array ao5}{cm:Nat},c.heap.get? b=some o->o.data=.dict I cm->H b=none:=λ{b o I cm} e d=>by
   cases q:H b with
   |none=>rfl|some u=>
    rcases h7 b (by rw[q];simp)with C|C
    .subst C
     rw[A]at e;cases e;cases d
    .rw[(i b C).1]at e;cases e
     cases d
  have G:∀{b:Addr}{m:bo},c.heap.Ns b m->(oK c.heap H).Ns b m:=λ{b m} ⟨o,I,cm,e,d,r⟩=>⟨o,I,cm,D1 e (wZ e d),d,r⟩
  have R:K.In (oK c.heap H):=λb o e=>D1 (Z b o e) (by
   cases q:H b with
   |none=>rfl| some u=>rw[hh b (by rw[q];simp)]at e;cases e)
  have DN:Mod K mg (oK c.heap H):=⟨R,G zk,⟨O,G f,Yb⟩,let⟨fT,ag,ah⟩:=YO;⟨fT,G ag,ah⟩⟩;have d3:lb P w K mg (oK c.heap H) apY [] c H:=⟨rfl,DN,λb o e=>ac7 e,aoE (YD _ _),trivial,λb f=>absurd (show b∈([]:List Addr)from f) (by simp),cb,.of_eq aQ⟩;have Wh:iI (oK c.heap H) mg:=by
   obtain⟨bm,o,b6,cw,g8,B,jA,vc,L⟩:=DQ.ex;refine⟨bm,o,b6,cw,g8,D1 B ?_,jA,vc,L⟩
   cases q:H bm with
   |none=>rfl|some u=>
    rcases h7 bm (by rw[q];simp)with C|C
    .subst C
     rw[A]at B;cases B;cases L
    .rw[(i bm C).1]at B;cases B
     cases L
  refine aoo ((F _ R (G zk) Wh).run apY [] c H ⟨[.ref a],[]⟩ [.ref a] [.ref a] (λv _=>v=.ax true) i5 aB d3 (mm c (.ref a)) (.cons rfl .nil) ⟨a,ns,rfl,fo,hl,Wr,λ_=>rfl⟩) λr g h=>?_
  cases r with
  |error e=>exact amu h|ok aJ=>
   cases aJ with
   |next=>exact amu h
   |brk=>exact amu h|cont=>exact amu h|ret u=>
    obtain⟨v,H',os,bare,un,T,bz,q⟩:=h;have hr:v=.ax true:=q;subst hr;obtain rfl:u=apQ true:=bz;have n:∀b o,c.heap.get? b=some o->asItWas c.heap g.heap b o/\∃du,g.heap.get? b=some du:=λb o e=>by
     rcases Wn b with z|⟨a8,xs,z⟩|⟨t,z⟩
     .have:=un.keep b o e z (by intro w;exact absurd (show b∈([]:List Addr)from w) (by simp)) (by simp)
      exact⟨.inl this,o,this⟩
     .have Q:=un.oD b a8 _ z
      obtain⟨av,_⟩:=cb b _ z;obtain⟨aE,_⟩:=T b _ Q;rw[e]at av;cases av;exact⟨.inl aE,_,aE⟩
     .obtain⟨E,Q⟩:=un.px b #[] z
      have aE:g.heap.get? b=_:=T b _ Q;rw[(i b t).1]at e;cases e;exact⟨.inr (.inl ⟨(i b t).2.1,rfl,#[],E,rfl,aE⟩),_,aE⟩
    exact⟨rfl,⟨λb o e=>(n b o e).1,λb o e=>(n b o e).2⟩,os,bare⟩
 classical
 have X:∀(H:aw),(∀p,a4.il p->H p=some (.f' #[]))->TabsOk H:=λH h p y=>⟨#[],h p y,trivial,λpos iA z=>by cases z⟩
 cases J:K.lookup a with
 |some o=>
  have e:=Z a o J;rw[A]at e;cases e;refine j (λb=>if a4.il b then some (.f' #[])else none) (λb=>?_) (.inr ⟨_,vs.toArray,_,J,rfl,rfl,rfl,by rw[alS,M];exact S,by simpa using Y⟩) (X _ λp y=>if_pos y) (λb u z=>?_) (λb z=>?_) λb z=>?_
  .by_cases t:a4.il b
   .exact .inr (.inr ⟨t,if_pos t⟩)
   .exact .inl (if_neg t)
  .by_cases t:a4.il b
   .have D:=(if_pos t).symm.trans z
    cases D;exact(i b t).1
   .have D:=(if_neg t).symm.trans z
    cases D
  .by_cases t:a4.il b
   .exact .inr t
   .exact absurd (if_neg t) z
  .by_cases t:a4.il b
   .exact(i b t).2.2
   .exact absurd (if_neg t) z
 |none=>
  refine j (λb=>if b=a then some (.cF { cls:=.type "list",data:=.seq vs.toArray } (.l (ns.map V.int)))else if a4.il b then some (.f' #[])else none) (λb=>?_) (.inl (.inr ⟨{ cls:=.type "list",data:=.seq vs.toArray },if_pos rfl⟩)) (X _ λp y=>?_) (λb u z=>?_) (λb z=>?_) λb z=>?_
  .by_cases f:b=a
   .exact .inr (.inl ⟨_,_,if_pos f⟩)
   .by_cases t:a4.il b
    .exact .inr (.inr ⟨t,by rw[if_neg f,if_pos t]⟩)
    .exact .inl (by rw[if_neg f,if_neg t])
  .rw[if_neg (by rintro rfl;exact N y),if_pos y]
  .by_cases f:b=a
   .have D:=(if_pos f).symm.trans z
    cases D;subst f;exact⟨A,by rw[alM];exact S,vs,_,Y,A⟩
   .try dsimp only at z
    rw[if_neg f]at z
    by_cases t:a4.il b
    .rw[if_pos t]at z;cases z
     exact(i b t).1
    .rw[if_neg t]at z;cases z
  .by_cases f:b=a
   .exact .inl f
   .try dsimp only at z
    rw[if_neg f]at z
    by_cases t:a4.il b
    .exact .inr t
    .rw[if_neg t]at z;exact absurd rfl z
  .by_cases f:b=a
   .rw[f];exact J
   .try dsimp only at z
    rw[if_neg f]at z
    by_cases t:a4.il b
    .exact(i b t).2.2
    .rw[if_neg t]at z;exact absurd rfl z
def ahj{l:W.OpenLaw}{q:al7}{k:Nat}{j:List Str}{yi:(Str->Option Value)->Heap->Prop}{A:World->Heap->Prop}{d:DefRec}{K:Params->aN}(ln:List Str)(R:l.most=some 63)(D:d.params.defaults=[])(L:cB k apY)
  (H:∀x∈ln,∃d,(recsOf q).find? (λe=>e.name==x)=some d) (I:∀p,W.noTabs (K p)=true)
  (rH:∀(w:World)(h:Heap),A w h->(K w.params).In h)
  (F:∀(w:World)(mg:bo)(fa:Addr)(h:Heap),(K w.params).In h->h.Ns aml mg->mg d.name=some (.ref fa)->
   ∃t:amT,(∀(s:alO)(u:Value),BindsTo s t ⟨[u],[]⟩ [("script",u)])/\∀base:Heap,(K w.params).In base->base.Ns aml mg->iI base mg->@e5 l.prog w (K w.params) mg base ey k fa t ["script"] (@xw (uH (K w.params) ln) (K w.params))) :
  W.WalkO q j yi A l.row.toRowW d [] (λf vs=>PySem.call f vs):=by
 refine G7.Sh R D λw gN C mg cT fa o pm cd J a vs ns G Y aZ hd gy vT E i m M=>?_
 have n:=rH w _ Y;obtain⟨t,O,kI⟩:=F w mg fa _ n G.T.g vT
 letI:=uH (K w.params) ln
 have B:iI C.heap mg:=by
  obtain⟨bm,a8,S,Z,y,U,jA,z⟩:=G.T.bmain;refine⟨bm,a8,S,Z,λq=>?_,y,U,jA,z⟩;obtain⟨o,ay,cm,e,hd,_⟩:=G.T.g;rw[q,e]at y;cases y;rw[hd]at z;cases z
 refine aap n G.T.g G.T.b G.T.builtins G.T.nolimit M E i m L B kI O λp N=>?_
 obtain⟨x,Q,c,X⟩:=N;obtain⟨d,hd⟩:=H x Q;obtain⟨P,r⟩:=W.tab_of G.T n hd X;refine⟨r,(P.tab r).isCodeTable,?_⟩
 cases e:(K w.params).lookup p with
 |none=>rfl|some o=>
  have aE:=n p o e;rw[r]at aE;cases aE;have V:=amv.mp (I w.params) (p,_) (W.mem_of_lookupK e);exact absurd (show false=true from V) alR
def zO{K:aN}{h:Heap}{mg:bo}{x:Str}{st:Stmt}{ln:List Str}{f c P:Addr}{cS k:Value}{i D:Option Addr}{q:amT}{bc H:Array (Option Value)}{vs:Array Value}{e:Str}{t cf tt:Tok}{b g:Int}{L:Bool}(X:K.In h)(G:h.Ns aml mg)(m:x∈ln)
  (a:aoQ K aml x=some (some (.ref f))) (l:K.lookup f=some ⟨cS,i,.func q,bc⟩) (r:q.code=.ref c) (d:K.lookup c=some ⟨k,D,.fields vs,H⟩) (I:k=.type "code") (s:vs[11]? = some (.ref P)) (w:vs.getD 11 .none=.ref P)
  (z:vs.getD 18 .none=.str e t) (A:vs.getD 7 .none=.int b cf) (B:vs.getD 9 .none=.bool L) (u:vs.getD 10 .none=.int g tt) (ne:c≠P) (inj:∀y∈ln,oO K P y=true->y=x) :
  ∃c P,@pU (uH K ln) K c P (tx x)/\∀(f:Addr)(cS:Value)(i:Option Addr)(dr j F:Value)(E:Option Addr)(p cx:Value)(o:Array (Option Value)),mg x=some (.ref f)->K.lookup f=some ⟨cS,i,.func (anF x x (iS st) (fJ st) (df st) .none dr j F E p cx),o⟩->p=.ref c:=by
 subst I;have n:=xE a l r d s;exact⟨c,P,@pU.mk (uH K ln) K c P (tx x) (Yf d s w z A B u ne) ⟨x,m,c,n⟩ (ae6 m n inj),Uu X G a l r⟩
end aC
namespace aC
open PySem PySem.Spec aA PyProof.Rows
variable[aA.a4]
section
variable{X:aT}{k:Nat}{e:Expr}{cM:bt}{Z:iK}{p pos kp:Pos}
def GQ{c P:Addr}{q p1:Str}{params:aoF}{body:Expr}{scope:Scope}{t:Pos}{N:List Str}{m:bt}(r:Z.Ok)(g:d_ X "sorted")(l:X.mg "sorted"=none)(a:cB (k+3) X.A)(L:pU X.K c P q)(B:iI X.base X.mg)(z:X.env.code=.ref c)
  (d:X.env.qual++al3 "<lambda>"=q) (b:gP N [p1] scope)
  (x:∀(c:Addr)(E j u:Value),an0 (W.kla_fn (al3 "<lambda>") q params body scope [] E (.ref c) j) ⟨[u],[]⟩=pure [(p1,u)])
  (h:∀(f c:Addr)(A:ami)(s:alO)(H:aw),cB k (A.deeper (aop q scope s.heap.objs.size f (.ref c)))->bb (gU ey X.prog X.w X.K X.mg X.base N q scope f (.ref c) A X.stack s H i5).gB body m)
  (i:bb X e cM) (D:apV params X.env=([],[]):=by rfl) (y:aoe scope X.env=pure []:=by rfl)
  (he:amg pos (alJ [e] X.env)=(false,eval e X.env)::amg pos (alJ [] X.env):=by rfl)
  (hs:alJ [e] X.env=(false,eval e X.env)::alJ [] X.env:=by rfl)
  (n:(amg pos (alJ [e] X.env)).any (·.1)=false:=by rfl) :
  bb X (.Call (.Name "sorted" p) [e] [⟨some (al3 "key"),.Lambda params body scope t,kp⟩] pos) (p0 Z (fnOf 1 N.length (a0 m)) cM):=
 ⟨Up r g l a L B z d b x (λf c A s H a=>(h f c A s H a).un) i.un D y he hs n⟩
end
end aC
namespace aC
open PySem PySem.Spec aA PyProof.Rows
def p2(z:Str)(lo hi:Option Int):Str:=⟨(cutD z.cps.toList lo hi).toArray⟩
def Fz:R->Option Int->Option Int->M R
 |.v (.str z),lo,hi=>if z.length<=alP then pure (.v (.str (p2 z lo hi)))else bad|_,_,_=>bad
@[simp] def sQ(a:bt)(lo hi:lp)(U:aK):M R:=do
 let x <-a U
 let l <-lo U
 let h <-hi U
 Fz x l h
def part_of{v:Value}{o:Option Int}(h:aoN v o):∃l:Option (Int×Tok),v=partValue l/\l.map (·.1)=o:=by
 cases h with
 |none=>exact⟨none,rfl,rfl⟩|int i t=>exact⟨some (i,t),rfl,rfl⟩
def Qn(n d:Nat)(hd:d<=n)(o:Option Int):c4.cu n d o<=n:=by
 unfold c4.cu
 cases o with
 |none=>exact hd|some i=>simp only[];split<;>omega
def aeC(z:Str)(lo hi:Option Int):(anN lo hi 1 z.length).filterMap (λx=>z.cps[x]?)=cutD z.cps.toList lo hi/\(anN lo hi 1 z.length).length=c4.cu z.length z.length hi-c4.cu z.length 0 lo:=by
 obtain⟨a,b,c⟩:=Qw lo hi z.length;have e:anN lo hi 1 z.length=sliceRange (anW lo hi none z.length).1 (anW lo hi none z.length).2.1 1:=rfl;rw[e,a,b,sliceRange_one];refine⟨?_,by rw[alM,amZ]⟩;rw[pick_run];unfold cutD;rw[show z.cps.toList.length=z.length from amA]
def UD{z:Str}{lo hi:Option Int}(h:c4.cu z.length z.length hi-c4.cu z.length 0 lo=z.length):p2 z lo hi=z:=by
 have c:=Qn z.length 0 (amt _) lo;have d:=Qn z.length z.length (alQ _) hi;have b:z.cps.toList.length=z.length:=amA;unfold p2 cutD;rw[b];have a:c4.cu z.length 0 lo=0\/z.length=0:=by omega
 have:(z.cps.toList.drop (c4.cu z.length 0 lo)).take (c4.cu z.length z.length hi-c4.cu z.length 0 lo)=z.cps.toList:=by
  rcases a with a|a
  .rw[a,aps,am8 (by omega)]
  .have:z.cps.toList=[]:=apj (by omega)
   rw[this];simp
 rw[this]
def UB(z:Str)(lo hi:Option Int):(p2 z lo hi).length<=z.length:=by
 show(cutD z.cps.toList lo hi).toArray.size<=z.cps.size;rw[alS];unfold cutD;rw[amV,amL,amA];omega
def afO:od X (λx lo hi H Q=>∃z,x=.str z/\z.length<=alP/\Q (.str (p2 z lo hi)) H):=by
 rintro zn s U H x v g h lo hi bc Q J a hs pl f ⟨z,ex,hz,q⟩;subst ex;obtain⟨t,rfl⟩:=a;obtain⟨l,rfl,el⟩:=part_of pl;obtain⟨u,rfl,d⟩:=part_of f;refine⟨"str",_,slot_str_getitem.lookup,typeIs_str s z t,?_⟩;refine wpAny_getItem_str_slice (l:=l) (u:=u) (st:=none) hs rfl ?_;obtain⟨p1,cj⟩:=aeC z lo hi;have cm:slicePicked z l u none=anN lo hi 1 z.length:=by
  unfold slicePicked;rw[el,d];rfl
 unfold sliceMade;rw[cm,cj]
 by_cases c:c4.cu z.length z.length hi-c4.cu z.length 0 lo=z.length
 .rw[if_pos (by simp[c])]
  rw[UD c]at q;exact⟨.str z,H,J,⟨t,rfl⟩,q⟩
 .rw[if_neg (by simp[c])]
  show _<=alP/\_;rw[p1];refine⟨amq (UB z lo hi) hz,.str (p2 z lo hi),H,?_,⟨s.toks,rfl⟩,q⟩;exact J.kept (t':=s.toks+1) λb o e=>e
variable[aA.a4]
section
variable{X:aT}{e:Expr}{m:bt}{lo hi:Option Expr}{lL qt:lp}{pos cj:Pos}
def ahJ(he:bb X e m)(hl:pZ X lo lL)(w:pZ X hi qt):bb X (.Subscript e (.Slice lo hi none cj) pos) (sQ m lL qt):=⟨eb (FU afO he.un hl.un w.un) λP H Q k=>by
 obtain⟨O,U,S,r,N,st,h,q⟩:=k;obtain⟨x,S1,n,d⟩:=M.inv h;clear h;obtain⟨l,a,p,b⟩:=M.inv d;clear d;obtain⟨u,I,s,h⟩:=M.inv b;clear b;refine⟨O,U,S,x,S1,st,n,λi B K D j f bu=>?_⟩;refine⟨i,U,S1,l,a,j,p,λt L E bF=>?_⟩;refine⟨t,U,a,u,I,bF,s,λA y F G=>?_⟩;have g:=(D.trans E).trans F;unfold Fz at h;split at h
 .rename_i z
  by_cases c:z.length<=alP
  .rw[if_pos c]at h
   cases h;cases(show B=.str z from f);exact⟨z,rfl,c,q A _ y g G rfl trivial⟩
  .rw[if_neg c]at h;cases h
 .cases h⟩
end
omit [aA.a4]in
@[simp] theorem akC{z:Str}{lo hi:Option Int}:Fz (.v (.str z)) lo hi=if z.length<=alP then pure (.v (.str (p2 z lo hi)))else bad:=rfl
end aC
namespace aC
open PySem PySem.Spec aA PyProof.Rows
structure u2(P:al7)(w:World)(K:aN)(mg:bo)(x:Str)(ps:List (Str×Str)):Prop where
 ex:∃(a:Addr)(ay:Array ao5)(n:Nat),mg x=some (.ref a)/\ans a K=some { cls:=.type "dict",data:=.dict ay n }/\KeysOf (aoW P w) ay/\
  ∀k fn,ps.lookup k=some fn->∃f,apz amQ ay k=some (.ref f)/\mg fn=some (.ref f)
@[simp] def CJ(ps:List (Str×Str))(mk:bt)(U:aK):M R:=do
 let k <-mk U
 match k with
 |.v (.str z)=>match ps.lookup z with
  |some fn=>pure (.v (.fn fn))|none=>bad
 |_=>bad
@[simp] def CG(i:Nat)(aS:List (Str×bj))(ms:c0)(U:aK):M R:=match U[i]? with
 |some (.v (.fn f))=>match aS.lookup f with
  |some mf=>bh mf ms U|none=>bad
 |_=>bad
def agB(mg:bo)(ps:List (Str×Str))(ty:TE):TE:=λU H Q=>ty U H λy a=>∃z fn f,y=.str z/\ps.lookup z=some fn/\mg fn=some (.ref f)/\Q (.ref f) a
variable[aA.a4]
section
variable{X:aT}{x:Str}{ps:List (Str×Str)}{i:Expr}{pos p:Pos}{ty:TE}{mk:bt}{j k:Nat}{e:Expr}{ay:List Expr}{ms:c0}{pp:List Str}{aS:List (Str×bj)}
omit [aA.a4]in
theorem aeo(T:u2 X.prog X.w X.K X.mg x ps)(g:d_ X x)(hi:b1 X i ty)(hs:BM i)(r:(x==("__debug__":Str))=false:=by decide):b1 X (.Subscript (.Name x p) i pos) (agB X.mg ps ty):=by
 intro zn s U H Q J h;obtain⟨a,ds,n,D,hl,m,B⟩:=T.ex;refine af8 PySem.F.slot_dict_getitem.lookup hs (tB J g D ?_ r);refine bW (hi zn s U H _ J h) λG s2 l=>?_
 obtain⟨y,d,c,q,z,fn,f,A,el,u,bO⟩:=l;subst A;obtain⟨t,rfl⟩:=q;have b:=c.f3 a _ hl;obtain⟨E,av,aE⟩:=B z fn el;rw[u]at aE;cases aE;refine⟨⟨_,b,rfl⟩,?_⟩;refine wpAny_getItem_of (knd:=aoW X.prog X.w) (k:=z) (f:=apz amQ ds) (v:=.ref f) ?_ ?_ av ?_
 .show(z==z)=true
  simp
 .exact⟨_,ds,n,b,⟨rfl,rfl,rfl⟩,rfl,m,λ_=>rfl⟩
 .exact⟨.ref f,d,c.tok _,rfl,bO⟩
omit [aA.a4]in
theorem ad8(hN:X.N[j]? = some x)(y:q6 X.env.scope x)(g:cB k X.A){t:fQ}(m:gR X (e::ay) t)(B:(x==("__debug__":Str))=false:=by decide)(G:(x==("__classdict__":Str))=false:=by decide)
  (he:alJ (e::ay) X.env=(false,eval e X.env)::alJ ay X.env:=by rfl) (D:(amg pos (alJ ay X.env)).any (·.1)=false:=by rfl) :
  b1 X (.Call (.Name x p) (e::ay) [] pos) (λU H Q=>∃(f:Addr)(c:amT)(sp:ej),U[j]? = some (some (.ref f))/\e5 X.prog X.w X.K X.mg X.base ey k f c pp sp/\Binds X.K c pp []/\anJ X.K (.ref f)=true/\t U H λvs a=>sp vs a Q i5):=by
 rintro zn s U H Q J ⟨f,c,sp,E,F,b,kp,h⟩;refine am7 (bW (Ax hN y B G zn s U H (λv H'=>v=.ref f/\H'=H) J ⟨.ref f,E,rfl,rfl⟩) λu I l=>?_);obtain⟨v,a,z,n,av,aE⟩:=l;subst av aE;obtain rfl:u=amI f:=n;refine ap0 (h₀:=X.base) J.ok.mod.tw kp (bW (m pos zn I U a _ z h) λus s2 ⟨vs,L,d,r,q⟩=>⟨d.f3,?_⟩) he D;exact xm (dvs:=[]) (ds:=[]) F g b .nil r9 d r (by simpa only[am2]using q)
def Q4(T:u2 X.prog X.w X.K X.mg x ps)(l:d_ X x)(hi:bb X i mk)(hs:BM i:=by exact λ_ _=>rfl)(t:(x==("__debug__":Str))=false:=by decide):bb X (.Subscript (.Name x p) i pos) (CJ ps mk):=⟨eb (aeo T l hi.un hs t) λB H Q m=>by
 obtain⟨O,U,S,r,A,st,h,q⟩:=m;obtain⟨y,S1,n,h⟩:=M.inv h;split at h
 .rename_i z
  split at h
  .rename_i fn el
   cases h;obtain⟨_,_,_,_,_,_,a⟩:=T.ex;obtain⟨f,_,b⟩:=a z fn el;refine⟨O,U,S,_,_,st,n,λd v c u g s nn=>?_⟩;exact⟨z,fn,f,s,el,b,q d _ c u g ⟨f,rfl,b⟩ trivial⟩
  .cases h
 .cases h⟩
def ahu(n:∀f mf,aS.lookup f=some mf->eV X.prog X.w X.K X.mg X.base f pp k (e3 X.K X.mg mf))(hN:X.N[j]? = some x)(B:q6 X.env.scope x)(s:cB k X.A)(u:gv X (e::ay) ms)(D:(x==("__debug__":Str))=false:=by decide)(L:(x==("__classdict__":Str))=false:=by decide)
  (he:alJ (e::ay) X.env=(false,eval e X.env)::alJ ay X.env:=by rfl) (E:(amg pos (alJ ay X.env)).any (·.1)=false:=by rfl):bb X (.Call (.Name x p) (e::ay) [] pos) (CG j aS ms):=⟨eb (ad8 (pp:=pp) hN B s u.un D L he E) λd H Q t=>by
  obtain⟨O,U,S,r,z,st,h,q⟩:=t;unfold CG at h;split at h
  .rename_i f G
   split at h
   .rename_i mf el
    obtain⟨fa,I,F,b,kp,m⟩:=(n f mf el).ex;obtain⟨v,c,a,rfl,l⟩:=st.loc j _ G;have:a=fa:=by
     rw[m]at l;cases l;rfl
    subst this;have g:d[j]? = some (some (.ref a)):=by
     cases w:d[j]? with
     |none=>rw[w]at c;cases c
     |some y=>rw[w]at c;exact congrArg some c
    exact⟨a,I,_,g,F,b,kp,CL d H Q ⟨O,U,S,r,z,st,h,q⟩⟩
   .cases h
  .cases h⟩
end
omit [aA.a4]in
theorem lookup_all{α f:Type}[BEq α][LawfulBEq α]{P:α->f->Prop}:∀{l:List (α×f)},(∀x∈l,P x.1 x.2)->∀a b,l.lookup a=some b->P a b
 |[],_,_,_,h=>by cases h
 |(c,d)::l,o,a,b,h=>by
  rw[al0]at h;split at h
  .rename_i e
   cases h;rw[eq_of_beq e];exact o _ al2
  .exact lookup_all (λx g=>o x (alW _ g)) a b h
omit [aA.a4]in
theorem VA{P:al7}{w:World}{K:aN}{h:Heap}{mg:bo}{x:Str}{d:Addr}{b:Array ao5}{n:Nat}{ps:List (Str×Str)}(X:K.In h)(G:h.Ns aml mg)
  (a:aoQ K aml x=some (some (.ref d))) (l:ans d K=some { cls:=.type "dict",data:=.dict b n }) (k:∀e∈b.toList,∃s,amQ s e.key=true/\e.hash=hashStr w s)
  (f:∀p∈ps,∃f,aoQ K d p.1=some (some (.ref f))/\aoQ K aml p.2=some (some (.ref f))):u2 P w K mg x ps:=by
 refine⟨d,b,n,apq X G a,l,λe he=>?_,lookup_all (P:=λk fn=>∃f,apz amQ b k=some (.ref f)/\mg fn=some (.ref f)) λp i=>?_⟩
 .obtain⟨s,c,g⟩:=k e (by simpa using he)
  exact⟨s,c,g⟩
 .obtain⟨f,c,g⟩:=f p i
  exact⟨f,W.find_K l c,apq X G g⟩
omit [aA.a4]in
@[simp] theorem akw:b0 (.fn f)=.v (.fn f):=rfl
omit [aA.a4]in
theorem Aj{K:aN}{P a c:Addr}{x y:Str}(b:W.tabIn K y=some (c,a))(ne:a≠P)(h:oO K P y=true):y=x:=by
 unfold oO at h;rw[b]at h;exact absurd (eq_of_beq h) ne
end aC
namespace aC
open PySem PySem.Spec aA
def gf(b:Bool)(h:Heap)(i l:Addr)(k:Nat):Prop:=match b with
 |true=>h.IsTupleIter i l k|false=>h.IsListIter i l k
def i9(b:Bool)(h:Heap)(l:Addr)(xs:Array Value):Prop:=match b with
 |true=>h.IsTuple l xs|false=>h.IsList l xs
def gf.extBut(x:gf b h a l i)(hs:Heap.ExtBut c h h')(d:a≠c):gf b h' a l i:=by
 cases b with
 |true=>exact Heap.IsTupleIter.extBut x hs d|false=>exact Heap.IsListIter.extBut x hs d
def i9.extBut(x:i9 b h a xs)(hs:Heap.ExtBut c h h')(d:a≠c):i9 b h' a xs:=by
 cases b with
 |true=>exact Heap.IsTuple.extBut x hs d|false=>exact Heap.IsList.extBut x hs d
def gf.obj{h:Heap}(x:gf b h a l i):∃o vs,h.get? a=some o/\o.data=.fields vs:=by
 cases b with
 |true=>obtain⟨o,e,_,d⟩:=x;exact⟨o,_,e,d⟩
 |false=>obtain⟨o,e,_,d⟩:=x;exact⟨o,_,e,d⟩
def gf.at'{h h':Heap}(x:gf b h a l i)(k:∀o,h.get? a=some o->h'.get? a=some o):gf b h' a l i:=by
 cases b with
 |true=>obtain⟨o,e,r⟩:=x;exact⟨o,k o e,r⟩
 |false=>obtain⟨o,e,r⟩:=x;exact⟨o,k o e,r⟩
def i9.obj{h:Heap}(x:i9 b h a xs):∃o n,h.get? a=some o/\o.data=.seq xs n:=by
 cases b with
 |true=>obtain⟨o,e,_,n,d⟩:=x;exact⟨o,n,e,d⟩
 |false=>obtain⟨o,e,_,n,d⟩:=x;exact⟨o,n,e,d⟩
section
variable{prog:al7}{w:World}{A:ami}{E:de}{s:alO}
def Ft{b:Bool}{it l:Addr}{i:Nat}{c:Array Value}{x:Value}{Q:de}(a:gf b s.heap it l i)(hl:i9 b s.heap l c)(e:c[i]? = some x)
  (f:∀h',gf b h' it l (i+1)->apZ it s.heap h'->Q x { s with heap:=h' }):wpAny (model prog w) A (amP (.ref it)) Q E s:=by
 cases b with
 |false=>exact wpAny_nextOf_list_item a hl e f|true=>
  have a:s.heap.IsTupleIter it l i:=a;obtain⟨o,d,h,hd⟩:=id a;obtain⟨k,g,_,nl,j⟩:=hl;unfold amP;refine alI (anl (name:=al3 "__next__") a.typeIs anR (an1 anR a.typeIs apC ?_ (apt _)));show wpAny _ _ (field (.ref it) 0 >>= _) _ _ s;refine alI (am3 d hd (x:=.ref l) rfl ?_);show wpAny _ _ (if(amI l==aob)=true then _ else _) _ _ s;rw[if_neg (show ¬((amI l==aob)=true)from alR)];show wpAny _ _ (field (.ref it) 1 >>= _) _ _ s;refine alI (am3 d hd (x:=.int i 0) rfl ?_);show wpAny _ _ (ao6 (.ref l) >>= _) _ _ s;refine alI (am9 g j ?_);simp only[apO,e];refine alI (wpAny_setField d hd (by simp) (alT ⟨x,rfl,alT (f _ ?_ (amX ..))⟩));exact⟨_,Heap.get?_update_self _ d (Obj.isFreed_of_fields (Obj.data_mapFields hd _)),(Obj.cls_mapFields ..).trans h,by rw[Obj.data_mapFields hd];simp[anS]⟩
def O3{b:Bool}{it l:Addr}{i:Nat}{d:Array Value}{Q:de}(cD:A.handled=none)(c:gf b s.heap it l i)(hl:i9 b s.heap l d)(g:d[i]? = none)
  (h:∀h' e,Heap.ExtBut it s.heap h'->(∃o,h'.get? e=some o/\o.cls=.type "StopIteration")->E (.ref e) { s with heap:=h' }):wpAny (model prog w) A (amP (.ref it)) Q E s:=by
 cases b with
 |false=>exact wpAny_nextOf_list_end cD c hl g h|true=>
  have c:s.heap.IsTupleIter it l i:=c;obtain⟨o,f,n,hd⟩:=id c;obtain⟨p,j,_,nl,k⟩:=hl;unfold amP;refine alI (anl (name:=al3 "__next__") c.typeIs anR (an1 anR c.typeIs apC ?_ (apt _)));show wpAny _ _ (field (.ref it) 0 >>= _) _ _ s;refine alI (am3 f hd (x:=.ref l) rfl ?_);show wpAny _ _ (if(amI l==aob)=true then _ else _) _ _ s;rw[if_neg (show ¬((amI l==aob)=true)from alR)];show wpAny _ _ (field (.ref it) 1 >>= _) _ _ s;refine alI (am3 f hd (x:=.int i 0) rfl ?_);show wpAny _ _ (ao6 (.ref l) >>= _) _ _ s;refine alI (am9 j k ?_);simp only[apO,g];refine alI (apU (alI (wpAny_setField f hd (by simp) ?_)));show wpAny _ _ (newExc (.type "StopIteration") [] >>= _) _ _ _;refine alI ?_;simp only[newExc,newTuple];refine alI (anD ?_ (by size_fits));refine alI (m:=firstArgMember _ _) (wpAny_of_eq (a:=aob) (by first|rfl|(simp only[firstArgMember];rfl)) ?_);refine anD ?_ (by size_fits);simp only[raiseNew];refine alI (wpAny_handled ?_)
  first|rw[show A.in1.handled=none from cD]|rw[cD]
  refine alI (alT (wpAny_throw ?_));exact h _ _ (((amX ..).extBut.push _).push _) ⟨_,alV _ rfl,rfl⟩
end
section
variable{prog:al7}{w:World}{A:ami}{E:de}{s:alO}
def aiR{p q:Bool}{z TI dM f g k l:Addr}{eF d7:Nat}{xs ys:Array Value}{x y a b:Value}{Q:Option Value->alO->Prop}(D:ZipApart z TI dM f g k l)
  (hz:IsZip s.heap z TI dM .none) (kJ:an5 s.heap TI (.ref f) (.ref g)) (lF:an5 s.heap dM a b)
  (ag:gf p s.heap f k eF) (ah:gf q s.heap g l d7) (lH:i9 p s.heap k xs) (jL:i9 q s.heap l ys) (aj:xs[eF]? = some x) (U:ys[d7]? = some y)
  (jI:∀h',IsZip h' z TI dM (anS s.heap.objs.size)->an5 h' dM x y->gf p h' f k (eF+1)->gf q h' g l (d7+1)->an5 h' s.heap.objs.size x y->
   (∀c o,c≠z->c≠dM->c≠f->c≠g->s.heap.get? c=some o->h'.get? c=some o)->Q (some (.ref s.heap.objs.size)) { s with heap:=h' }) :
  wpAny (model prog w) A (aoD (.ref z)) Q E s:=by
 have S:s.TypeIs (.ref z) "zip":=⟨_,hz,rfl⟩;unfold aoD;refine alI (wpAny_attempt (anl (name:=al3 "__next__") S apc (an1 apc S F.entry_zip_next ?_ (F.args_zip_next_1 _))));show wpAny _ _ (field (.ref z) 2 >>= _) _ _ _;refine alI (am3 hz rfl (x:=.bool false) rfl ?_);show wpAny _ _ (field (.ref z) 3 >>= _) _ _ _;refine alI (am3 hz rfl (x:=.ref TI) rfl ?_);refine alI (am9 kJ rfl ?_);show wpAny _ _ (anj (.ref z) >>= _) _ _ _;refine alI ?_;unfold anj;refine alI (am3 hz rfl (x:=.none) rfl (alT ?_));simp only[if_true];refine alI (apU ?_);refine alI (am3 hz rfl (x:=.ref dM) rfl ?_);refine alI (anO hz (by simp) λkQ G h=>?_)
 replace G:IsZip kQ z TI dM .ellipsis:=G
 refine alI ?_;simp only[List.zipIdx_cons,List.zipIdx_nil,aqb,List.forIn_nil];refine alI (alI (apL ?_));show wpAny _ _ (amP (.ref f) >>= _) _ _ _;refine alI (Ft (ag.extBut h.extBut D.i1z) (lH.extBut h.extBut D.l1z) aj λmu V j=>alT ?_);have T:an5 mu dM a b:=j.extBut _ _ D.TOi1 (h.extBut _ _ D.TOz lF);refine alI (am9 T rfl ?_);refine alI (apd T λoM I i=>?_)
 replace I:an5 oM dM x b:=I
 refine alI (aok (alT ?_));refine alI (alI (apL ?_));show wpAny _ _ (amP (.ref g) >>= _) _ _ _;refine alI (Ft (((ah.extBut h.extBut D.i2z).extBut j.extBut D.i12.symm).extBut i.extBut D.TOi2.symm)
  (((jL.extBut h.extBut D.l2z).extBut j.extBut D.l2i1).extBut i.extBut D.l2TO) U λvX X m=>alT ?_)
 have K:an5 vX dM x b:=m.extBut _ _ D.TOi2 I;refine alI (am9 K rfl ?_);refine alI (apd K λd r n=>?_)
 replace r:an5 d dM x y:=r
 refine alI (aok (alT (alT ?_)));refine alI (am9 r rfl ?_);refine alI (wpAny_newTuple ?_);have R:d.objs.size=s.heap.objs.size:=by rw[n.1,m.1,i.1,j.1,h.1]
 have P:IsZip d z TI dM .ellipsis:=n.extBut _ _ D.TOz.symm (m.extBut _ _ D.i2z.symm (i.extBut _ _ D.TOz.symm (j.extBut _ _ D.i1z.symm G)));have Z:∀c o,c≠z->c≠dM->c≠f->c≠g->s.heap.get? c=some o->d.get? c=some o:=λc o bf ae fA H e=>
  n.extBut _ _ ae (m.extBut _ _ H (i.extBut _ _ ae (j.extBut _ _ fA (h.extBut _ _ bf e))))
 have W:gf p d f k (eF+1):=((V.extBut i.extBut D.TOi1.symm).extBut m.extBut D.i12).extBut n.extBut D.TOi1.symm;have Y:gf q d g l (d7+1):=X.extBut n.extBut D.TOi2.symm;have O:z<d.objs.size:=alX P;show wpAny _ _ (aoJ (.ref z) (.ref d.objs.size) >>= _) _ _ _;refine alI ?_;unfold aoJ;have C:IsZip (d.push { cls:=.type "tuple",data:=.seq #[x,y] }) z TI dM .ellipsis:=alL _ P;refine alI (anO C (by simp) λJ B M=>?_)
 replace B:IsZip J z TI dM (anS d.objs.size):=B
 refine anO B (by simp) λu t N=>?_
 replace t:IsZip u z TI dM (anS d.objs.size):=t
 have up:∀c o,c≠z->d.get? c=some o->u.get? c=some o:=λc o bf e=>N.extBut _ _ bf (M.extBut _ _ bf (alL _ e))
 have L:an5 u d.objs.size x y:=N.extBut _ _ (Nat.ne_of_gt O) (M.extBut _ _ (Nat.ne_of_gt O) (alV _ rfl));rw[R]at t L;refine alT ⟨_,rfl,?_⟩;show wpAny _ _ (pure (some (amI d.objs.size))) _ _ _;rw[R];exact alT (jI u t (up _ _ D.TOz r) (W.at' λo e=>up _ o D.i1z e) (Y.at' λo e=>up _ o D.i2z e) L λc o bf ae fA H e=>up c o bf (Z c o bf ae fA H e))
def aiQ{G H:Bool}{z TI dM j k q r:Addr}{eF d7:Nat}{xs ys:Array Value}{a b:Value}{Q:Option Value->alO->Prop}(cD:A.handled=none)(D:ZipApart z TI dM j k q r)
  (hz:IsZip s.heap z TI dM .none) (kJ:an5 s.heap TI (.ref j) (.ref k)) (lF:an5 s.heap dM a b)
  (B:gf G s.heap j q eF) (W:gf H s.heap k r d7) (K:i9 G s.heap q xs) (U:i9 H s.heap r ys) (P:xs[eF]? = none\/ys[d7]? = none)
  (J:∀h',(∀c o,c≠z->c≠dM->c≠j->c≠k->s.heap.get? c=some o->h'.get? c=some o)->Q none { s with heap:=h' }):wpAny (model prog w) A (aoD (.ref z)) Q E s:=by
 have I:s.TypeIs (.ref z) "zip":=⟨_,hz,rfl⟩;have fin:∀h' e,(∀c o,c≠z->c≠dM->c≠j->c≠k->s.heap.get? c=some o->h'.get? c=some o)->(∃o,h'.get? e=some o/\o.cls=.type "StopIteration")->
   wpAny (model prog w) A (do
    if <-isInstance (.ref e) (.type "StopIteration")then pure none else throw (.ref e)) Q E { s with heap:=h' }:=λh' e X R=>by
  obtain⟨o,V,Y⟩:=R;refine alI (wpAny_isInstance (T:="StopIteration") (b:=true) ⟨o,V,Y⟩ isSubtype_stop ?_);exact alT (J _ X)
 unfold aoD;refine alI (wpAny_attempt (anl (name:=al3 "__next__") I apc (an1 apc I F.entry_zip_next ?_ (F.args_zip_next_1 _))));show wpAny _ _ (field (.ref z) 2 >>= _) _ _ _;refine alI (am3 hz rfl (x:=.bool false) rfl ?_);show wpAny _ _ (field (.ref z) 3 >>= _) _ _ _;refine alI (am3 hz rfl (x:=.ref TI) rfl ?_);refine alI (am9 kJ rfl ?_);show wpAny _ _ (anj (.ref z) >>= _) _ _ _;refine alI ?_;unfold anj;refine alI (am3 hz rfl (x:=.none) rfl (alT ?_));simp only[if_true];refine alI (apU ?_);refine alI (am3 hz rfl (x:=.ref dM) rfl ?_);refine alI (anO hz (by simp) λkQ m d=>?_)
 replace m:IsZip kQ z TI dM .ellipsis:=m
 refine alI ?_;simp only[List.zipIdx_cons,List.zipIdx_nil,aqb,List.forIn_nil];refine alI (alI (apL ?_));show wpAny _ _ (amP (.ref j) >>= _) _ _ _
 cases C:xs[eF]? with
 |none=>
  refine alI (O3 cD (B.extBut d.extBut D.i1z) (K.extBut d.extBut D.l1z) C λt e f he=>?_);obtain⟨p,i,l⟩:=he;have u:IsZip t z TI dM .ellipsis:=f _ _ D.i1z.symm m;have n:e≠z:=λx=>by subst x;rw[u]at i;cases i;simp at l
  exact anO u (by simp) λL _ g=>fin L e (λc o bf _ fA _ x=>g.extBut _ _ bf (f _ _ fA (d.extBut _ _ bf x))) ⟨p,g.extBut _ _ n i,l⟩
 |some x=>
  have S:ys[d7]? = none:=by rcases P with h|h;rw[C]at h;cases h;exact h
  refine alI (Ft (B.extBut d.extBut D.i1z) (K.extBut d.extBut D.l1z) C λt MJ f=>alT ?_);have O:an5 t dM a b:=f.extBut _ _ D.TOi1 (d.extBut _ _ D.TOz lF);refine alI (am9 O rfl ?_);refine alI (apd O λL y7 g=>?_);refine alI (aok (alT ?_));refine alI (alI (apL ?_));show wpAny _ _ (amP (.ref k) >>= _) _ _ _;refine alI (O3 cD (((W.extBut d.extBut D.i2z).extBut f.extBut D.i12.symm).extBut g.extBut D.TOi2.symm)
   (((U.extBut d.extBut D.l2z).extBut f.extBut D.l2i1).extBut g.extBut D.l2TO) S λvX e M he=>?_)
  obtain⟨p,i,l⟩:=he;have y:IsZip vX z TI dM .ellipsis:=M _ _ D.i2z.symm (g.extBut _ _ D.TOz.symm (f.extBut _ _ D.i1z.symm m));have n:e≠z:=λx=>by subst x;rw[y]at i;cases i;simp at l
  exact anO y (by simp) λZ _ N=>fin Z e (λc o bf ae fA vj x=>N.extBut _ _ bf (M _ _ vj (g.extBut _ _ ae (f.extBut _ _ fA (d.extBut _ _ bf x))))) ⟨p,N.extBut _ _ n i,l⟩
end
section
variable{X:aT}{zn:cW}{U:St}{H:aw}{s:alO}{h':Heap}
def Inv.QQ{t':Nat}{ch:List Addr}(J:Inv X zn U H s)(k:∀b o,b∉ch->s.heap.get? b=some o->h'.get? b=some o)(d:∀b∈ch,gQ X zn H b):Inv X zn U H { s with heap:=h',toks:=t' }:=by
 have f:∀b u,H b=some u->b∉ch:=λb u e z=>by rw[(d b z).1]at e;cases e
 refine J.step (g':=s.gens) (d':=s.drawn) (ch:=ch) (λb h=>?_) (λb o _ _ a e _=>k b o a e) (λb o _ _ a e _=>⟨o.slots,k b o a e⟩) (λ_ _ _ _ n=>n)
  (λb o a e=>⟨o,k b o a e⟩) (λ_ _ e=>e) (λ_ _ _ e=>e) (λb ps e=>⟨#[],by rw[e];simp⟩) (λm w=>?_) (λb u e=>?_) J.bare
 .obtain⟨_,j,_,t,l,p⟩:=d b h
  exact⟨t,j,l,p⟩
 .obtain⟨o,i,cm,g,r⟩:=w
  exact⟨o,i,cm,k _ o (λz=>(d _ z).2.1 rfl) g,r⟩
 .refine(J.cb b u e).sg (λc v a q=>k c v ?_ q) (λ_ q=>q) λ_ _ q=>q
  rcases a with z|z
  .rw[z];exact f b u e
  .exact f c _ z
end
def h4(b:Bool)(K:aN)(H:aw)(a:Addr)(xs:List V):Prop:=match b with
 |true=>dx K H a xs|false=>dq K H a xs
def Inv.cR{s:alO}(J:Inv X zn U H s)(h:h4 b X.K H a xs):∃its:List Value,Vals xs its/\i9 b s.heap a its.toArray:=by
 cases b with
 |true=>obtain⟨its,r,p,_⟩:=J.tuple h;exact⟨its,r,p⟩
 |false=>obtain⟨its,r,p,_⟩:=J.list h;exact⟨its,r,p.isList⟩
def Inv.QA{s:alO}(J:Inv X zn U H s)(h:h4 b X.K H a xs)(h':h4 b X.K H a ys):xs=ys:=by
 cases b with
 |true=>exact J.QO h h'|false=>exact J.Ow h h'
def Hk(K:aN)(a d:Bool)(b c:Addr):iv:=
  ⟨λi H=>(∃xs x,h4 a K H b xs/\xs[i]? = some x)/\∃ys y,h4 d K H c ys/\ys[i]? = some y,
   λi H x H'=>∃u v T,x=.ref T/\H T=none/\H'=upd H T (.t [u,v])/\(∀xs,h4 a K H b xs->xs[i]? = some u)/\∀ys,h4 d K H c ys->ys[i]? = some v,
   λi H=>∃xs ys,h4 a K H b xs/\h4 d K H c ys/\(xs.length<=i\/ys.length<=i)⟩
def ag4(b6 cw:Bool){z TI dM g j T V:Addr}(D:ZipApart z TI dM g j T V):Turn P w K (.Tuple elts jf fu) (Hk K b6 cw T V) [z,TI,dM,g,j] z
  (λi h=>IsZip h z TI dM .none/\an5 h TI (.ref g) (.ref j)/\(∃a b,an5 h dM a b)/\gf b6 h g T i/\gf cw h j V i) where
 mem:=by simp
 obj:=λi h st b c=>by
  obtain⟨hz,l,⟨x,y,r⟩,m,n⟩:=st;rcases alY.mp c with rfl|c
  .exact⟨_,hz,λv z=>by cases z⟩
  rcases alY.mp c with rfl|c
  .exact⟨_,l,λv z=>by cases z⟩
  rcases alY.mp c with rfl|c
  .exact⟨_,r,λv z=>by cases z⟩
  rcases alY.mp c with rfl|c
  .obtain⟨o,vs,e,d⟩:=m.obj;exact⟨o,e,λv z=>by rw[d]at z;cases z⟩
  rcases alY.mp c with rfl|c
  .obtain⟨o,vs,e,d⟩:=n.obj;exact⟨o,e,λv z=>by rw[d]at z;cases z⟩
  cases c
 keep:=λi h h' ⟨hz,l,⟨x,y,r⟩,m,n⟩ k=>⟨k z (by simp) _ hz,k TI (by simp) _ l,⟨x,y,k dM (by simp) _ r⟩,m.at' λo e=>k g (by simp) o e,n.at' λo e=>k j (by simp) o e⟩
 item:=by
  rintro X W hw Y hc i zn s U H E J L ⟨hz,l,⟨nd,hH,r⟩,m,n⟩ ⟨⟨xs,x,F,aj⟩,⟨ys,y,G,aX⟩⟩;subst W hw Y;obtain⟨its,S,p⟩:=Inv.cR J F;obtain⟨NP,Z,q⟩:=Inv.cR J G;obtain⟨u,cG,d9⟩:=S.get aj;obtain⟨v,bZ,R⟩:=Z.get aX;have Yx:∀b∈[z,dM,g,j],b∈[z,TI,dM,g,j]:=λb c=>by simp at c ⊢;rcases c with h|h|h|h<;>simp[h]
  refine aiR D hz l r m n p q (x:=u) (y:=v) (by simpa using cG) (by simpa using bZ) λh' a1 a2 fI iQ jz I=>⟨_,rfl,wpAny_letOwnedTupleGo_zip a1 λtc Ze B=>?_⟩
  have az:=J.cb.fresh (alQ s.heap.objs.size);have Q:=alX hz;have O:=alX r;have M:g<s.heap.objs.size:=by obtain⟨_,_,e,_⟩:=m.obj;exact alX e
  have N:j<s.heap.objs.size:=by obtain⟨_,_,e,_⟩:=n.obj;exact alX e
  have jL:Vals [x,y] [u,v]:=.cons d9 (.cons R .nil);have bg:Inv X zn U (upd H s.heap.objs.size (.t [x,y])) { s with heap:=s.heap.push { cls:=.type "tuple",data:=.seq #[u,v] } }:=
   J.laid (t':=s.toks) (λb u e=>alL _ e) (alQ _) ⟨by rw[ama];show 2<=_;decide,[u,v],jL,⟨_,alV _ rfl,rfl,_,rfl⟩⟩
  have b2:Inv X zn U (upd H s.heap.objs.size (.t [x,y])) { s with heap:=tc }:=by
   refine Inv.QQ (s:={ s with heap:=s.heap.push { cls:=.type "tuple",data:=.seq #[u,v] } }) (ch:=[z,dM,g,j]) (t':=s.toks) bg (λb o c e=>?_) λb c=>?_
   .have C:b≠z:=λq=>c (by simp[q])
    refine B.extBut _ _ C ?_;rcases Heap.get?_push_cases e with⟨rfl,rfl⟩|e
    .exact jz
    .exact I b o C (λq=>c (by simp[q])) (λq=>c (by simp[q])) (λq=>c (by simp[q])) e
   .obtain⟨f0,f⟩:=L b (Yx b c)
    refine⟨?_,f⟩;rw[c1]
    .exact f0
    .rintro rfl
     simp at c;rcases c with h|h|h|h
     .rw[<-h]at Q;exact amF _ Q
     .rw[<-h]at O;exact amF _ O
     .rw[<-h]at M;exact amF _ M
     .rw[<-h]at N;exact amF _ N
  refine⟨.ref s.heap.objs.size,_,b2,rfl,⟨x,y,_,rfl,az,rfl,λpI h'=>by rw[Inv.QA J h' F];exact aj,λalE h'=>by rw[Inv.QA J h' G];exact aX⟩,
   ⟨Ze,B.extBut _ _ D.TIz (I _ _ D.TIz D.TITO D.TIi1 D.TIi2 l),⟨_,_,B.extBut _ _ D.TOz a2⟩,fI.extBut B.extBut D.i1z,iQ.extBut B.extBut D.i2z⟩,λb c=>?_⟩
  rw[c1]
  .exact(L b c).1
  .rintro rfl
   have A:=alX l;simp at c;rcases c with h|h|h|h|h
   .rw[<-h]at Q;exact amF _ Q
   .rw[<-h]at A;exact amF _ A
   .rw[<-h]at O;exact amF _ O
   .rw[<-h]at M;exact amF _ M
   .rw[<-h]at N;exact amF _ N
 done:=by
  rintro X W hw Y hc i zn s U H E J L ⟨hz,l,⟨nd,hH,r⟩,m,n⟩ ⟨xs,ys,F,G,hl⟩;subst W hw Y;obtain⟨its,S,p⟩:=Inv.cR J F;obtain⟨NP,Z,q⟩:=Inv.cR J G;have av:=S.length;have aE:=Z.length;refine aiQ (J.ok.hd hc) D hz l r m n p q ?_ λh' I=>⟨rfl,?_⟩
  .rcases hl with hl|hl
   .exact .inl (by simp;omega)
   .exact .inr (by simp;omega)
  .refine Inv.QQ (ch:=[z,dM,g,j]) (t':=s.toks) J (λb o c e=>I b o (λq=>c (by simp[q])) (λq=>c (by simp[q])) (λq=>c (by simp[q])) (λq=>c (by simp[q])) e) λb c=>L b ?_
   simp at c ⊢;rcases c with h|h|h|h<;>simp[h]
 self:=λ_ _ _ _ _ ⟨hz,_⟩ h=>wpAny_pyIter_zip hz h
def zx(b:Bool)(l:Addr):Obj:=match b with
 |true=>{ cls:=.type "tuple_iterator",data:=.fields #[.ref l,.int 0 0] }
 |false=>{ cls:=.type "list_iterator",data:=.fields #[.ref l,.int 0 0] }
abbrev Bv(a:Bool)(h:Heap)(b:Addr):Heap:=h.push (zx a b)
abbrev Bw(a d:Bool)(h:Heap)(b c:Addr):Heap:=(Bv a h b).push (zx d c)
abbrev Bx(a d:Bool)(h:Heap)(b c:Addr):Heap:=(Bw a d h b c).push { cls:=.type "tuple",data:=.seq #[.ref h.objs.size,.ref (Bv a h b).objs.size] }
abbrev By(a d:Bool)(h:Heap)(b c:Addr):Heap:=(Bx a d h b c).push { cls:=.type "tuple",data:=.seq #[.none,.none] }
abbrev uU(a d:Bool)(h:Heap)(b c:Addr):Heap:=(By a d h b c).push { cls:=.type "zip",data:=.fields #[.none,.bool false,.bool false,.ref (Bw a d h b c).objs.size,.ref (Bx a d h b c).objs.size] }
def abc(l e:Bool)(a c:Addr)(xs ys:Array Value) :
  Meets (apr.«zip.__new__» ⟨[.type "zip",.ref a,.ref c],[]⟩) (λ_ R s=>i9 l s.heap a xs/\i9 e s.heap c ys/\
   R (.ok (.ret (.ref (By l e s.heap a c).objs.size))) { s with heap:=uU l e s.heap a c }):=by
 cases l with
 |false=>
  cases e with
  |false=>exact meets_zip_new a c xs ys|true=>
   refine .of_wp λprog w A R s h=>?_
   obtain⟨b,g,d,tk,os⟩:=s;obtain⟨i,f,h⟩:=h;have m:=sub_zip;have j:Heap.IsList (aoS ⟨b,g,d,tk,os⟩) a xs:=i;have k:ap4 (aoS ⟨b.push { cls:=.type "list_iterator",data:=.fields #[.ref a,.int 0 0] },g,d,tk,os⟩) c ys:=aqB f _
   wp_walk using anT j,aod k
   exact⟨_,rfl,h⟩
 |true=>
  cases e with
  |false=>
   refine .of_wp λprog w A R s h=>?_
   obtain⟨b,g,d,tk,os⟩:=s;obtain⟨i,f,h⟩:=h;have m:=sub_zip;have j:ap4 (aoS ⟨b,g,d,tk,os⟩) a xs:=i;have k:Heap.IsList (aoS ⟨b.push { cls:=.type "tuple_iterator",data:=.fields #[.ref a,.int 0 0] },g,d,tk,os⟩) c ys:=Heap.IsList.push f _
   wp_walk using aod j,anT k
   exact⟨_,rfl,h⟩
  |true=>
   refine .of_wp λprog w A R s h=>?_
   obtain⟨b,g,d,tk,os⟩:=s;obtain⟨i,f,h⟩:=h;have m:=sub_zip;have j:ap4 (aoS ⟨b,g,d,tk,os⟩) a xs:=i;have k:ap4 (aoS ⟨b.push { cls:=.type "tuple_iterator",data:=.fields #[.ref a,.int 0 0] },g,d,tk,os⟩) c ys:=aqB f _
   wp_walk using aod j,aod k
   exact⟨_,rfl,h⟩
def gf.new{h:Heap}(e:h.get? a=some (zx b l)):gf b h a l 0:=by
 cases b with
 |true=>exact⟨_,e,rfl,rfl⟩|false=>exact⟨_,e,rfl,rfl⟩
section
variable{prog:al7}{w:World}{A:ami}{E:de}{s:alO}
def Uj{d f:Bool}{a e:Addr}{xs ys:Array Value}{Q:de}(y:i9 d s.heap a xs)(u:i9 f s.heap e ys)
  (h:∀h',IsZip h' (s.heap.objs.size+4) (s.heap.objs.size+2) (s.heap.objs.size+3) .none->an5 h' (s.heap.objs.size+2) (.ref s.heap.objs.size) (.ref (s.heap.objs.size+1))->
   an5 h' (s.heap.objs.size+3) .none .none->gf d h' s.heap.objs.size a 0->gf f h' (s.heap.objs.size+1) e 0->
   (∀c o,s.heap.get? c=some o->h'.get? c=some o)->Q (.ref (s.heap.objs.size+4)) { s with heap:=h' }) :
  wpAny (model prog w) A (call (.type "zip") [.ref a,.ref e]) Q E s:=by
 refine callType_new F.called_zip (by decide) (F.typeCall_zip_2 _ _) (F.newCall_zip_2 _ _) (λobj=>F.args_object_init_3 obj _ _) F.entry_zip_new (abc d f a e xs ys) ⟨y,u,?_⟩;have j:(Bv d s.heap a).objs.size=s.heap.objs.size+1:=aon ..;have i:(Bw d f s.heap a e).objs.size=s.heap.objs.size+2:=by rw[aon,j]
 have k:(Bx d f s.heap a e).objs.size=s.heap.objs.size+3:=by rw[aon,i]
 have m:(By d f s.heap a e).objs.size=s.heap.objs.size+4:=by rw[aon,k]
 have n:∀b l,(zx b l).isFreed=false:=λb l=>by cases b<;>rfl
 have g:(uU d f s.heap a e).get? (By d f s.heap a e).objs.size=some _:=alV _ rfl;have r:(uU d f s.heap a e).get? (Bx d f s.heap a e).objs.size=some _:=alL _ (alV _ rfl);have q:(uU d f s.heap a e).get? (Bw d f s.heap a e).objs.size=some _:=alL _ (alL _ (alV _ rfl));have p:(uU d f s.heap a e).get? (Bv d s.heap a).objs.size=some _:=alL _ (alL _ (alL _ (alV _ (n _ _))));have t:(uU d f s.heap a e).get? s.heap.objs.size=some _:=alL _ (alL _ (alL _ (alL _ (alV _ (n _ _)))));show _/\_;rw[i,k,m]at g;rw[j,i]at q;rw[k]at r;rw[j]at p;rw[m];exact⟨⟨_,g,rfl⟩,h _ g q r (.new t) (.new p) λc o x=>
  alL _ (alL _ (alL _ (alL _ (alL _ x))))⟩
end
def Er(K:aN)(f:fQ):TI:=λU H R=>f U H λvs a=>∃d e b c,vs=[.ref b,.ref c]/\(∃xs,h4 d K a b xs)/\(∃ys,h4 e K a c ys)/\R (Hk K d e b c) a
def aeA{X:aT}{g:List Expr}{T:Nat}{Q:Pos}{p pos:Pos}(E:d_ X "zip")(S:X.mg "zip"=none)(I:gR X [a,b] o)(hs:alJ [a,b] X.env=[(false,eval a X.env),(false,eval b X.env)]:=by rfl)(y:alJ [b] X.env=[(false,eval b X.env)]:=by rfl) :
  j1 X (.Tuple g T Q) (.Call (.Name "zip" p) [a,b] [] pos) (Er X.K o):=by
 intro zn s U H R J h;refine PyProof.Rows.Call_ (nK J E S PyProof.Rows.boot_zip (am6 (bW (I pos zn s U H _ J h) λus d ⟨vs,B,f,N,bq⟩=>?_) (by rw[hs,y]) (by rw[y];rfl)));obtain⟨M,P,m,u,e,⟨xs,G⟩,⟨ys,F⟩,q⟩:=bq;subst e
 cases N with
 |cons r t=>
  cases t with
  |cons O t=>
   cases t;cases r;cases O;obtain⟨its,W,p1⟩:=Inv.cR f G;obtain⟨V,Y,cj⟩:=Inv.cR f F;have z:m<d.heap.objs.size:=by obtain⟨_,_,e,_⟩:=p1.obj;exact alX e
   have A:u<d.heap.objs.size:=by obtain⟨_,_,e,_⟩:=cj.obj;exact alX e
   refine Uj p1 cj λh' a1 a2 fI iQ jz L=>?_
   refine wpAny_pyIter_zip (s:={ d with heap:=h' }) a1 ?_;have D:ZipApart (d.heap.objs.size+4) (d.heap.objs.size+2) (d.heap.objs.size+3) d.heap.objs.size (d.heap.objs.size+1) m u:=by
    have up:∀{l:Addr}(k:Nat),l<d.heap.objs.size->l≠d.heap.objs.size+k:=λk h=>amo (amn h (an6 _ _))
    have mz:m≠d.heap.objs.size:=amo z;have w:u≠d.heap.objs.size:=amo A;have j:=λk=>up k z
    have i:=λk=>up k A
    generalize d.heap.objs.size=n at mz w j i ⊢;constructor<;>first|exact j 4|exact j 3|exact mz|exact j 1|exact i 4|exact i 3|exact w|exact i 1|(show(_:Nat)≠_;omega)
   refine⟨d.heap.objs.size+4,[d.heap.objs.size+4,d.heap.objs.size+2,d.heap.objs.size+3,d.heap.objs.size,d.heap.objs.size+1],_,_,B,rfl,f.kept (t':=d.toks) L,ag4 M P D,⟨a1,a2,⟨_,_,fI⟩,iQ,jz⟩,λc x=>?_,q⟩;have le:d.heap.objs.size<=c:=by
    simp at x;rcases x with rfl|rfl|rfl|rfl|rfl
    .exact an6 _ _
    .exact an6 _ _
    .exact an6 _ _
    .exact alQ _
    .exact an6 _ _
   exact f.ry le (f.cb.fresh le)
end aC
namespace aC
open PySem PySem.Spec aA
variable[aA.a4]
def R.walk:R->Option (List D)
 |.v (.t xs)=>some xs|.v (.l xs)=>some xs|.fr xs=>some xs|.b4 xs=>some xs|_=>none
def BR(b:Bool)(K:aN)(O:a_)(H:aw)(a:Addr)(ys:List V):Prop:=match b with
 |true=>dx K H a ys|false=>h2 K O H a ys
def BR.cR{O:a_}(h:BR b K O H a ys):h4 b K H a ys:=by
 cases b with
 |true=>exact h|false=>exact h2.cR h
def Q1{O:a_}{r:R}{v:V}(h:eu K mg O H r v)(n:jv H₀ r v)(e:r.walk=some xs):∃b a ys,v=.ref a/\BR b K (cF H₀ O) H a ys/\bl K mg (cF H₀ O) H xs ys:=by
 unfold R.walk at e;split at e
 .cases e;obtain⟨a,ys,q,l,r⟩:=h;exact⟨true,a,ys,q,l,r.c8 (i' _ _)⟩
 .cases e
  obtain⟨a,ys,q,l,r⟩:=h;exact⟨false,a,ys,q,.inl ⟨.inl l.1,.inl ((i' H₀ O).fr a l.2)⟩,r.c8 (i' _ _)⟩
 .cases e
  obtain⟨a,ys,rfl,l,t,r⟩:=h;exact⟨false,a,ys,rfl,.inl ⟨.inl l,.inl (Dw (n a rfl) t)⟩,r.c8 (i' _ _)⟩
 .cases e
  obtain⟨a,ys,q,l,r⟩:=h;refine⟨false,a,ys,q,?_,r.c8 (i' _ _)⟩;rcases l with⟨l,f⟩|l
  .refine .inl ⟨l,?_⟩
   rcases f with f|f
   .exact .inl ((i' H₀ O).fr a f)
   .exact .inr (by rw[rA (by rw[f];intro z;cases z)];exact f)
  .exact .inr l
 .cases e
end aC
namespace aC
open PySem PySem.Spec aA PyProof.Rows
variable[aA.a4]
def qh(t:aK->M Bool)(el:bt)(U:aK):List (D×D)->M (List D)
 |[]=>pure []|d::ds=>do
  let b <-t ((U.set 0 (.v d.1)).set 1 (.v d.2))
  if b=true then do
   let r <-el ((U.set 0 (.v d.1)).set 1 (.v d.2))
   let x <-r.dat
   let xs <-qh t el U ds
   pure (x::xs)
  else qh t el U ds
def xU:List R->Option (List (D×D))
 |[x,y]=>match x.walk,y.walk with
  |some xs,some ys=>some (xs.zip ys)|_,_=>none
 |_=>none
@[simp] def vk(cap:List Nat)(ms:c0)(t:aK->M Bool)(el:bt)(U:aK):M R:=do
 let rs <-ms U
 match xU rs with
 |some ds=>do
  hK (ds.length<alP)
  let xs <-qh t el (hL 2 cap U) ds
  pure (.fr xs)
 |none=>bad
def aiP(h:xU rs=some ds):∃x y xs ys,rs=[x,y]/\x.walk=some xs/\y.walk=some ys/\ds=xs.zip ys:=by
 unfold xU at h;split at h
 .rename_i x y
  split at h
  .rename_i xs ys av aE
   cases h;exact⟨x,y,xs,ys,rfl,av,aE,rfl⟩
  .cases h
 .cases h
def h4.same{b:Bool}{K:aN}{H H':aw}(s:ez H H'){a:Addr}{ys:List V}(h:h4 b K H a ys):h4 b K H' a ys:=by
 cases b with
 |true=>exact s.xq h|false=>exact s.seq h
omit [aA.a4]in
theorem NS(U:aK):∀ds,qh t el U ds=nG (λd=>some ((U.set 0 (.v d.1)).set 1 (.v d.2))) t el ds
 |[]=>rfl| d::ds=>by unfold qh nG;rw[NS U ds]
def Uw{K:aN}{mg:bo}{cap:List Nat}{ms:c0}{t:aK->M Bool}{el:bt}:∀e H Q,fL K mg (vk cap ms t el) e H Q->uG 2 cap (Er K (pw K mg ms)) (DC K 2 (s' [0,1])) (lT K mg t) (fL K mg el) e H Q:=by
 rintro e H Q ⟨O,U,S,r,aq,st,h,q⟩;obtain⟨rs,S1,F,h⟩:=M.inv h
 cases o:xU rs with
 |none=>rw[o]at h;cases h
 |some ds=>
  rw[o]at h;obtain⟨_,aY,G,h⟩:=M.inv h;obtain⟨a,rfl⟩:=rf G;obtain⟨xs,h3,p,h⟩:=M.inv h;cases h;obtain⟨x,y,I,Br,rfl,ex,C,rfl⟩:=aiP o;rw[NS]at p;refine⟨O,U,S,_,S1,st,F,λaD vs H1 z E f nn=>?_⟩;obtain⟨v1,bC,rfl,D,v2,cc,rfl,V,re⟩:=f;cases re;obtain⟨L,P,us,rfl,l,a1⟩:=Q1 (H₀:=H) D nn.1 ex;obtain⟨X,W,c,rfl,s2,a2⟩:=Q1 (H₀:=H) V nn.2.1 C;refine⟨L,X,P,W,rfl,⟨us,l.cR⟩,⟨c,s2.cR⟩,JV (E.cF H) a (λH' s=>⟨us,c,h4.same s l.cR,h4.same s s2.cR,?_⟩) (λk d pM b H' Y cm g' i=>?_) p λb v H' g i f nn=>q b v H' (z.cF.trans g) i f (nn.back z.same)⟩
  .rw[List.length_zip,a1.len,a2.len];omega
  .cases cm
   obtain⟨av,aE⟩:=List.getElem?_zip_eq_some.mp Y;obtain⟨u,B,Z⟩:=(bl.go g' (a1.c8 (j3 _))).get av;obtain⟨v,w,N⟩:=(bl.go g' (a2.c8 (j3 _))).get aE;have bq:=h4.same g'.same l.cR;have bO:=h4.same g'.same s2.cR;refine⟨⟨⟨us,u,bq,B⟩,⟨c,v,bO,w⟩⟩,λx aI R k8 J=>?_⟩;obtain⟨u',fM,T,rfl,A,rfl,zp,tj⟩:=k8;have m:=zp us bq;rw[B]at m;cases m;have n:=tj c bO;rw[w]at n;cases n;have j:Go b b H' (upd H' T (.t [u,v])):=Go.ho A;exact⟨T,[u,v],rfl,dx.of dZ,rfl,u,[v],rfl,v,[],rfl,rfl,J _ _ j (((i.ho A).val (Z.go j)).val (N.go j)) (((m5.refl _).set rfl).set rfl)⟩
section
variable{X:aT}{scope esc:Scope}{EN N:List Str}{cap:List Nat}{elt a eX:Expr}{ifs:List Expr}{pos fu p dw p1 cj:Pos}{x y:Str}{t:aK->M Bool}{el:bt}{ms:c0}{k:Nat}
def Ul(S:la esc scope EN N 2 cap)(h:d_ X "zip")(q:X.mg "zip"=none)(m:G_ X [a,eX] ms)(l:N[0]? = some x)(j:N[1]? = some y)
  (e:∀C b s H,Loc (cO X scope N C b s H).env.scope x/\(cO X scope N C b s H).env.scope.names.lookup x=some .local) (f:∀C b s H,Loc (cO X scope N C b s H).env.scope y/\(cO X scope N C b s H).env.scope.names.lookup y=some .local)
  (n:∀C b s H,BC (cO X scope N C b s H) ifs t) (r:∀C b s H,hy (cO X scope N C b s H) elt el)
  (he:X.env.scope=esc:=by rfl) (hN:X.N=EN:=by rfl) (d:X.calm=true:=by rfl) (hs:∀x,amM (.Call (.Name "zip" p) [a,eX] [] dw) X.env x=pure x:=by intro _;rfl)
  (i:alJ [a,eX] X.env=[(false,eval a X.env),(false,eval eX X.env)]:=by rfl) (u:alJ [eX] X.env=[(false,eval eX X.env)]:=by rfl)
  (c:∀C b s H,(amJ [.Name x p1,.Name y cj] (cO X scope N C b s H).env).length=2/\(amJ [.Name x p1,.Name y cj] (cO X scope N C b s H).env).findIdx? (·.1)=none/\
   (amJ [.Name x p1,.Name y cj] (cO X scope N C b s H).env).map (·.2)=aoc (.Name x p1) (cO X scope N C b s H).env::(amJ [.Name y cj] (cO X scope N C b s H).env).map (·.2)/\
   (amJ [.Name y cj] (cO X scope N C b s H).env).map (·.2)=aoc (.Name y cj) (cO X scope N C b s H).env::(amJ [] (cO X scope N C b s H).env).map (·.2):=by intros;exact⟨rfl,rfl,rfl,rfl⟩) :
  hy X (.ListComp elt [⟨.Tuple [.Name x p1,.Name y cj] k fu,.Call (.Name "zip" p) [a,eX] [] dw,ifs,0⟩] scope pos) (vk cap ms t el):=
 eb (FT (wi:=Er X.K (pw X.K X.mg ms)) (g:=DC X.K 2 (s' [0,1])) (tt:=lT X.K X.mg t) (te:=fL X.K X.mg el) S (aeA h q m i u)
  (λC b s H=>aeu d (PG S.fC l (e C b s H).1 (PG S.fC j (f C b s H).1 aew (c C b s H).2.2.2 (.inr (f C b s H).2)) (c C b s H).2.2.1 (.inr (e C b s H).2)) (c C b s H).1 (c C b s H).2.1) n r he hN d hs) Uw
end
end aC
namespace aC
open PySem PySem.Spec aA PyProof.Rows
def T3:amB "max"=some (.builtin "max"):=by decide +kernel
def kmk_max_key(a v:Value):argsOk "max" ⟨[a],[(al3 "key",v)]⟩:=by unfold argsOk;kernel_rfl
def mw(mf:bj)(d:D):Option (List Int):=match(mf [d]).run []with
 |.ok (.v (.t o)) []=>nums o|_=>none
def kd(mf:bj)(b:D)(a:List Int):List D->Option D
 |[]=>some b|d::ds=>match mw mf d with
  |some eK=>if qn eK a=true then kd mf d eK ds else kd mf b a ds|none=>none
def wO(mf:bj):List D->Option D
 |d::ds=>match mw mf d with
  |some k=>kd mf d k ds|none=>none
 |[]=>none
def yT(mf:bj)(x:R):M R:=match x.ft with
 |some ds=>match wO mf ds with
  |some r=>if ds.length<64 then pure (.v r)else bad|none=>bad
 |none=>bad
@[simp] def yB(mf:bj)(a:bt)(U:aK):M R:=do
 let x <-a U
 yT mf x
def N0{mf:bj}{k:List Int}(h:mw mf d=some k):∃a,(mf [d]).run []=.ok (.v (.t a)) []/\nums a=some k:=by
 unfold mw at h;split at h
 .rename_i a e;exact⟨a,e,h⟩
 .cases h
variable[aA.a4]
section
variable{X:aT}{zn:cW}{U:aA.St}{H:aw}{s:alO}{G:aw->Prop}{mf:bj}{f S it l:Addr}{k:Nat}{O:a_}
def next_item{xs:List V}{v:V}{E:de}{A:ami}(J:Inv X zn U H1 s)(I:dq X.K H1 l xs)(t:xs[j]? = some v)(n:gQ X zn H1 it)(a:s.heap.IsListIter it l j)(cD:A.handled=none) :
  wpAny (model X.prog X.w) A (aoD (.ref it)) (λr h=>∃u,r=some u/\RelV v u/\Inv X zn U H1 h/\h.heap.IsListIter it l (j+1)) E s:=by
 obtain⟨us,q,pl,_⟩:=J.list I;have hl:s.heap.IsList l us.toArray:=pl.isList;have P:l≠it:=by
  rintro rfl;obtain⟨o,e,c,_⟩:=a;obtain⟨Q,d,c',_⟩:=hl;rw[e]at d;cases d;rw[c]at c';injection c' with z;exact absurd z (by decide)
 obtain⟨u,g,x⟩:=q.get t;have W:=aqn (prog:=X.prog) (w:=X.w) (A:=A) cD it l P us.toArray;refine W.item j s _ _ (by have:=(alK.mp g).1;simpa using this) ⟨a,hl⟩ λu' h' i y m N=>?_
 have e:some u'=some u:=by rw[<-g];simpa using y.symm
 cases e;obtain⟨B,D,R,M,F,L⟩:=n;exact⟨u,rfl,x,J.turned (t':=i) (λb o p e=>N b o (by simpa using p) e) B D M F L,m.1⟩
def acQ{xs:List V}{E:de}{A:ami}(J:Inv X zn U H1 s)(x:dq X.K H1 l xs)(n:j=xs.length)(h:gQ X zn H1 it)(a:s.heap.IsListIter it l j)(cD:A.handled=none) :
  wpAny (model X.prog X.w) A (aoD (.ref it)) (λr I=>r=none/\Inv X zn U H1 I) E s:=by
 obtain⟨us,m,pl,_⟩:=J.list x;have hl:s.heap.IsList l us.toArray:=pl.isList;have F:l≠it:=by
  rintro rfl;obtain⟨o,e,c,_⟩:=a;obtain⟨L,d,c',_⟩:=hl;rw[e]at d;cases d;rw[c]at c';injection c' with z;exact absurd z (by decide)
 have W:=aqn (prog:=X.prog) (w:=X.w) (A:=A) cD it l F us.toArray;have u:j=us.toArray.size:=by rw[alS,n,m.length]
 rw[u]at a;refine W.done s _ _ ⟨a,hl⟩ λh' g D=>?_
 obtain⟨p,q,M,B,t,y⟩:=h;exact⟨rfl,J.turned (t':=g) (λb o i e=>D b o (by simpa using i) e) p q B t y⟩
def N3{i:a_}{v:V}{A:ami}(F:n' X k f G mf)(P:cB k A.in1)(d3:lb X.prog X.w X.K X.mg X.base A.in1 X.stack s H1)(J:Inv X zn U H1 s)(fl:dh i H1)(I:G H1)(dg:Rep X.K X.mg i H1 d v)(d9:RelV v u)(hd:(mf [d]).run []=.ok (.v o) [])(B:gQ X zn H1 it)(t:s.heap.IsListIter it l j) :
  wpAny (model X.prog X.w) A.in1 (call (.ref f) [u]) (λu' s2=>∃(n:a_)(a:aw)(c:V),Inv X zn U a s2/\Go i n H1 a/\dh n a/\G a/\Rep X.K X.mg n a o c/\RelV c u'/\gQ X zn a it/\s2.heap.IsListIter it l j) (λ_ _=>False) s:=by
 obtain⟨y,L,C,M⟩:=t;have N:Inv X (zn++sa [it] s.heap) U H1 s:=J.pinned (λb p=>by rw[amb.mp p];exact B) λb p=>by
  rw[amb.mp p];exact⟨y,L,λv z=>by rw[M]at z;cases z⟩
 refine wpAny_call (aoo (F.2.2 A.in1 s H1 u v (λc H'=>∃m,Go i m H1 H'/\dh m H'/\Rep X.K X.mg m H' o c) P d3 I d9 ?_) λr s2 h=>?_)
 .refine⟨i,[d],.v o,[],fl,fY.nil,⟨v,[],rfl,?_,rfl⟩,hd,λm c H' g W T _=>⟨m,g,W,T⟩⟩
  cases d<;>first|exact dg|exact amu dg|skip
  obtain⟨x,zs,q,l,r⟩:=dg;exact⟨x,zs,q,l.cR,r⟩
 .cases r with
  |error e=>exact amu h|ok Q=>
   cases Q with
   |ret u'=>
    obtain⟨c,a,D,R,n,E,Y,Z⟩:=N.after h;have pin:=D.pin (it,y) (amD _ (amD _ (by unfold sa;simp[L])));exact⟨n,a,c,D.xH,E,Y,F.1 _ _ E.same I,Z,R,⟨pin.2.1,B.2⟩,⟨y,pin.1,C,M⟩⟩
   |next=>exact amu h
   |brk=>exact amu h|cont=>exact amu h
structure Rt(X:aT)(zn:cW)(U:aA.St)(G:aw->Prop)(O:a_)(H:aw)(S it l:Addr)(j:Nat)(d:D)(d4:List Int)(a3:alO):Prop where
 ex:∃ak H' v kv,Inv X zn U H' a3/\Go O ak H H'/\dh ak H'/\G H'/\H' S=some (.l [v,kv])/\Rep X.K X.mg ak H' d v/\Rep X.K X.mg ak H' (.t (d4.map D.int)) kv/\ak S=.dn/\gQ X zn H' it/\a3.heap.IsListIter it l j
def Hl(X:aT)(zn:cW)(U:aA.St)(O:a_)(H:aw)(res:D)(u:Value)(b:alO):Prop:=
 ∃a H' v,Inv X zn U H' b/\Go O a H H'/\dh a H'/\Rep X.K X.mg a H' res v/\RelV v u
def Qc{K:aN}{mg:bo}{O:a_}{H:aw}{c:List D}{b:List Int}{v:V}(r:Rep K mg O H (.t c) v)(e:nums c=some b):Rep K mg O H (.t (b.map D.int)) v:=by
 obtain⟨a,ys,rfl,cR,d⟩:=r;have:=An d e;subst this;exact⟨a,_,rfl,cR,Qa b⟩
def Qd{K:aN}{mg:bo}{O:a_}{H:aw}{b:List Int}{v:V}(r:Rep K mg O H (.t (b.map D.int)) v):∃a,v=.ref a/\dx K H a (b.map V.int):=by
 obtain⟨a,ys,rfl,cR,g⟩:=r;have:∀(b:List Int)(ys:List V),bl K mg O H (b.map D.int) ys->ys=b.map V.int:=by
  intro b
  induction b with
  |nil=>intro ys h;exact h|cons a t c=>
   intro ys h;obtain⟨y,r,rfl,d,e⟩:=h;rw[show y=V.int a from d,c _ e];rfl
 rw[this b ys g]at cR;exact⟨a,rfl,cR⟩
def vals2{v kv:V}(h:Vals [v,kv] its):∃u a,its=[u,a]/\RelV v u/\RelV kv a:=by
 cases h with
 |cons b c=>cases c with
  |cons d e=>cases e;exact⟨_,_,rfl,b,d⟩
def Jp{a:aw}{its:List Value}{v kv:V}(J:Inv X zn U a s)(h:a S=some (.l zs))(i:s.heap.get? S=some (amO "list" its.toArray ra))(g:RelV v u)(m:RelV kv C) :
  Inv X zn U (upd a S (.l [v,kv])) { s with heap:=s.heap.update S (amj λ_=>#[u,C]) }:=by
 have j:=amX s.heap S (amj λ_=>#[u,C]);obtain⟨ae,c⟩:∃ae,(s.heap.update S (amj λ_=>#[u,C])).get? S=some (amO "list" #[u,C] ae):=⟨_,aof i λ_=>#[u,C]⟩;refine J.write (x:=S) (e:=S) (t':=s.toks) (by rw[h];trivial) (.inl rfl) (λb o d e=>(j.2 b d).trans e) ⟨_,c⟩ ⟨by rw[ama];simp,[u,C],ae,.cons g (.cons m .nil),c⟩
def TB{a:aw}{its:List Value}(J:Inv X zn U a s)(g:a S=some (.l zs))(h:s.heap.get? S=some (amO "list" its.toArray C)) :
  Inv X zn U (upd a S (.l [])) { s with heap:=s.heap.update S (amj λ_=>#[]) }:=by
 have i:=amX s.heap S (amj λ_=>(#[]:Array Value));obtain⟨ae,c⟩:∃ae,(s.heap.update S (amj λ_=>(#[]:Array Value))).get? S=some (amO "list" #[] ae):=⟨_,aof h λ_=>#[]⟩;refine J.write (x:=S) (e:=S) (t':=s.toks) (by rw[g];trivial) (.inl rfl) (λb o d e=>(i.2 b d).trans e) ⟨_,c⟩ ⟨amt _,[],ae,.nil,c⟩
def NK{h:Heap}(c:S≠it)(a:h.IsListIter it l j):(h.update S g).IsListIter it l j:=by
 obtain⟨e,d,b,i⟩:=a;exact⟨e,((amX h S g).2 it c.symm).trans d,b,i⟩
def Mq(b:S≠it)(a:gQ X zn H1 it):gQ X zn (upd H1 S o) it:=⟨by rw[c1 b.symm];exact a.1,a.2⟩
def abb{res:D}(gk:n' X k f G mf)(V:cB (k+1) X.A)(Ng:H S=none)(rF:S≠it)(bx:bl X.K X.mg O H ds xs)(hl:dq X.K H l xs) :
  ∀(r:List D)(j:Nat)(d:D)(h:List Int)(q:alO),ds.drop j=r->Rt X zn U G O H S it l j d h q->j<=ds.length->kd mf d h r=some res->
   aow (model X.prog X.w) X.A (.builtin "max.loop" ⟨[.ref it,.ref f,.ref S],[]⟩) (λr q=>∃u,r=.ok (.ret u)/\Hl X zn U O H res u q) q:=by
 have vU:(toString "max"++toString ".loop":String)="max.loop":=by decide
 have cD:X.A.in1.handled=none:=V.in1.hd;have aaT:=bx.len;intro r
 induction r with
 |nil=>
  intro j d h q R B a' a;cases a;obtain⟨aD,H1,v,kv,y,b,J,lh,e,dg,xj,o,M,m⟩:=B.ex;obtain⟨gJ,its,n,c,iX⟩:=y.cb S _ e;obtain⟨u,my,rfl,d9,Qg⟩:=vals2 c;have T:j=xs.length:=by
   have:=congrArg anz R;rw[amL,am4]at this;omega
  refine aqc aoT ?_;rw[ape ana _];show wpAny _ X.A.in1 (ao6 (.ref S) >>= _) _ _ _;refine alI (am9 iX rfl ?_);show wpAny _ X.A.in1 (tryCatch (aoD (.ref it)) _ >>= _) _ _ _;refine alI (aor (amH (acQ (E:=λ_ _=>False) y (b.same.seq hl) T M m cD) (λr s1 t=>?_) λ_ _ L=>L.elim));obtain⟨rfl,x⟩:=t;obtain⟨_,kR,e2,Z,M9⟩:=x.cb S _ e;show wpAny _ X.A.in1 (updateSeq S (λ_=>#[]) >>= _) _ _ _;refine alI ?_;refine apf M9 rfl (hz:=by rw[alS,<-Z.length,ama];simp) (alI (aok (alT ?_)));exact⟨u,rfl,aD,_,v,TB x e M9,⟨uN Ng b.same e _,b.own,b.bD⟩,J.dY e,dg.dY (by rw[o];intro z;cases z) e,d9⟩
 |cons P r aP=>
  intro j d h q R B a' a;unfold kd at a
  cases hb:mw mf P with
  |none=>rw[hb]at a;cases a
  |some eK=>
   rw[hb]at a
   replace a:(if qn eK h=true then kd mf P eK r else kd mf d h r)=some res:=a
   obtain⟨b3,hm,az⟩:=N0 hb;obtain⟨aD,H1,v,kv,y,b,J,lh,e,dg,xj,o,M,m⟩:=B.ex;obtain⟨gJ,its,n,c,iX⟩:=y.cb S _ e;obtain⟨u,my,rfl,d9,Qg⟩:=vals2 c;have I:ds[j]? = some P:=by
    have:=congrArg (·[0]?) R;simpa using this
   have M4:ds.drop (j+1)=r:=by
    have:=congrArg (List.drop 1) R;simpa[apo]using this
   have T:j+1<=ds.length:=(alK.mp I).1;obtain⟨v2,Y9,xi⟩:=bx.get I;refine aqc aoT ?_;rw[ape ana _];show wpAny _ X.A.in1 (ao6 (.ref S) >>= _) _ _ _;refine alI (am9 iX rfl ?_);show wpAny _ X.A.in1 (tryCatch (aoD (.ref it)) _ >>= _) _ _ _;refine alI (aor (amH (next_item (E:=λ_ _=>False) y (b.same.seq hl) Y9 M m cD) (λr s1 t=>?_) λ_ _ L=>L.elim));obtain⟨iH,rfl,xl,x,D3⟩:=t;show wpAny _ X.A.in1 (tryCatch (ang [iH] (call (.ref f) [iH])) _ >>= _) _ _ _;refine alI (aor (anh (amH (N3 gk V.in1 x.vw.in1 x J lh (xi.go b) xl hm M D3) (λQT s3 t=>?_) λ_ _ L=>L.elim)));obtain⟨C,cZ,N',F,g,p4,x3,F',Ga,yZ,ze⟩:=t;have i:=g.same.at' _ _ e;have Q:C S=.dn:=(g.own S (by rw[e];intro z;cases z)).trans o;obtain⟨_,ZF,ke,p,vR⟩:=F.cb S _ i;have AF:=Qc F' az;obtain⟨fI,rfl,W⟩:=Qd AF;obtain⟨a1,rfl,Y⟩:=Qd (xj.go g);cases Ga;cases Qg;obtain⟨t3,Eo,Av,_⟩:=F.tuple W;obtain⟨t1,eR,p1,_⟩:=F.tuple Y;show wpAny _ X.A.in1 (tryCatch (ang [iH,.ref fI] (richCompare .Gt (.ref fI) (.ref a1) >>= _)) _ >>= _) _ _ _;refine alI (aor (anh (alI ((Wa Av p1 (intsAre_of Eo) (intsAre_of eR) V.in1.ahc ?_)))));refine alI (anh (amY ?_));refine alI (aok (alT ?_))
   by_cases N:qn eK h=true
   .rw[if_pos N]at a
    simp only[N,if_true];refine alI ?_;refine apf vR rfl (hz:=by rw[alS,<-p.length,ama];simp) (alI (aok ?_));rw[vU];refine alT ⟨apM ana _,aP (j+1) P eK _ M4 ?_ T a⟩;exact⟨C,_,v2,.ref fI,Jp (v:=v2) (kv:=.ref fI) F i vR xl (show RelV (.ref fI) (.ref fI)from rfl),⟨uN Ng (b.trans g).same i _,(b.trans g).own,(b.trans g).bD⟩,p4.dY i,gk.2.1 _ _ _ _ i x3,dZ,(xi.go (b.trans g)).dY (by rw[Q];intro z;cases z) i,AF.dY (by rw[Q];intro z;cases z) i,Q,Mq rF yZ,NK rF ze⟩
   .rw[if_neg N]at a
    simp only[N,if_false];refine alI (aok ?_);rw[vU];refine alT ⟨apM ana _,aP (j+1) d h _ M4 ?_ T a⟩;exact⟨C,cZ,v,.ref a1,F,b.trans g,p4,x3,i,dg.go g,xj.go g,Q,yZ,ze⟩
theorem aba{E:de}(J:Inv X zn U H s)(cV:dh O H)(N:bl X.K X.mg O H ds xs)(hl:dq X.K H l xs)(n:n' X k f G mf)(qa:G H)(t:cB (k+1) X.A)(g:wO mf ds=some res) :
  wpAny (model X.prog X.w) X.A (call (.builtin "max") [.ref l] [(al3 "key",.ref f)]) (Hl X zn U O H res) E s:=by
 have V:(toString "max"++toString ".loop":String)="max.loop":=by decide
 have cD:X.A.in1.handled=none:=t.in1.hd
 cases ds with
 |nil=>cases g
 |cons d ds=>
  replace g:(match mw mf d with|some k=>kd mf d k ds|none=>none)=some res:=g
  cases hb:mw mf d with
  |none=>rw[hb]at g;cases g
  |some eK=>
   rw[hb]at g;obtain⟨b3,au,az⟩:=N0 hb;obtain⟨us,bN,pl,_⟩:=J.list hl;have YP:s.heap.IsList l us.toArray:=pl.isList;refine kmk_tree PySem.F.kind_max PySem.F.plain_max PySem.F.entry_max (kmk_max_key _ _) ?_;show wpAny _ X.A.in1 (apD "max" ["key","default"] 0 ⟨[],[(al3 "key",.ref f)]⟩ >>= _) _ _ s;refine alI (wpAny_of_eq (show apD "max" ["key","default"] 0 ⟨[],[(al3 "key",.ref f)]⟩=pure [some (.ref f),none]from rfl) ?_);refine alI (alT ?_);refine alI (anT YP ?_);refine alI (wpAny_newList ?_ (amt _));rw[V];have M:Inv X zn U H { s with heap:=s.heap.push { cls:=.type "list_iterator",data:=.fields #[.ref l,.int 0 0] } }:=J.kept (t':=s.toks) λb o e=>alL _ e
   have h8:(s.heap.push { cls:=.type "list_iterator",data:=.fields #[.ref l,.int 0 0] }).get? s.heap.objs.size=some { cls:=.type "list_iterator",data:=.fields #[.ref l,.int 0 0] }:=alV _ rfl;have gJ:(s.heap.push { cls:=.type "list_iterator",data:=.fields #[.ref l,.int 0 0] }).objs.size=s.heap.objs.size+1:=size_push' ..;generalize akP:s.heap.push { cls:=.type "list_iterator",data:=.fields #[.ref l,.int 0 0] }=C at *;have q:H C.objs.size=none:=M.cb.fresh (alQ _);have p:C.objs.size≠s.heap.objs.size:=by rw[gJ];omega
   have b2:Inv X zn U (upd H C.objs.size (.l [])) { s with heap:=C.push (amO "list" #[] 0) }:=
    M.laid (t':=s.toks) (λb o e=>alL _ e) (alQ _) ⟨amt _,[],0,.nil,alV _ rfl⟩
   have L:gQ X zn (upd H C.objs.size (.l [])) s.heap.objs.size:=J.ry (alQ _) (by rw[c1 p.symm];exact J.cb.fresh (alQ _));have x:(C.push (amO "list" #[] 0)).IsListIter s.heap.objs.size l 0:=⟨_,alL _ h8,rfl,rfl⟩;have a:Go O (fV O C.objs.size .dn) H (upd H C.objs.size (.l [])):=Go.new q;have UM:dh (fV O C.objs.size .dn) (upd H C.objs.size (.l [])):=cV.new q;have uh:fV O C.objs.size .dn C.objs.size=.dn:=lU;have I:upd H C.objs.size (.l []) C.objs.size=some (.l []):=dZ;have iX:(C.push (amO "list" #[] 0)).get? C.objs.size=some (amO "list" #[] 0):=alV _ rfl;refine alT ⟨apM ana _,?_⟩;generalize C.push (amO "list" #[] 0)=ah at *;generalize C.objs.size=S at *;generalize s.heap.objs.size=it at *;generalize fV O S .dn=bp at *;generalize upd H S (.l [])=aI at *;obtain⟨v,bZ,dg⟩:=N.get (i:=0) (d:=d) rfl;refine aqc aoT ?_;rw[ape ana _];show wpAny _ X.A.in1 (ao6 (.ref S) >>= _) _ _ _;refine alI (am9 iX rfl ?_);show wpAny _ X.A.in1 (tryCatch (aoD (.ref it)) _ >>= _) _ _ _;refine alI (aor (amH (next_item (E:=λ_ _=>False) b2 (a.same.seq hl) bZ L x cD) (λr s1 c=>?_) λ_ _ B=>B.elim));obtain⟨y,rfl,W,P,Z⟩:=c;show wpAny _ X.A.in1 (tryCatch (ang [y] (call (.ref f) [y])) _ >>= _) _ _ _;refine alI (aor (anh (amH (N3 n t.in1 P.vw.in1 P UM (n.1 _ _ a.same qa) (dg.go a) W au L Z) (λQT s3 c=>?_) λ_ _ B=>B.elim)));obtain⟨Q,cZ,N',R,m,p4,x3,F',Ga,yZ,ze⟩:=c;have h:=m.same.at' _ _ I;have D:Q S=.dn:=(m.own S (by rw[I];intro z;cases z)).trans uh;obtain⟨_,ZF,ke,j,T⟩:=R.cb S _ h;have Y:=Qc F' az;show wpAny _ X.A.in1 (updateSeq S (λ_=>#[y,QT]) >>= _) _ _ _;refine alI ?_;refine apf T rfl (hz:=by rw[alS,<-j.length,ama];simp) ?_;rw[V];refine alT ⟨apM ana _,aoo (abb (zn:=zn) (U:=U) n t q p N hl ds 1 d eK _ rfl ?_ (by simp) g) λr a3 c=>?_⟩
   .exact⟨Q,_,v,N',Jp R h T W Ga,⟨uN q (a.trans m).same h _,(a.trans m).own,(a.trans m).bD⟩,p4.dY h,n.2.1 _ _ _ _ h x3,dZ,(dg.go (a.trans m)).dY (by rw[D];intro z;cases z) h,Y.dY (by rw[D];intro z;cases z) h,D,Mq p yZ,NK p ze⟩
   .obtain⟨u,rfl,c⟩:=c
    exact c
end
section
variable{X:aT}{k:Nat}{e:Expr}{cM:bt}{p pos kp:Pos}{jg:Expr}{mf:bj}{G:Addr->aw->Prop}
def Um(L:d_ X "max")(hm:X.mg "max"=none)(I:cB (k+1) X.A)(P:hy X e cM)
  (ei:∀(zn:cW)(s:alO)(U:aA.St)(O:a_)(H:aw),Inv X zn U H s->dh O H->
   wpAny (model X.prog X.w) X.A (eval jg X.env) (λu F=>∃(f:Addr)(H':aw)(G:aw->Prop),u=.ref f/\Inv X zn U H' F/\Go O O H H'/\dh O H'/\G H'/\n' X k f G mf) X.dH s)
  (he:amg pos (alJ [e] X.env)=(false,eval e X.env)::amg pos (alJ [] X.env):=by rfl)
  (hs:alJ [e] X.env=(false,eval e X.env)::alJ [] X.env:=by rfl)
  (ib:(amg pos (alJ [e] X.env)).any (·.1)=false:=by rfl) :
  hy X (.Call (.Name "max" p) [e] [⟨some (al3 "key"),jg,kp⟩] pos) (yB mf cM):=by
 rintro zn s U H Q J ⟨O,B,S,r,T,st,h,q⟩;obtain⟨x,S1,N,h⟩:=M.inv h;obtain⟨ds,res,oJ,E,lE,rfl,rfl⟩:∃ds res,x.ft=some ds/\wO mf ds=some res/\ds.length<64/\r=.v res/\S1=T:=by
  unfold yT at h;split at h
  .rename_i ds av
   split at h
   .rename_i res aE
    by_cases c:ds.length<64
    .rw[if_pos c]at h
     cases h;exact⟨ds,res,av,aE,c,rfl,rfl⟩
    .rw[if_neg c]at h;cases h
   .cases h
  .cases h
 refine am7 (nK J L hm T3 ?_);refine callWith_kw ?_ he ib rfl rfl;refine bW ((uj P Aw hs) pos zn s U H (λvs b=>∃v a,vs=[v]/\Go O a H b/\cN X.K X.mg a B S1 U b/\eu X.K X.mg a b x v) J ⟨O,B,S,x,S1,st,N,λa v b t d n nn=>⟨v,a,rfl,t,d,n⟩⟩) λus s1 i=>?_
 obtain⟨vs,b,Z,Y,v,a,ev,t,d,n⟩:=i;subst ev;obtain⟨l,ys,rfl,hl,o⟩:=R.oW n oJ;obtain⟨u,rfl,d9⟩:=vals1 Y;cases d9;refine wpAny_evalAll_cons (alI (bW (ei zn s1 U a b Z d.ck) λu s2 V=>alI (aoU (alT ?_))));obtain⟨f,aI,G,rfl,W,g,C,D,gk⟩:=V;refine wpAny_evalAll_nil ?_;show wpAny _ _ (call (.builtin "max") [.ref l] [(al3 "key",.ref f)]) _ _ _;refine bW (aba W C (o.go g) (g.same.seq hl) gk D I E) λu s3 i=>?_
 obtain⟨e6,y,v,dG,z,p4,m,j⟩:=i;exact⟨v,y,dG,j,q e6 _ y (t.trans (g.trans z)) (d.go (g.trans z) p4) m trivial⟩
def Un{c P:Addr}{q p1:Str}{params:aoF}{body:Expr}{scope:Scope}{y:Pos}{N:List Str}{m:bt}(i:d_ X "max")(t:X.mg "max"=none)(h:cB (k+3) X.A)(L:pU X.K c P q)(B:iI X.base X.mg)(F:X.env.code=.ref c)
  (g:X.env.qual++al3 "<lambda>"=q) (d:gP N [p1] scope)
  (D:∀(c:Addr)(b a u:Value),an0 (W.kla_fn (al3 "<lambda>") q params body scope [] b (.ref c) a) ⟨[u],[]⟩=pure [(p1,u)])
  (j:∀(f c:Addr)(A:ami)(s:alO)(H:aw),cB k (A.deeper (aop q scope s.heap.objs.size f (.ref c)))->hy (gU ey X.prog X.w X.K X.mg X.base N q scope f (.ref c) A X.stack s H i5).gB body m)
  (l:hy X e cM) (M:apV params X.env=([],[]):=by rfl) (E:aoe scope X.env=pure []:=by rfl)
  (he:amg pos (alJ [e] X.env)=(false,eval e X.env)::amg pos (alJ [] X.env):=by rfl)
  (hs:alJ [e] X.env=(false,eval e X.env)::alJ [] X.env:=by rfl)
  (x:(amg pos (alJ [e] X.env)).any (·.1)=false:=by rfl) :
  hy X (.Call (.Name "max" p) [e] [⟨some (al3 "key"),.Lambda params body scope y,kp⟩] pos) (yB (fnOf 1 N.length (a0 m)) cM):=
 Um (k:=k+1) i t (h.mono (by omega)) l (λzn s U O H J n=>bW (Oi J n L B F g M E) λu Q ⟨f,c',b,a,H',I,r,g',d',z⟩=>
  ⟨f,H',_,I,r,g',d',z,Oj d (D c' b a) (j f c')⟩) he hs x
end
end aC
namespace aC
open PySem PySem.Spec aA PyProof.Rows
variable[aA.a4]
section
variable{X:aT}{scope esc:Scope}{EN N:List Str}{cap:List Nat}{elt a eX:Expr}{ifs:List Expr}{pos fu p dw p1 cj:Pos}{x y:Str}{t:aK->M Bool}{el:bt}{ms:c0}{k:Nat}
def ahx(S:la esc scope EN N 2 cap)(c:d_ X "zip")(j:X.mg "zip"=none)(g:gv X [a,eX] ms)(f:N[0]? = some x)(e:N[1]? = some y)
  (l:∀C b s H,Loc (cO X scope N C b s H).env.scope x/\(cO X scope N C b s H).env.scope.names.lookup x=some .local) (r:∀C b s H,Loc (cO X scope N C b s H).env.scope y/\(cO X scope N C b s H).env.scope.names.lookup y=some .local)
  (h:∀C b s H,q7 (cO X scope N C b s H) ifs t) (m:∀C b s H,bb (cO X scope N C b s H) elt el)
  (he:X.env.scope=esc:=by rfl) (hN:X.N=EN:=by rfl) (i:X.calm=true:=by rfl) (hs:∀x,amM (.Call (.Name "zip" p) [a,eX] [] dw) X.env x=pure x:=by intro _;rfl)
  (d:alJ [a,eX] X.env=[(false,eval a X.env),(false,eval eX X.env)]:=by rfl) (n:alJ [eX] X.env=[(false,eval eX X.env)]:=by rfl)
  (q:∀C b s H,(amJ [.Name x p1,.Name y cj] (cO X scope N C b s H).env).length=2/\(amJ [.Name x p1,.Name y cj] (cO X scope N C b s H).env).findIdx? (·.1)=none/\
   (amJ [.Name x p1,.Name y cj] (cO X scope N C b s H).env).map (·.2)=aoc (.Name x p1) (cO X scope N C b s H).env::(amJ [.Name y cj] (cO X scope N C b s H).env).map (·.2)/\
   (amJ [.Name y cj] (cO X scope N C b s H).env).map (·.2)=aoc (.Name y cj) (cO X scope N C b s H).env::(amJ [] (cO X scope N C b s H).env).map (·.2):=by intros;exact⟨rfl,rfl,rfl,rfl⟩) :
  bb X (.ListComp elt [⟨.Tuple [.Name x p1,.Name y cj] k fu,.Call (.Name "zip" p) [a,eX] [] dw,ifs,0⟩] scope pos) (vk cap ms t el):=
 ⟨Ul S c j g.un f e l r (λC b s H=>(h C b s H).un) (λC b s H=>(m C b s H).un) he hN i hs d n q⟩
end
section
variable{X:aT}{k:Nat}{e:Expr}{cM:bt}{p pos kp:Pos}
def ahB{c P:Addr}{q p1:Str}{params:aoF}{body:Expr}{scope:Scope}{r:Pos}{N:List Str}{m:bt}(g:d_ X "max")(l:X.mg "max"=none)(a:cB (k+3) X.A)(L:pU X.K c P q)(B:iI X.base X.mg)(y:X.env.code=.ref c)
  (d:X.env.qual++al3 "<lambda>"=q) (b:gP N [p1] scope)
  (t:∀(c:Addr)(D j u:Value),an0 (W.kla_fn (al3 "<lambda>") q params body scope [] D (.ref c) j) ⟨[u],[]⟩=pure [(p1,u)])
  (h:∀(f c:Addr)(A:ami)(s:alO)(H:aw),cB k (A.deeper (aop q scope s.heap.objs.size f (.ref c)))->bb (gU ey X.prog X.w X.K X.mg X.base N q scope f (.ref c) A X.stack s H i5).gB body m)
  (i:bb X e cM) (z:apV params X.env=([],[]):=by rfl) (x:aoe scope X.env=pure []:=by rfl)
  (he:amg pos (alJ [e] X.env)=(false,eval e X.env)::amg pos (alJ [] X.env):=by rfl)
  (hs:alJ [e] X.env=(false,eval e X.env)::alJ [] X.env:=by rfl)
  (n:(amg pos (alJ [e] X.env)).any (·.1)=false:=by rfl) :
  bb X (.Call (.Name "max" p) [e] [⟨some (al3 "key"),.Lambda params body scope r,kp⟩] pos) (yB (fnOf 1 N.length (a0 m)) cM):=
 ⟨Un g l a L B y d b t (λf c A s H a=>(h f c A s H a).un) i.un z x he hs n⟩
end
omit [aA.a4]in
section
open c4
variable{prog:al7}{w:World}{A:ami}{E:de}{s:alO}
omit [aA.a4]in
theorem VT{t bc:Addr}{a:Array Value}{c d:Value}{lo hi:Option Int}{Q:de}(b:IsTup s.heap t a)(hs:s.heap.IsSliceOf bc c d .none)(pl:aoN c lo)(f:aoN d hi)
  (hw:cu a.size 0 lo=0/\cu a.size a.size hi=a.size)
  (h:Q (.ref t) s):wpAny (model prog w) A (ao3 (.ref t) (.ref bc)) Q E s:=by
 obtain⟨os,g,i,j⟩:=id hs;have e:s.TypeIs (.ref bc) "slice":=⟨os,g,i⟩;unfold ao3
 try with_reducible refine anh ?_
 first|refine alI (alT ?_)|skip
 refine alI (wpAny_sequenceKey b.typeIs (by decide) ?_);refine alI (anl (name:=al3 "__getitem__") b.typeIs amS
  (an1 amS b.typeIs entry_tuple_getitem ?_ (args_tuple_getitem _ _)))
 show wpAny _ _ (apH (.ref t) >>= _) _ _ s;refine alI (tupleItemsOf_ b ?_);refine alI (wpAny_typeOf e ?_);rw[if_pos (by decide)];refine alI (Qu hs pl f ?_);rw[hw.1,hw.2];show wpAny _ _ (if((((0:Nat):Int))==0&&(1:Int)==1&&(a.size-0)==a.size)=true then _ else _) _ _ s;rw[if_pos (by simp)];refine alI (m:=Builtin.Tuple.tupleIsExact _) (alI (wpAny_typeOf b.typeIs (alT ?_)));rw[if_pos (by decide)];refine alI (apU ?_)
 first
  |exact alI (alT (alT ⟨_,rfl,alT h⟩))
  |exact alI (alT ⟨_,rfl,alT h⟩)
  |exact alT ⟨_,rfl,alT h⟩
omit [aA.a4]in
omit [aA.a4]in
omit [aA.a4]in
end
def aff(K:aN):V->Option Int->Option Int->aw->cE->Prop:=λx lo hi H Q=>∃a xs,x=.ref a/\dx K H a xs/\(c4.cu xs.length 0 lo=0/\c4.cu xs.length xs.length hi=xs.length)/\Q (.ref a) H
omit [aA.a4]in
theorem afP:od X (aff X.K):=by
 intro zn s U H x v g i lo hi bc Q J d hs pl f h;obtain⟨a,xs,rfl,e,hw,q⟩:=h;cases d;obtain⟨its,r,c,hz⟩:=J.tuple e;have b:its.toArray.size=xs.length:=by rw[alS];exact r.length.symm
 refine⟨"tuple",_,amS.lookup,c.typeIs,?_⟩;exact VT c hs pl f (by rw[b];exact hw) ⟨.ref a,H,J,rfl,q⟩
def FA(x:R)(lo hi:Option Int):M R:=
 match x with
 |.v (.t xs)=>pure (.v (.t (cutD xs lo hi)))|_=>bad
@[simp] def CI(a:bt)(lo hi:lp)(U:aK):M R:=do
 let x <-a U
 let l <-lo U
 let h <-hi U
 FA x l h
def UA{α:Type}{xs:List α}{lo hi:Option Int}(h:c4.cu xs.length 0 lo=0/\c4.cu xs.length xs.length hi=xs.length):cutD xs lo hi=xs:=by
 unfold cutD;rw[h.1,h.2,aps,Nat.sub_zero,am8 (alQ _)]
section
variable{X:aT}{e st:Expr}{m:bt}{lo hi:Option Expr}{lL qt:lp}{pos cj p:Pos}
theorem ahK(he:bb X e m)(hl:pZ X lo lL)(K:pZ X hi qt):bb X (.Subscript e (.Slice lo hi none cj) pos) (CI m lL qt):=⟨eb (FU (afP.or Qt) he.un hl.un K.un) λV H Q D=>by
 obtain⟨O,U,S,r,T,st,h,q⟩:=D;obtain⟨x,S1,E,k⟩:=M.inv h;clear h;obtain⟨l,i,F,j⟩:=M.inv k;clear k;obtain⟨u,N,G,h⟩:=M.inv j;clear j;refine⟨O,U,S,x,S1,st,E,λA Y P L B z bu=>?_⟩;refine⟨A,U,S1,l,i,B,F,λI R s bF=>?_⟩;refine⟨I,U,i,u,N,bF,G,λn W t w=>?_⟩;have g:=(L.trans s).trans t;have y:=z.go (s.trans t);unfold FA at h;split at h
 .rename_i xs
  cases h;obtain⟨a,ys,rfl,f,b⟩:=y
  by_cases c:c4.cu xs.length 0 l=0/\c4.cu xs.length xs.length u=xs.length
  .refine .inl ⟨a,ys,rfl,f,by rw[b.len];exact c,?_⟩
   rw[UA c]at q;exact q n _ _ g w ⟨a,ys,rfl,f,b⟩ trivial
  .exact .inr ⟨a,ys,rfl,f,by rw[b.len];exact c,λp d=>q n _ _ (g.trans (Go.ho d)) (w.ho d) ⟨p,_,rfl,dx.of dZ,(b.cut l u).go (Go.ho d)⟩ trivial⟩
 .cases h⟩
end
omit [aA.a4]in
@[simp] theorem akr{l h:Option Int}:FA (.v (.t xs)) l h=pure (.v (.t (cutD xs l h))):=rfl
end aC
namespace aC
open PySem PySem.Spec aA
variable[aA.a4]
section
variable{X:aT}{o e f value b:Expr}{ay:List Expr}{c:Str}{ns:List Str}{mo:bt}{ms:c0}{mv:eD}{pos pos' apos dw:Pos}{g:List D->List R->M (R×List D)}{r:V->List V->aw->cE->Prop}{name:Str}{id:String}
theorem Rj(T:m3 X.K X.mg c ns){f:Str}(J:f∈ns)(L:bb X o mo)(V:fz X value mv)(hs:anm value (some (.Attribute o f pos')) pos.line X.env=pure false:=by rfl):gg X (.Assign [.Attribute o f pos'] value pos) (dN c f mo mv):=⟨gL (aeM L.un V.un hs) λD Q H I=>by
 obtain⟨O,U,S,aJ,aq,st,h,q⟩:=I;obtain⟨r,S1,M,s⟩:=N.inv h;clear h;obtain⟨d,aY,P,p⟩:=N.inv s;clear s;obtain⟨x,h3,t,A⟩:=N.inv p;clear p;obtain⟨a8,pX,u,h⟩:=N.inv A;clear A;refine⟨O,U,S,r,S1,st,M,λG v H1 Z m Y nn=>?_⟩;obtain⟨dg,rfl⟩:=rk (H₀:=H) Y nn P;obtain rfl:=(mo U).fc _ _ _ t;refine⟨cF H G,U,_,x,_,(m.cF H).s3,t,λW fv aI i bF F bu=>?_⟩;have B:=(m.cF H).go i bF.ck;obtain⟨n,b,rfl,rfl,R,sn,ht⟩:=w3 bF F u;obtain rfl:=(hU (.v (.ref n))).fc _ _ _ u;split at h
 .rename_i c' aS
  split at h
  .rename_i y'
   obtain⟨rfl,E⟩:=y';cases h;obtain⟨C,a,j,y,w,l⟩:=ht;obtain⟨k',av,aE,_,eZ⟩:=T.ex;cases av.symm.trans w.1;refine⟨b,C,a,j,rfl,y,aE,eZ f J,by rw[l.len];exact E,?_⟩;obtain⟨n3,k3⟩:=B.write (u':=.ins C a (ik f v j)) (o:=.a8 c' (ij f d aS)) R y (by rintro(⟨_,z⟩|⟨_,_,z⟩)<;>cases z) (by intro _ z;cases z) (by intro _ z;cases z) λk=>
    ⟨C,a,_,dZ,w,(PQ (f:=f) (v:=v) j).symm▸fy.ij f (k _ _ (Rep.go i dg)) ⟨l.1,l.2.imp k⟩⟩
   exact q W Q _ ((Z.cF.trans i.dA).trans n3).ea k3
  .cases h
 .cases h⟩
theorem Rk(slot:PySem.Slot "list" name id)(oL:typeOf (.builtin id)=pure (.type "method_descriptor"))(W:qX X id r)(V:sz X.K X.mg r g)(L:bb X o mo)(d:gv X (e::ay) ms)
  (J:ani o name X.env (eval o X.env)=eval o X.env:=by rfl)
  (rL:((amg dw (alJ (e::ay) X.env)).all (λx=>!x.1)&&(ant dw (amU [] X.env)).all (λx=>x.1.isSome)
&&decide ((e::ay).length+([]:List aoK).length+(if([]:List aoK).isEmpty then 0 else 1)<30))=true:=by rfl)
  (kM:(apos.endLine==dw.line)=true:=by rfl) (hs:alJ (e::ay) X.env=(false,eval e X.env)::alJ ay X.env:=by rfl) (Z:(amg dw (alJ ay X.env)).any (·.1)=false:=by rfl)
  (kP:anm (.Call (.Attribute o name apos) (e::ay) [] dw) none pos.line X.env=pure false:=by rfl):gg X (.Expr (.Call (.Attribute o name apos) (e::ay) [] dw) pos) (n7 g mo ms):=
 ⟨gL (Ay (FR aoL slot oL W L.un d.un J rL kM hs Z) kP) λD M H I=>by
  obtain⟨O,U,S,aJ,aq,st,h,q⟩:=I;obtain⟨x,S1,s,d⟩:=N.inv h;clear h;obtain⟨rs,aY,t,p⟩:=N.inv d;clear d;obtain⟨a8,pX,w,h⟩:=N.inv p;clear p;obtain rfl:=(mo U).fc _ _ _ s;obtain rfl:=(ms U).fc _ _ _ t;refine⟨O,U,_,x,_,st.s3,s,λF fv i A m E bu=>?_⟩;obtain⟨n,b,rfl,rfl,P,sn,Y⟩:=w3 m E w;obtain rfl:=(hU (.v (.ref n))).fc _ _ _ w;split at h
  .rename_i xs
   obtain⟨⟨cc,ys⟩,q3,T,h⟩:=N.inv h;cases h;obtain⟨zs,y,R⟩:=Y;refine⟨.inl ⟨rfl,_,dq.of y⟩,F,U,_,rs,_,m,t,λu vs G a bF Q nn=>?_⟩;have zj:u.bD[n]? = some b:=by rw[a.bD];exact P
   have j:=a.same.at' _ _ y;refine V u G i b xs zs rs vs _ _ _ ys _ j (R.go a) Q nn T λv ws ay rw _=>?_
   subst ay;have B:=(st.go (A.trans a) bF.ck).cF i;obtain⟨n3,C⟩:=B.write (u':=.l ws) (o:=.l ys) zj j (by rintro(⟨_,z⟩|⟨_,_,z⟩)<;>cases z) (by intro _ z;cases z) (by intro _ z;cases z) λk=>⟨_,dZ,rw.imp k⟩
   exact q _ M _ ((A.trans a.cF).dA.trans n3).ea C
  .cases h⟩
end
def aao{P:al7}{w:World}{K:aN}{mg:bo}{base:Heap}{f:Addr}{c:amT}{k:Nat}{mf:dV}(F:e5 P w K mg base ey k f c ["script"] (hY K mg mf))
  (h:∀ns:List Int,ns.length<=63->∃b,(mf [.l (ns.map D.int)]).run []=.ok (.v (.ax true)) b):e5 P w K mg base ey k f c ["script"] (xw K):=by
 refine F.imp λvs H Q E d=>?_
 obtain⟨a,ns,e,n,i,cJ,q⟩:=d;subst e;obtain⟨b,h'⟩:=h ns i;refine⟨⟨λ_=>.free,[]⟩,[.l (ns.map D.int)],_,[],b,⟨λa g=>absurd rfl g,cJ,apu,λa m=>by cases m⟩,fY.nil,rfl,⟨_,_,rfl,⟨a,_,rfl,n.imp (λz=>⟨z,by simp⟩) id,Qa ns⟩,rfl⟩,h',λp v H' _ _ _ _ j _=>?_⟩;cases(show v=.ax true from j);exact q H'
section
variable{K:aN}{mg:bo}{O:a_}{H H':aw}{S:bI}{U:aK}{ar:St}{p:Addr}{o:gc}
def dv.adopt(st:dv K mg O U S ar H)(E:p∉O.bD)(nl:∀i,O p≠.loc i)(same:∀b,b≠p->H' b=H b)(I:H' p≠none)(kp:H' p=H p\/∀u,H p=some u->¬Fix u/\∀ys,u≠.l ys)(k:O p=.free\/O p=.out->∀u,H p=some u->(∀ys,u≠.l ys)/\¬Fix u)(bY:TabsOk H->TabsOk H')
  (a8:(∀d v,Rep K mg O H d v->Rep K mg (hp O p) H' d v)->oa K mg (hp O p) H' p o):dv K mg (hp O p) U (S++[o]) ar H'/\(hp O p).bD[S.length]? = some p:=by
 have j:=st.s3.ck;have y:(hp O p).bD[S.length]? = some p:=by show(O.bD++[p])[S.length]? = _;rw[<-st.full,al6 (alQ _),an4];rfl
 have jG:fe O (hp O p) H H':=⟨λb u e h _=>by
  by_cases c:b=p
  .subst c
   rcases kp with kp|kp
   .rw[kp];exact e
   .obtain⟨eF,d7⟩:=kp u e
    exact h.elim (λz=>absurd z.2.2.choose_spec (d7 _)) λz=>absurd z eF
  .rw[same b c];exact e,λb ys e f=>by
   rw[o9 (by rintro rfl;exact(k (.inl f) _ e).1 ys rfl)];exact f,aoG _ _⟩
 have f:∀d v,Rep K mg O H d v->Rep K mg (hp O p) H' d v:=λ_ _ z=>Rep.jG jG j.b9 z
 have dg:∀{b:Addr}{a:List V},hE H b (.l a)->(O b=.free\/O b=.out)->b≠p:=λ{b a} h D=>by
  rintro rfl;rcases h with h|⟨x,h⟩
  .exact(k D _ h).1 a rfl
  .exact(k D _ h).2 (.inr ⟨_,_,rfl⟩)
 have G:∀{b:Addr}{a:List V},b≠p->hE H b (.l a)->hE H' b (.l a):=λ{b a} nb h=>by unfold hE;rw[same b nb];exact h
 refine⟨⟨⟨⟨λb A=>?_,bY j.tabs,O1 j E⟩,st.s3.len,λi s e=>?_,λn L e=>?_⟩,?_,λi t e=>?_⟩,y⟩
 .by_cases c:b=p
  .rw[c];exact I
  .rw[o9 c]at A;rw[same b c];exact j.has b A
 .have lo:=st.s3.loc i s e
  cases s with
  |e=>exact trivial|v d=>obtain⟨v,q,r⟩:=lo;exact⟨v,q,f _ _ r⟩
  |en M t=>
         obtain⟨b,a,q,F,g,r⟩:=lo;have nb:b≠p:=by rintro rfl;exact nl i F
         exact⟨b,a,q,(o9 nb).trans F,by rw[same b nb];exact g,r.imp f⟩
  |b4 t=>obtain⟨b,a,q,g,r⟩:=lo;exact⟨b,a,q,g.imp (λz=>⟨G (dg z.1 z.2) z.1,by rw[o9 (dg z.1 z.2)];exact z.2⟩) id,r.imp f⟩
 .by_cases B:n<S.length
  .rw[al8 B]at e
   obtain⟨b,av,aE⟩:=st.s3.f9 n L e;have nb:b≠p:=by rintro rfl;exact E (amh av)
   exact⟨b,by show(O.bD++[p])[n]? = _;rw[al8 (by rw[st.full];exact B)];exact av,aE.all f λ_ l _=>by rw[same b nb];exact l⟩
  .rw[al6 (by omega)]at e
   obtain rfl:n=S.length:=by
    have:=(alK.mp e).1;simp at this;omega
   rw[an4]at e;cases e;exact⟨p,y,a8 f⟩
 .show(O.bD++[p]).length=_
  rw[alN,alN,st.full];rfl
 .obtain⟨b,a,q,g,r⟩:=st.qL i t e
  exact⟨b,a,q,g.imp (λz=>⟨G (dg z.1 z.2.1) z.1,by rw[o9 (dg z.1 z.2.1)];exact z.2.1,λm=>(amy.mp m).elim z.2.2 λw=>dg z.1 z.2.1 (amb.mp w)⟩) id,r.imp f⟩
theorem et.adopt{d:a_}{H₀:aw}(g:et d O H₀ H)(c:H₀ p=none)(same:∀b,b≠p->H' b=H b)(bY:TabsOk H->TabsOk H'):et d (hp O p) H₀ H':=by
 have nb:∀{b:Addr},H₀ b≠none->b≠p:=λh=>by rintro rfl;exact h c
 exact⟨λb o e h n=>by rw[same b (nb (hX e))];exact g.cells b o e h n,λb a=>(o9 (nb a)).trans (g.own b a),λb a=>by rw[same b (nb a)];exact g.has b a,
  λb ps e=>by rw[same b (nb (hX e))];exact g.cJ b ps e,λt=>bY (g.bY t),g.bD.trans (aoG _ _),λb m=>(amy.mp m).elim (g.new b) λz=>.inr (by rw[amb.mp z];exact c)⟩
end
section
variable{X:aT}{e:Expr}{m:eD}
def aiw(he:fz X e m):fz X e (lZ m):=⟨eb he.un λE H Q j=>by
 obtain⟨O,U,S,r,D,st,h,q⟩:=j;obtain⟨x,S1,k,b⟩:=N.inv h;clear h;refine⟨O,U,S,x,S1,st,k,λA v c w d s nn=>?_⟩;split at b
 .rename_i xs
  obtain⟨F,B,n,h⟩:=N.inv b;clear b;cases n;cases h;obtain⟨a,ys,rfl,l,t,u⟩:=s;obtain⟨y,g⟩:=d.adopt (H':=c) (p:=a) (o:=.l xs) (d.s3.ck.b9.no t (by intro z;cases z)) (λi z=>by rw[t]at z;cases z) (λ_ _=>rfl) (hX l) (.inl rfl) (λz=>by rw[t]at z;rcases z with z|z<;>cases z) id λf=>⟨ys,l,u.imp f⟩
  exact q _ _ c (w.adopt (nn a rfl) (λ_ _=>rfl) id) y ⟨a,rfl,g⟩ trivial
 .cases b⟩
end
structure BE(K:aN)(x qual:Str)(st:Stmt)(f:Addr)(fd:amT):Prop where
 ex:∃(cS:Value)(da:Option Addr)(rj dr doc pm:Value)(an:Option Addr)(bJ cx:Value)(f7:Array (Option Value)),
  fd=anF x qual (iS st) (fJ st) (df st) rj dr doc pm an bJ cx/\K.lookup f=some ⟨cS,da,.func fd,f7⟩/\apn K bJ qual=true
 kp:anJ K (.ref f)=true
def BE.ok{P:al7}{w:World}{K:aN}{mg:bo}{base:Heap}{x qual:Str}{st:Stmt}{f:Addr}{b:amT}{N ps:List Str}{k:Nat}{sp:ej}(F:BE K x qual st f b)(S:gP N ps (df st))(len:∀vs H Q E,sp vs H Q E->vs.length=ps.length)
  (j:∀(a:Value)(A:ami)(outer:List Env)(s:alO)(H:aw)(vs:List V)(Q:cE)(E:gw),cB k (A.deeper (amR qual (df st) s.heap.objs.size f a))->sp vs H Q E->
   ∃t,ix (gU ey P w K mg base N qual (df st) f a A outer s H E).gB (fJ st) t/\t { bu:=λ_ H'=>Q .aH H',cp:=Q } (start N vs) H):e5 P w K mg base ey (k+1) f b ps sp:=by
 obtain⟨cS,m,r,dr,d,p,l,a,cx,n,rfl,i,e⟩:=F.ex;refine Du i e S len λA outer s H vs Q E c g=>?_
 obtain⟨t,h,q⟩:=j a A outer s H vs Q E c g;exact⟨t,h.gB,q⟩
structure BD(K:aN)(mg:bo)(c m qual:Str)(st:Stmt)(ps:List Str):Prop where
 ex:∃C f fd,mg c=some (.ref C)/\i4 K C/\Meth K C m f/\BE K m qual st f fd/\Binds K fd ps []/\Binds K fd ps [.none]
structure BF(P:al7)(w:World)(K:aN)(mg:bo)(base:Heap)(c m:Str)(ps:List Str)(k:Nat)(sp:ej):Prop where
 all:ko P w K mg base c m ps k sp
 ex:∃C f fd,mg c=some (.ref C)/\i4 K C/\Meth K C m f/\e5 P w K mg base ey k f fd ps sp/\Binds K fd ps [.none]
def Wv{P:al7}{w:World}{K:aN}{mg:bo}{base:Heap}{c m qual:Str}{st:Stmt}{ps N:List Str}{k:Nat}{d:bX}{n nl:Nat}(gO:BD K mg c m qual st ps)(i:gP N ps (df st))(p:ps.length=n)(hl:N.length=nl)
  (l:∀(f:Addr)(a:Value)(A:ami)(outer:List Env)(s:alO)(H:aw)(E:gw),cB k (A.deeper (amR qual (df st) s.heap.objs.size f a))->
   iz (gU ey P w K mg base N qual (df st) f a A outer s H E).gB (fJ st) d):BF P w K mg base c m ps (k+1) (hY K mg (fnX n nl d)):=by
 obtain⟨C,f,g,e,cl,me,F,u,b⟩:=gO.ex;subst p hl;have ok:=F.ok (P:=P) (w:=w) (mg:=mg) (base:=base) (sp:=hY K mg (fnX ps.length N.length d)) i (λvs H Q E ⟨O,ds,r,S,z,B,dQ,y,t,h,q⟩=>t.r.len.trans (Dr h)) λa A outer s H vs Q E j x=>⟨_,(l f a A outer s H E j).un,Jx x⟩
 exact⟨⟨C,f,g,e,cl,me,ok,u⟩,⟨C,f,g,e,cl,me,ok,b⟩⟩
omit [aA.a4]in
theorem JQ{K:aN}{h:Heap}{mg:bo}{c:Str}{C:Addr}{aS:List Str}(X:K.In h)(G:h.Ns aml mg)(a:aoQ K aml c=some (some (.ref C)))
  (kX:apS K C Str.empty=true) (hd:aqe K C=true) (po:W.plainOver K C=true) (mR:anQ K (.ref C) "__setattr__"=some (some (.builtin "object.__setattr__"))) (mk:W.makesIn K C=true) (wb:anJ K (.ref C)=true)
  (na:∀f∈aS,anQ K (.ref C) f=some none):m3 K mg c aS:=⟨C,apq X G a,⟨kX,hd,po,mR⟩,⟨mk,wb⟩,na⟩
omit [aA.a4]in
theorem LM{K:aN}{h:Heap}{mg:bo}{c m qual:Str}{C f:Addr}{aS ps:List Str}{st:Stmt}{t b:Option Addr}{bc:Array (Option Value)}{cS dr u g cd cx:Value}(X:K.In h)(G:h.Ns aml mg)(T:m3 K mg c aS)(a:aoQ K aml c=some (some (.ref C)))
  (e:anQ K (.ref C) m=some (some (.ref f))) (i:W.isFn K (.ref f)=true) (l:K.lookup f=some ⟨cS,t,.func (anF m qual (iS st) (fJ st) (df st) .none dr u g b cd cx),bc⟩) (p:apn K cd qual=true) (k:anJ K (.ref f)=true)
  (q:∀(dr d g:Value)(b:Option Addr)(s cx:Value)(us:List Value),us.length=ps.length->an0 (anF m qual (iS st) (fJ st) (df st) .none dr d g b s cx) ⟨us,[]⟩=pure (ps.zip us)):x1 K mg c m qual st ps:=by
 obtain⟨w,j,r,_⟩:=T.ex;have n:=apq X G a;rw[j]at n;cases n;exact⟨_,f,_,j,r,⟨e,i,k⟩,y2 (st:=st) l p k,(y2 (st:=st) l p k).binds q⟩
omit [aA.a4]in
theorem LN{K:aN}{h:Heap}{mg:bo}{c m qual:Str}{C f T:Addr}{aS ps:List Str}{st:Stmt}{B b w:Option Addr}{bc r:Array (Option Value)}{cS dr p d cd cx u:Value}{j eT:Nat}(X:K.In h)(G:h.Ns aml mg)(D:m3 K mg c aS)(a:aoQ K aml c=some (some (.ref C)))
  (e:anQ K (.ref C) m=some (some (.ref f))) (i:W.isFn K (.ref f)=true) (l:K.lookup f=some ⟨cS,B,.func (anF m qual (iS st) (fJ st) (df st) (.ref T) dr p d b cd cx),bc⟩) (t:K.lookup T=some ⟨u,w,.seq #[.none] eT,r⟩) (I:apn K cd qual=true) (k:anJ K (.ref f)=true) (y:ps.length=j+1)
  (E:∀(dr g d:Value)(b:Option Addr)(x cx:Value)(us:List Value),us.length=j+1->∃n,an0 (anF m qual (iS st) (fJ st) (df st) (.ref T) dr g d b x cx) ⟨us,[]⟩=ao6 (.ref T) >>= n/\n (some #[.none])=pure (ps.zip us))
  (H:∀(dr g d:Value)(b:Option Addr)(x cx:Value)(us:List Value),us.length=j->∃n,an0 (anF m qual (iS st) (fJ st) (df st) (.ref T) dr g d b x cx) ⟨us,[]⟩=ao6 (.ref T) >>= n/\n (some #[.none])=pure (ps.zip (us++[.none]))):BD K mg c m qual st ps:=by
 obtain⟨L,z,F,_⟩:=D.ex;have A:=apq X G a;rw[z]at A;cases A;refine⟨_,f,_,z,F,⟨e,i,k⟩,⟨⟨cS,B,_,dr,p,d,b,cd,cx,bc,rfl,l,I⟩,k⟩,λs us q hl=>?_,λs us q hl=>?_⟩
 .rw[am2]at hl ⊢
  obtain⟨n,av,aE⟩:=E dr p d b cd cx us (hl.trans y);exact aqs rfl (q _ _ t) rfl av aE
 .rw[alN,y]at hl
  obtain⟨n,av,aE⟩:=H dr p d b cd cx us (by simpa using hl);exact aqs rfl (q _ _ t) rfl av aE
end aC
namespace aC
open PySem PySem.Spec aA
def uT(c:aK->N Bool)(b:bX):Nat->bX
 |0=>λ_=>hn
 |n+1=>λU=>do
  let t <-c U
  if t=true then do
   let a <-b U
   match a with
   |.bu U'=>uT c b n U'|.cx U'=>uT c b n U'|.bk U'=>pure (.bu U')|.cp r=>pure (.cp r)
  else pure (.bu U)
def Bj(c:aK->N Bool)(b:bX):bX:=uT c b pE
def Bh(mo mk:bt)(mv:eD):bX:=λU=>do
 let r <-mv U
 let d <-r.dat.up
 let x <-(mo U).up
 let k <-(mk U).up
 let o <-(hU x).up
 match o,k with
 |.l xs,.v (.int i)=>(if 0<=i/\i<xs.length then(do
  Gm x (.l (xs.set i.toNat d))
  pure (.bu U))else hn)
 |_,_=>hn
def Bp(el:eD)(U:aK):List D->N (List D)
 |[]=>pure []|d::ds=>do
  let r <-el (U.set 0 (.v d))
  match r with
  |.v x=>do
   let xs <-Bp el U ds
   pure (x::xs)
  |_=>hn
def xM(n:Nat)(cap:List Nat)(it:fH)(el:eD):eD:=λU=>do
 let ds <-(it U).up
 if ds.length<alP then(do
  let xs <-Bp el (hL n cap U) ds
  pure (.fr xs))else hn
variable[aA.a4]
section
variable{K:aN}{mg:bo}{O ak aD:a_}{H H' H1:aw}{S aq:bI}{U:aK}{ar:St}{t:aK->N Bool}{b:bX}{l:Addr}{zs ws:List V}
theorem ahR:∀D ar H,pJ K mg (Bj t b) D ar H->GF (Rh K mg t) (pJ K mg b) D ar H:=by
 rintro D ar H ⟨O,U,S,s,aq,st,h,q⟩;refine⟨λm p H'=>∃ak U' k,dv K mg ak U' k p H'/\gr O ak H H'/\(uT t b m U').run k=.ok s aq,⟨pE,O,U,S,st,(d5.refl _ _).ea,h⟩,?_⟩;rintro m p H' ⟨ak,U',k,B,g',h⟩
 cases m with
 |zero=>cases h
 |succ n=>
  obtain⟨tt,S1,x,h⟩:=N.inv h;refine⟨ak,U',k,tt,S1,B,x,λaD H1 g u=>?_⟩;have g:=g'.trans g.ea
  cases tt with
  |false=>
   rw[if_neg alR]at h;cases h;exact oP (q aD p H1 g u)
  |true=>
   rw[if_pos rfl]at h;obtain⟨w,f,y,h⟩:=N.inv h;refine oQ ⟨λj d=>∃c e f,dv K mg c e f j d/\gr O c H d/\(uT t b n e).run f=.ok s aq,?_,aD,U',S1,w,f,u,y,?_⟩
   .rintro j d ⟨c,e,f,a⟩
    exact⟨n,aoX _,c,e,f,a⟩
   .cases w with
    |bu e=>exact λc j d i bF=>⟨c,e,f,bF,g.trans i,h⟩
    |cx e=>exact λc j d i bF=>⟨c,e,f,bF,g.trans i,h⟩
    |bk e=>cases h;exact λc j d i bF=>q c j d (g.trans i) bF
    |cp r=>cases h;exact λc v d i z aE E A=>q c v d (g.trans i) z aE E A
def dv.uM(st:dv K mg O U S ar H)(c:O l=.dn)(hl:H l=some (.l zs)):dv K mg O U S ar (upd H l (.l ws)):=
 ⟨st.s3.uM c hl,st.full,λi xs e=>by
  obtain⟨a,ys,av,w,r⟩:=st.qL i xs e;refine⟨a,ys,av,w.imp (λz=>⟨?_,z.2⟩) id,r.dY (by rw[c];intro z;cases z) hl⟩;have ne:a≠l:=by
   rintro rfl;rcases z.2.1 with f|f<;>rw[f]at c<;>cases c
  rcases z.1 with h|⟨o,h⟩
  .exact .inl (by rw[c1 ne];exact h)
  .exact .inr ⟨o,by rw[c1 ne];exact h⟩⟩
theorem dv.d2(st:dv K mg O U S ar H)(n:Nat)(cap:List Nat):dv K mg (d2 O) (hL n cap U) S (fZ n cap ar) H:=⟨st.s3.d2 n cap,st.full,λi xs e=>by
 unfold hL at e;unfold fZ
 by_cases hi:i<n
 .rw[al8 (by simpa using hi),ank,if_pos hi]at e
  cases e
 .rw[al6 (by simpa using hi),amG,al4]at e
  rw[al6 (by simpa using hi),amG,al4]
  cases J:cap[i-n]? with
  |none=>rw[J]at e;cases e
  |some k=>
   rw[J]at e;have c:ri U[k]?=.b4 xs:=amf e;show ∃a ys,(some (ar[k]?.join)).join=_/\_
   cases C:U[k]? with
   |none=>rw[C]at c;cases c
   |some f=>
    rw[C]at c
    cases f with
    |e=>cases c
    |v d=>cases c
    |b4 zs=>
     cases c;obtain⟨a,ys,q,w,r⟩:=st.qL k _ C;exact⟨a,ys,q,w.imp (λz=>⟨z.1,lz O a,z.2.2⟩) id,r.c8 (j3 O)⟩
    |en p zs=>
     cases c;obtain⟨a,ys,q,o,l,r⟩:=st.s3.loc k _ C;exact⟨a,ys,q,.inl ⟨.inl l,lz O a,st.s3.ck.b9.no o (by intro z;cases z)⟩,r.c8 (j3 O)⟩⟩
def uK(H1:aw)(aD ak:a_):a_:=⟨λb=>match H1 b with|none=>ak b|some _=>aD b,ak.bD⟩
omit [aA.a4]in
theorem GN{b:Addr}(a:H1 b≠none):uK H1 aD ak b=aD b:=by
 show(match H1 b with|none=>ak b|some _=>aD b)=aD b
 cases e:H1 b with
 |none=>exact absurd e a|some _=>rfl
omit [aA.a4]in
theorem A9{b:Addr}(a:H1 b=none):uK H1 aD ak b=ak b:=by
 show(match H1 b with|none=>ak b|some _=>aD b)=ak b;rw[a]
theorem A8(g:et (d2 aD) ak H1 H'):et aD (uK H1 aD ak) H1 H':=⟨λb o e h n=>g.cells b o e h n,λ_ a=>GN a,g.has,g.cJ,g.bY,g.bD,g.new⟩
theorem QV(g:et (d2 aD) ak H1 H'):l5 ak (uK H1 aD ak):=⟨λb c=>by
 by_cases a:H1 b=none
 .rw[A9 a];exact c
 .rw[GN a];exact og.mp ((g.own b a).symm.trans c),rfl⟩
theorem aha(c:dv K mg aD U S ar H1)(g:et (d2 aD) ak H1 H')(d:dh ak H')(dQ:fY K mg ak H' aq)(f:ak.bD.length=aq.length):dv K mg (uK H1 aD ak) U aq ar H':=
 c.dA (A8 g) ⟨λb e=>by
  by_cases a:H1 b=none
  .rw[A9 a]at e;exact d.has b e
  .exact g.has b a,d.tabs,d.b9.1,λb m=>by
  by_cases a:H1 b=none
  .rw[A9 a];exact d.b9.2 b m
  .rw[GN a]
   rcases g.new b m with z|z
   .exact c.s3.ck.b9.2 b z
   .exact absurd z a⟩ (dQ.all (λ_ _ z=>Rep.c8 (QV g) z) rfl λ_ _ _ l _=>l) f
theorem et.uM(g:et aD ak H1 H')(c:H1 l=none)(hl:H' l=some (.l zs)):et aD ak H1 (upd H' l (.l ws)):=by
 have ne:∀b,H1 b≠none->b≠l:=λb a z=>a (z▸c)
 refine⟨λb o e h n=>?_,g.own,λb a=>?_,λb ps e=>?_,λt=>(g.bY t).put _ (λps z=>by rw[hl]at z;cases z) (λq z=>by rw[hl]at z;cases z),g.bD,g.new⟩
 .rw[c1 (ne b (hX e))];exact g.cells b o e h n
 .rw[c1 (ne b a)];exact g.has b a
 .rw[c1 (ne b (hX e))];exact g.cJ b ps e
variable{n:Nat}{cap:List Nat}{it:fH}{el:eD}
inductive Rz(K:aN)(mg:bo)(n:Nat)(cap:List Nat)(el:eD)(aD:a_)(U:aK)(aq:bI)(ar:St)(H1:aw)(A:Addr)(ds xs:List aC.D)(k:Nat)(zs:List V)(H':aw):Prop
 |mk (ak:a_) (e9:bI) (acc pI:List aC.D) (cq:dv K mg ak (hL n cap U) e9 (fZ n cap ar) H') (g':et (d2 aD) ak H1 H') (pv:ak A=.dn) (di:H' A=some (.l zs)) (hz:zs.length<=k)
   (km:bl K mg ak H' acc zs) (h:(Bp el (hL n cap U) (ds.drop k)).run e9=.ok pI aq) (ex:acc++pI=xs)
theorem Uv(az:0<n):∀ar H Q,xS K mg (xM n cap it el) ar H Q->uG n cap (GL K mg it) (kF 0) GD (xS K mg el) ar H Q:=by
 rintro ar H Q ⟨O,U,S,r,aq,st,h,q⟩;obtain⟨ds,S1,C,h⟩:=N.inv h
 by_cases c:ds.length<alP
 case neg=>rw[if_neg c]at h;cases h
 rw[if_pos c]at h;obtain⟨xs,h3,bA,h⟩:=N.inv h;cases h;refine⟨O,U,S,ds,S1,st,C,λaD H1 ct ys V i its E D g=>?_⟩;have akW:=E.len;have hu:dv K mg (fV (aC.d2 aD) D .dn) (hL n cap U) S1 (fZ n cap ar) (upd H1 D (.l [])):=(i.d2 n cap).go (Go.new g) ((i.s3.d2 n cap).new g).ck;refine⟨λk m zs H'=>m=ys.length-k/\k<=ys.length/\Rz K mg n cap el aD U aq ar H1 D ds xs k zs H',
  ⟨_,rfl,amt _,_,S1,[],xs,hu,(Go.new g).dA,lU,dZ,alQ _,rfl,bA,rfl⟩,?_⟩
 rintro k m zs H' ⟨rfl,au,ak,e9,acc,pI,f,g',M,F,hz,Y,h,ex⟩;have ea:=(A8 g').ea
 cases e:ds.drop k with
 |nil=>
  have hl:ys.length<=k:=by
   have:=congrArg anz e;rw[amL,am4]at this;omega
  rw[e]at h;cases h;rw[am2]at ex;subst ex;refine .inl ⟨(its _ H' ea k).2 hl,?_⟩;refine q (uK H1 aD ak) (.ref D) H' (V.dA.trans (A8 g')) (aha i g' f.s3.ck f.s3.f9 f.full) ⟨D,zs,rfl,F,(A9 g).trans M,Y.c8 (QV g')⟩ λa c6=>?_
  cases c6;exact V.same.free g
 |cons d kA=>
  obtain⟨y,I,b_,bH⟩:=(E.dA (A8 g') i.s3.ck.b9).get' e;have T:k<ys.length:=(alK.mp I).1;obtain⟨go,mV⟩:=(its _ H' ea k).1 T;have B:Rep K mg ak H' d y:=(((E.c8 (j3 aD)).dA g' (i.s3.d2 n cap).ck.b9).get' e).elim λaii z=>by
   obtain⟨W,eC,_⟩:=z;rw[I]at W;cases W;exact eC
  rw[e]at h;obtain⟨r,w,J,h⟩:=N.inv h;refine .inr ⟨go,λx o k8=>?_⟩;obtain⟨aE,R⟩:=mV x o k8;subst aE;rw[I]at R;cases R;refine⟨(m5.refl _).set (by cases n with|zero=>exact absurd az (amF _)|succ j=>rfl),?_⟩;dsimp only[GD];rw[if_pos rfl];refine⟨ak,_,e9,r,w,f.set (s:=.v d) (λxs z=>by cases z) ⟨y,rfl,B⟩,J,λG v X p L br nn=>?_⟩
  cases r with
  |v x=>
   obtain⟨Z,Hs,gj,h⟩:=N.inv h;cases h;have A:D∉ak.bD:=f.s3.ck.b9.no M (by intro z;cases z);have u:X D=some (.l zs):=p.cells _ _ F (.inl A);have P:G D=.dn:=(p.own D (hX F)).trans M;have ja:=g'.trans p;have uC:dv K mg G (hL n cap U) w (fZ n cap ar) X:=f.dA p L.s3.ck L.s3.f9 L.full;have b9:=f.s3.ck.b9;exact⟨u,by omega,ys.length-(k+1),by omega,rfl,T,G,w,acc++[x],Z,uC.uM P u,ja.uM g u,P,dZ,
    by rw[alN,am0];omega,((Y.dA p b9).append (.one br)).dY (by rw[P];intro z;cases z) u,by rw[bH];exact gj,by rw[aol];exact ex⟩
  |_=>cases h
end
section
variable{X:aT}{o i value c:Expr}{body:List Stmt}{mo mk:bt}{mv:eD}{t:aK->N Bool}{b:bX}{pos pos' apos:Pos}
def aiH(a:apy (model X.prog X.w) X.A X.env X.dH)(e:vb X c t)(d:iz X body b):gg X (.While c body [] pos) (Bj t b):=⟨gL (PM a e.un d.un) ahR⟩
theorem aiD(P:bb X o mo)(T:bb X i mk)(W:fz X value mv)(hs:swapsWithSole [.Subscript o i pos'] value pos.line X.env=pure false:=by rfl)(hw:swappedStores [.Subscript o i pos'] value X.env=pure none:=by rfl)
  (f:(amJ [.Subscript o i pos'] X.env).map (·.2)=[aoc (.Subscript o i pos') X.env]:=by rfl)
  (a:∀v,aoc (.Subscript o i pos') X.env v=(do
   let bK <-ang [v] (eval o X.env)
   let j <-ang [v,bK] (eval i X.env)
   anY pos'
   ang [v,bK,j] (setItem bK j v)
   release [v,bK,j] []):=by intro _;rfl):gg X (.Assign [.Subscript o i pos'] value pos) (Bh mo mk mv):=⟨gL (aeK W.un (aet P.un T.un set_list a) hs hw f) λD R H M=>by
 obtain⟨O,U,S,aJ,aq,st,h,q⟩:=M;obtain⟨r,S1,f,a⟩:=N.inv h;clear h;obtain⟨d,aY,Q,p⟩:=N.inv a;clear a;obtain⟨x,h3,s,G⟩:=N.inv p;clear p;obtain⟨y,q3,B,hd⟩:=N.inv G;clear G;obtain⟨a8,pX,w,h⟩:=N.inv hd;clear hd;refine⟨O,U,S,r,S1,st,f,λL v H1 g1 m C nn=>?_⟩;obtain⟨dg,rfl⟩:=rk (H₀:=H) C nn Q;obtain rfl:=(mo U).fc _ _ _ s;obtain rfl:=(mk U).fc _ _ _ B;refine⟨cF H L,U,_,x,_,(m.cF H).s3,s,λZ fv aI g2 bF K bu=>?_⟩;refine⟨Z,U,_,y,_,bF,B,λJ uO cZ E F Y o_=>?_⟩;have e:=g2.trans E;have g:=(m.cF H).go e F.ck;obtain⟨n,b,rfl,rfl,V,sn,ht⟩:=w3 F (K.go E) w;obtain rfl:=(hU (.v (.ref n))).fc _ _ _ w;split at h
 .rename_i xs e0
  by_cases c:0<=e0/\e0<xs.length
  .rw[if_pos c]at h
   cases h;obtain⟨I,A,u⟩:=ht;cases(show uO=.int e0 from Y);refine⟨b,I,e0,e0.toNat,rfl,rfl,A,?_,?_⟩
   .unfold lJ
    rw[if_pos c.1,if_pos (by rw[u.len];exact c.2)]
   obtain⟨n3,k3⟩:=g.write (u':=.l (I.set e0.toNat v)) (o:=.l (xs.set e0.toNat d)) V A (by rintro(⟨_,z⟩|⟨_,_,z⟩)<;>cases z) (by intro _ z;cases z) (by intro _ z;cases z) λk=>
    ⟨_,dZ,bl.set (k _ _ (Rep.go e dg)) e0.toNat (u.imp k)⟩
   exact q J R _ ((g1.cF.trans e.dA).trans n3).ea k3
  .rw[if_neg c]at h;cases h
 .cases h⟩
theorem aiv{c m:Str}{ps:List Str}{k:Nat}{e:Expr}{mf:dV}{me:bt}{pl:Sem Bool}(h:BF X.prog X.w X.K X.mg X.base c m ps k (hY X.K X.mg mf))(r:cB k X.A)(he:bb X o mo)(s:bb X e me)
  (l:alJ [e] X.env=(false,eval e X.env)::alJ [] X.env:=by rfl) (I:(amg pos (alJ [] X.env)).any (·.1)=false:=by rfl)
  (B:eval (.Call (.Attribute o m apos) [e] [] pos) X.env=(do
   let bK <-eval o X.env
   anY apos.atName
   let(f,first) <-ang [bK] (anL bK m pl)
   aog pos f first (amg pos (alJ [e] X.env)) (ant pos (amU [] X.env))):=by rfl):fz X (.Call (.Attribute o m apos) [e] [] pos) (dS c m mf mo (dR (aa me (aa (af .aH) ai)))):=by
 obtain⟨C,f,V,N,cl,o7,F,b⟩:=h.ex;refine⟨eb (PB (dvs:=[.aH]) (ds:=[.none]) he.un cl o7 F r b (.cons rfl .nil) r9 (uj s.un Aw l) l I B) λT H Q p=>sl _ _ _ _ (λv P z=>?_) (Fn _ _ _ p)⟩;obtain⟨a,W,y,aS,L,n,G,hl,O,U,S,rs,R,st,h,q⟩:=z;rw[N]at n;cases n;obtain⟨x,S1,d,h⟩:=M.inv h;cases h;refine⟨a,y,aS,L,G,hl,O,U,S,x,_,st.s3,d,λu j H' g E D nn=>?_⟩;obtain rfl:=(me U).fc _ _ _ d;exact q u [j,.aH] H' g.dA (st.go g E.ck) ⟨j,_,rfl,D,.aH,[],rfl,rfl,rfl⟩ ⟨nn,trivial,trivial⟩
end
section
variable{X:aT}{scope esc:Scope}{EN N:List Str}{n:Nat}{cap:List Nat}{elt iter:Expr}{pos fu:Pos}{x:Str}{it:fH}{el:eD}
def air(S:la esc scope EN N n cap)(d:0<n)(hi:yj X (.Name x fu) iter it)(c:N[0]? = some x)(b:∀C a s H,Loc (cO X scope N C a s H).env.scope x/\(cO X scope N C a s H).env.scope.names.lookup x=some .local)
  (f:∀C a s H,fz (cO X scope N C a s H) elt el)
  (he:X.env.scope=esc:=by rfl) (hN:X.N=EN:=by rfl) (e:X.calm=true:=by rfl) (hs:∀x,amM iter X.env x=pure x:=by intro _;rfl):fz X (.ListComp elt [⟨.Name x fu,iter,[],0⟩] scope pos) (xM n cap it el):=
 ⟨eb (FT S hi.un (λC a s H=>uk S.fC c (b C a s H).1 (.inr (b C a s H).2)) (λ_ _ _ _=>PF) (λC a s H=>(f C a s H).un) he hN e hs) (Uv d)⟩
end
end aC
namespace aC
open PySem PySem.Spec aA PyProof.Rows
variable[aA.a4]
def qC(a:Int)(n:Nat):List V:=(ame n).map λ(i:Nat)=>V.int (a+(i:Int))
def AG(a:Int)(n:Nat):List D:=(ame n).map λ(i:Nat)=>D.int (a+(i:Int))
omit [aA.a4]in
theorem ahf{xs:List V}{us:List Value}(hl:xs.length=us.length)(h:∀(i:Nat)(x:V)(u:Value),xs[i]? = some x->us[i]? = some u->RelV x u):Vals xs us:=by
 induction xs generalizing us with
 |nil=>
  cases us with
  |nil=>exact .nil|cons u us=>cases hl
 |cons x xs a=>
  cases us with
  |nil=>cases hl
  |cons u us=>exact .cons (h 0 x u rfl rfl) (a (Nat.succ.inj hl) λi y w b c=>h (i+1) y w (by simpa using b) (by simpa using c))
omit [aA.a4]in
theorem afr{a:Int}:∀{n:Nat}{vs:List Value},vs.length=n->(∀(j:Nat)(v:Value),vs[j]? = some v->∃t,v=.int (a+j*1) t)->Vals (qC a n) vs:=by
 intro n vs hl h;refine ahf (by unfold qC;rw[alM,amZ,hl]) λi x u av aE=>?_
 unfold qC at av;rw[al4]at av;have hi:i<n:=by rw[<-hl];exact(alK.mp aE).1
 rw[anp hi]at av;cases av;obtain⟨t,rfl⟩:=h i u aE;exact⟨t,by rw[Int.mul_one]⟩
omit [aA.a4]in
theorem afq{K:aN}{mg:bo}{O:a_}{H:aw}{a:Int}(n:Nat):bl K mg O H (AG a n) (qC a n):=by
 unfold AG qC
 induction(ame n)with
 |nil=>rfl|cons i r b=>exact⟨_,_,rfl,rfl,b⟩
section
variable{X:aT}{a b:Expr}{p gK pos pos':Pos}
omit [aA.a4]in
theorem aeg{u:fQ}(O:X.calm=true)(D:d_ X "list")(P:X.mg "list"=none)(A:d_ X "range")(T:X.mg "range"=none)(E:gR X [a,b] u)
  (hs:alJ [a,b] X.env=[(false,eval a X.env),(false,eval b X.env)]:=by rfl) (y:alJ [b] X.env=[(false,eval b X.env)]:=by rfl)
  (z:alJ [.Call (.Name "range" gK) [a,b] [] pos'] X.env=(false,eval (.Call (.Name "range" gK) [a,b] [] pos') X.env)::alJ [] X.env:=by rfl) :
  b1 X (.Call (.Name "list" p) [.Call (.Name "range" gK) [a,b] [] pos'] [] pos) (λU H Q=>u U H λvs d=>∃i j:Int,vs=[.int i,.int j]/\(-(2 ^ 62)<=i/\i<2 ^ 62/\-(2 ^ 62)<=j/\j<2 ^ 62)/\(j-i).toNat<=2 ^ 24/\(j-i).toNat<=alP/\∀l,d l=none->Q (.ref l) (upd d l (.l (qC i (j-i).toNat)))):=by
 intro zn s U H Q J h;refine am7 (nK J D P CE ?_ (by decide) (by decide));refine am6 ?_ z rfl;rw[z];show wpAny _ _ (spliced ((false,eval (.Call (.Name "range" gK) [a,b] [] pos') X.env)::amg pos (alJ [] X.env))) _ _ s;refine apA (Call_ (nK J A T boot_range (am6 (bW (E pos' zn s U H _ J h) λus f ⟨vs,d,K,G,bq⟩=>?_) (by rw[hs,y]) (by rw[y];rfl))));obtain⟨i,j,e,⟨bq,bO,M,R⟩,B,S,q⟩:=bq;subst e
 cases G with
 |cons r m=>
  cases m with
  |cons L m=>
   cases m;obtain⟨t,rfl⟩:=r;obtain⟨t',rfl⟩:=L;refine call_range_2 ?_;refine apN ?_;have g:Inv X zn U d { f with heap:=f.heap.push { cls:=.type "range",data:=.fields #[.int i t,.int j t',.int 1 f.toks] },toks:=f.toks+1 }:=K.kept λb o e=>alL _ e
   refine PySem.call_list_range (n:=(j-i).toNat) (g.ok.hd O) (IsRange.new ..) (small_one bq bO M R) (by rw[rangeSize_one];split<;>omega) B λh' tk acc c F N x=>?_
   refine⟨.ref _,_,g.laid (t':=tk) F (alQ _) (show iO X.prog X.w _ h' _ (.l (qC i (j-i).toNat))from⟨by unfold qC;rw[alM,amZ];exact S,acc.toList,c,afr (by rw[amA];exact x.1) (λk v I=>x.2 k v (by rw[<-I,aoq])),?_⟩),rfl,q _ (g.cb.fresh (alQ _))⟩;rw[apb];exact N
end
def we:List R->M R
 |[.v (.int i),.v (.int j)]=>if(-(2 ^ 62)<=i/\i<2 ^ 62/\-(2 ^ 62)<=j/\j<2 ^ 62)/\(j-i).toNat<=2 ^ 24/\(j-i).toNat<=alP then pure (.fr (AG i (j-i).toNat))else bad|_=>bad
@[simp] def yA(ms:c0)(U:aK):M R:=do
 let rs <-ms U
 we rs
section
variable{X:aT}{a b:Expr}{p gK pos pos':Pos}{ms:c0}
def ahy(y:X.calm=true)(m:d_ X "list")(z:X.mg "list"=none)(f:d_ X "range")(F:X.mg "range"=none)(t:gv X [a,b] ms)
  (hs:alJ [a,b] X.env=[(false,eval a X.env),(false,eval b X.env)]:=by rfl) (A:alJ [b] X.env=[(false,eval b X.env)]:=by rfl)
  (B:alJ [.Call (.Name "range" gK) [a,b] [] pos'] X.env=(false,eval (.Call (.Name "range" gK) [a,b] [] pos') X.env)::alJ [] X.env:=by rfl) :
  bb X (.Call (.Name "list" p) [.Call (.Name "range" gK) [a,b] [] pos'] [] pos) (yA ms):=
 ⟨eb (aeg y m z f F t.un hs A B) λK H Q n=>by
  obtain⟨O,U,S,r,I,st,h,q⟩:=n;obtain⟨rs,S1,s,d⟩:=M.inv h;clear h;unfold we at d;split at d
  .rename_i i j
   by_cases c:(-(2 ^ 62)<=i/\i<2 ^ 62/\-(2 ^ 62)<=j/\j<2 ^ 62)/\(j-i).toNat<=2 ^ 24/\(j-i).toNat<=alP
   .rw[if_pos c]at d
    cases d;refine⟨O,U,S,_,_,st,s,λg vs G e k u nn=>?_⟩;obtain⟨D,L,rfl,av,E,x,rfl,aE,cX⟩:=u;cases(show x=[]from cX);cases(show D=.int i from av);cases(show E=.int j from aE);refine⟨i,j,rfl,c.1,c.2.1,c.2.2,λl hl=>q (fV g l .dn) _ _ (e.trans (Go.new hl)) (k.new hl) ⟨l,_,rfl,dZ,lU,afq _⟩ λb w=>?_⟩;cases w;exact e.same.free hl
   .rw[if_neg c]at d;cases d
  .cases d⟩
end
omit [aA.a4]in
@[simp] theorem UW{i j:Int}:we [.v (.int i),.v (.int j)]=if(-(2 ^ 62)<=i/\i<2 ^ 62/\-(2 ^ 62)<=j/\j<2 ^ 62)/\(j-i).toNat<=2 ^ 24/\(j-i).toNat<=alP then pure (.fr (AG i (j-i).toNat))else bad:=rfl
end aC
namespace aC
open PySem PySem.Spec aA PyProof.Rows
def Ve{l b:Addr}{xs ys:Array Value}{n m:Nat}{bc:Array (Option Value)}(t:¬(!xs.isEmpty&&anA (xs.size+ys.size))=true)(e:xs.size<=alP)(f:xs.size+ys.size<=alP+1) :
  Meets (apr.«list.extend» ⟨[.ref l,.ref b],[]⟩) λ_ R s=>s.heap.get? l=some ⟨.type "list",none,.seq xs n,#[]⟩/\s.heap.get? b=some ⟨.type "list",none,.seq ys m,bc⟩/\
   R (.ok (.ret .none)) { s with heap:=s.heap.update l (amj λx=>x++ys),toks:=s.toks }:=
 .of_wp λprog w A R s h=>by
  obtain⟨i,g,d,tk,os⟩:=s;obtain⟨hl,c,h⟩:=h;have j:=AutoSeq1.idx_int;have k:=ap3;have r:=AutoSeq1.sub_list_list;have p:=AutoSeq1.sub_tuple_list;have q:=AutoSeq1.sub_list_tuple;have a:(xs++ys).size<=alP+1:=by rw[Array.size_append];exact f
  wp_walk using(apf hl rfl (hz:=e) (_hz':=a)),ap5 hl,ap5 c
  exact⟨_,rfl,h⟩
def P1(K:aN):V->List V->aw->cE->Prop:=λx vs H Q=>∃l b xs a,x=.ref l/\vs=[.ref b]/\H l=some (.l xs)/\dq K H b a/\xs.length+a.length<=alP/\Q .aH (upd H l (.l (xs++a)))
def abi:qX X "list.extend" (P1 X.K):=by
 intro zn s U H x vs v us Q J g j h;obtain⟨l,b,xs,B,rfl,rfl,d,p,hz,q⟩:=h;cases g;obtain⟨u,rfl,k⟩:=j.one;cases k;obtain⟨z,its,n,r,hl,e⟩:=J.qo d;obtain⟨a,c,⟨⟨cS,w,i,A⟩,y,aE,bf,ae,fA⟩,_⟩:=J.list p;cases bf;cases ae;cases fA;have t:=c.length;have m:its.toArray.size+a.toArray.size<=alP:=by rw[alS,alS];omega
 have f:¬(!its.toArray.isEmpty&&anA (its.toArray.size+a.toArray.size))=true:=by
  rw[O5 m,Bool.and_false];exact alR
 refine apT F.slot_list_extend ⟨_,e,rfl⟩ F.entry_list_extend (F.args_list_extend_2 _ _) (Ve f (by rw[alS];omega) (by omega)) ⟨e,aE,?_⟩;refine⟨.aH,_,J.wg (its':=its++a) d e (by simp) (r.append c) ?_,rfl,q⟩;rw[alN];omega
variable[aA.a4]
def xF(xs:List D):List R->M (R×List D)
 |[r]=>match r.ft with
  |some ys=>do
   hK (xs.length+ys.length<=alP)
   pure (.v .aH,xs++ys)
  |none=>bad
 |_=>bad
def aa0{K:aN}{mg:bo}:sz K mg (P1 K) xF:=λO H H₀ l xs m rs vs S p t ys Q hl a f s h q=>by
 unfold xF at h;split at h
 .rename_i r
  obtain⟨v,rfl,i⟩:=kY f;split at h
  .rename_i us e
   obtain⟨_,n,g,h⟩:=M.inv h;obtain⟨c,rfl⟩:=rf g;cases h;obtain⟨b,k,rfl,j,d⟩:=R.oW i e;exact⟨l,b,m,k,rfl,rfl,hl,j,by rw[a.len,d.len];exact c,q .aH _ rfl ((a.append d).c8 (i' _ _)) ⟨.aH,rfl,rfl⟩⟩
  .cases h
 .cases h
end aC
namespace aC
open PySem PySem.Spec aA PyProof.Rows
section
variable{X:aT}
def ch(c:Nat):Str:=⟨#[c]⟩
def sC(z:Str):iv:=⟨λi _=>i<z.cps.size,λi H x H'=>H'=H/\∃c,z.cps[i]? = some c/\x=.str (ch c),λi _=>z.cps.size<=i⟩
theorem QP{P:al7}{w:World}{K:aN}{cf:Expr}(z:Str)(t:Tok)(it:Addr):Turn P w K cf (sC z) [it] it (λi h=>(h.IsStrIter it "str_ascii_iterator" z t i)\/h.IsStrIter it "str_iterator" z t i) where
 mem:=by simp
 obj:=λi h st b a=>by
  have e:b=it:=by simpa using a
  subst e;rcases st with⟨o,e,c,d⟩|⟨o,e,c,d⟩<;>exact⟨o,e,λv z=>by rw[d]at z;cases z⟩
 keep:=λi h h' st k=>by
  rcases st with⟨o,e,c,d⟩|⟨o,e,c,d⟩
  .exact .inl ⟨o,k it (by simp) o e,c,d⟩
  .exact .inr ⟨o,k it (by simp) o e,c,d⟩
 item:=by
  intro X y hw B A i zn s U H E J r st f;subst y hw B;have f:i<z.cps.size:=f;obtain⟨l,m,F,q,n,p⟩:=r it (by simp);have g:z.cps[i]? = some z.cps[i]:=by simp[f]
  rcases st with st|st
  .refine wpAny_pyNext_ascii_item st g λh' j D=>?_
   have u:Inv X zn U H { s with heap:=h',toks:=s.toks+1 }:=J.turned (t':=s.toks+1) (λb o a e=>(D.2 b a).trans e) l m q n p;obtain⟨o,e,c,d⟩:=id j;exact⟨_,rfl,vE (s:={ s with heap:=h',toks:=s.toks+1 }) e c d (by decide) ⟨.str (ch z.cps[i]),H,u,⟨_,rfl⟩,⟨rfl,_,g,rfl⟩,.inl j,λb a=>(r b a).1⟩⟩
  .refine wpAny_pyNext_wide_item st g λh' j D=>?_
   have u:Inv X zn U H { s with heap:=h',toks:=s.toks+1 }:=J.turned (t':=s.toks+1) (λb o a e=>(D.2 b a).trans e) l m q n p;obtain⟨o,e,c,d⟩:=id j;exact⟨_,rfl,vE (s:={ s with heap:=h',toks:=s.toks+1 }) e c d (by decide) ⟨.str (ch z.cps[i]),H,u,⟨_,rfl⟩,⟨rfl,_,g,rfl⟩,.inr j,λb a=>(r b a).1⟩⟩
 done:=by
  intro X y hw B A i zn s U H E J r st f;subst y hw B;have f:z.cps.size<=i:=f;obtain⟨l,m,F,q,n,p⟩:=r it (by simp);have g:z.cps[i]? = none:=by simp[f]
  rcases st with st|st
  .exact wpAny_pyNext_ascii_end (J.ok.hd A) st g λh' x=>⟨rfl,J.turned (t':=s.toks) (λb o a e=>x b o a e) l m q n p⟩
  .exact wpAny_pyNext_wide_end (J.ok.hd A) st g λh' x=>⟨rfl,J.turned (t':=s.toks) (λb o a e=>x b o a e) l m q n p⟩
 self:=λ_ _ _ _ _ st h=>by
  rcases st with st|st
  .exact wpAny_pyIter_striter_ascii st h
  .exact wpAny_pyIter_striter_wide st h
def aez{cf l:Expr}(hl:b1 X l jq):j1 X cf l (λU H R=>jq U H λx c=>∃z,x=.str z/\R (sC z) c):=by
 intro zn s U H R J h;refine bW (hl zn s U H _ J h) λv a f=>?_
 obtain⟨x,c,d,i,bq⟩:=f;obtain⟨z,e,q⟩:=bq;subst e;obtain⟨t,rfl⟩:=i;have fin:∀b∈[a.heap.objs.size],gQ X zn c b:=λb g=>by
  have e:b=a.heap.objs.size:=by simpa using g
  subst e;exact d.ry (alQ _) (d.cb.fresh (alQ _))
 cases C:z.cps.all (· < 128)with
 |true=>
  refine wpAny_pyIter_ascii C ?_;exact⟨a.heap.objs.size,[a.heap.objs.size],_,_,c,rfl,d.kept (t':=a.toks) λb o e=>alL _ e,QP z t _,.inl ⟨_,alV _ rfl,rfl,rfl⟩,fin,q⟩
 |false=>
  refine wpAny_pyIter_wide C ?_;exact⟨a.heap.objs.size,[a.heap.objs.size],_,_,c,rfl,d.kept (t':=a.toks) λb o e=>alL _ e,QP z t _,.inr ⟨_,alV _ rfl,rfl,rfl⟩,fin,q⟩
end
def yI(z:Str):List D:=z.cps.toList.map λc=>D.str (ch c)
def oo(z:Str):List V:=z.cps.toList.map λc=>V.str (ch c)
def ZG(z:Str)(H:aw)(i:Nat):(i<(oo z).length->(sC z).go i H/\∀x H',(sC z).pK i H x H'->H'=H/\(oo z)[i]? = some x)/\((oo z).length<=i->(sC z).stop i H):=by
 have hl:(oo z).length=z.cps.size:=by unfold oo;rw[alM,amA]
 rw[hl];refine⟨λhi=>⟨hi,λx H' ⟨e,c,a,b⟩=>⟨e,?_⟩⟩,λhi=>hi⟩;subst b;unfold oo;rw[al4,aoq,a];rfl
variable[aA.a4]
def Uq{K:aN}{mg:bo}{O:a_}{H:aw}(z:Str):bl K mg O H (yI z) (oo z):=by
 unfold yI oo
 induction z.cps.toList with
 |nil=>rfl|cons c r a=>exact⟨_,_,rfl,rfl,a⟩
@[simp] def NA(m:bt)(U:aK):M (List D):=do
 let r <-m U
 match r with
 |.v (.str z)=>pure (yI z)|_=>bad
section
variable{X:aT}{cf l:Expr}{m:bt}
def ahm(hl:bb X l m):q8 X cf l (NA m):=⟨pf (aez hl.un) λn H R e=>by
 obtain⟨O,U,S,xs,k,st,h,q⟩:=e;obtain⟨r,S1,f,h⟩:=M.inv h;split at h
 .rename_i z
  cases h;refine⟨O,U,S,_,_,st,f,λb v a j d g nn=>⟨z,g,?_⟩⟩;exact q b a (sC z) (oo z) j d (λc _ i=>ZG z c i) (Uq z)
 .cases h⟩
end
section
variable{K:aN}{mg:bo}
def uJ(i j:Str):Bool:=!(an8 j i 0 j.length 1).isEmpty
def r6(neg:Bool):R->R->M R
 |.v (.str i),.v (.str j)=>pure (.v (.ax (neg ^^ uJ i j)))|_,_=>bad
def HK:eg K mg (λx y H Q=>∃i j,x=.str i/\y=.str j/\Q (.ax (!(an8 j i 0 j.length 1).isEmpty)) H) (r6 false):=λO U S e H x y c f g d Q st b a h q=>by
 unfold r6 at h;split at h
 .rename_i i j
  cases h;refine⟨i,j,b,a,?_⟩;have:(!(an8 j i 0 j.length 1).isEmpty)=(false ^^ uJ i j):=by unfold uJ;simp
  rw[this];exact q O _ H (Go.refl _ _) st rfl trivial
 .cases h
end
end aC
namespace aC
open PySem PySem.Spec aA PyProof.Rows
def x'(K:aN)(mg:bo)[aA.a4](d:D)(u:Value):Prop:=∃v,RelV v u/\∀O H,Rep K mg O H d v
structure KTab(P:al7)(w:World)(K:aN)(mg:bo)[aA.a4](x:Str)(ps:List (Str×D)):Prop where
 ex:∃(a:Addr)(ay:Array ao5)(n:Nat),(mg x=some (.ref a)/\(a==sysModules)=false)/\ans a K=some { cls:=.type "dict",data:=.dict ay n }/\KeysOf (aoW P w) ay/\
  ∀k,match ps.lookup k with
   |some d=>∃u,apz amQ ay k=some u/\x' K mg d u|none=>apz amQ ay k=none
variable[aA.a4]
def BI(K:aN)(mg:bo):List (Str×D)->List ao5->Prop
 |[],o=>o=[]|p::ps,o=>∃e r,o=e::r/\(∃t,e.key=.str p.1 t)/\x' K mg p.2 e.val/\BI K mg ps r
theorem NW{K:aN}{mg:bo}{k:Str}:∀{ps:List (Str×D)}{o:List ao5},BI K mg ps o->match ps.lookup k with
   |some d=>∃u,(o.find? λe=>amQ k e.key).map (·.val)=some u/\x' K mg d u|none=>(o.find? λe=>amQ k e.key).map (·.val)=none
 |[],o,h=>by cases h;rfl
 |p::ps,o,h=>by
  obtain⟨e,r,rfl,⟨t,i⟩,b,f⟩:=h;have g:=NW (k:=k) f;obtain⟨a,j⟩:=p;rw[al0,List.find?_cons,i]
  by_cases c:k=a
  .subst c
   have av:(k==k)=true:=by simp
   have aE:amQ k (.str k t)=true:=by show(k==k)=true;simp
   rw[av,aE];exact⟨_,rfl,b⟩
  .have av:(k==a)=false:=by simpa using c
   have aE:amQ k (.str a t)=false:=by
    show(a==k)=false;simp only[beq_eq_false_iff_ne,ne_eq];exact λz=>c z.symm
   rw[av,aE];exact g
def aag{P:al7}{w:World}{K:aN}{h:Heap}{mg:bo}{x:Str}{d:Addr}{b:Array ao5}{n:Nat}{ps:List (Str×D)}(X:K.In h)(G:h.Ns aml mg)
  (a:aoQ K aml x=some (some (.ref d))) (hs:(d==sysModules)=false) (l:ans d K=some { cls:=.type "dict",data:=.dict b n }) (k:∀e∈b.toList,∃s,amQ s e.key=true/\e.hash=hashStr w s)
  (f:BI K mg ps b.toList):KTab P w K mg x ps:=by
 refine⟨d,b,n,⟨apq X G a,hs⟩,l,λe he=>?_,λk=>?_⟩
 .obtain⟨s,c,g⟩:=k e (by simpa using he)
  exact⟨s,c,g⟩
 .have z:=NW (k:=k) f
  have:∀k:Str,apz amQ b k=(b.toList.find? λe=>amQ k e.key).map (·.val):=λk=>by
   unfold apz;obtain⟨l⟩:=b;rw[List.find?_toArray]
  rw[this];exact z
def BK:List Str->List Value->Prop
 |[],us=>us=[]|x::xs,us=>∃t r,us=.str x t::r/\BK xs r
theorem N_:∀{xs:List Str}{us:List Value},BK xs us->Vals (xs.map V.str) us
 |[],us,h=>by cases h;exact .nil
 |x::xs,us,h=>by obtain⟨t,r,rfl,q⟩:=h;exact .cons ⟨t,rfl⟩ (N_ q)
def oV{K:aN}{mg:bo}{xs:List Str}{a:Addr}{its:Array Value}{n:Nat}{c:Option Addr}{d:Array (Option Value)}(l:ans a K=some ⟨.type "tuple",c,.seq its n,d⟩)(hz:its.size<=alP)(h:BK xs its.toList) :
  x' K mg (.t (xs.map D.str)) (.ref a):=by
 refine⟨.ref a,rfl,λO H=>⟨a,xs.map V.str,rfl,.inr ⟨_,its,n,l,rfl,rfl,hz,N_ h⟩,?_⟩⟩
 induction xs with
 |nil=>rfl| cons x r b=>exact⟨_,_,rfl,rfl,by
   clear b h
   induction r with
   |nil=>rfl| cons y q b=>exact⟨_,_,rfl,rfl,b⟩⟩
@[simp] def ai3(neg:Bool)(ps:List (Str×D))(mk:bt)(U:aK):M R:=do
 let k <-mk U
 match k with
 |.v (.str z)=>pure (.v (.ax (neg ^^ (ps.lookup z).isSome)))|_=>bad
section
omit [aA.a4]
@[simp] theorem akh:r6 b (.v (.str i)) (.v (.str j))=pure (.v (.ax (b ^^ uJ i j))):=rfl
end
end aC
namespace aC
open PySem PySem.Spec aA PyProof.Rows
section
variable{X:aT}
def abk:u5 X "str.find" (λx xs H Q=>∃y z,x=.str y/\xs=[.str z]/\Q (.int (apv y z)) H):=by
 rintro zn s U H x xs v us Q J a rs ⟨y,z,ex,b,q⟩;subst ex b;obtain⟨t,rfl⟩:=a;obtain⟨u,rfl,t',rfl⟩:=vals1 rs;exact SC.find ⟨.int _,H,J.tok _,⟨_,rfl⟩,q⟩
end
variable[aA.a4]
@[simp] def CH(f:R->List R->M R)(a:bt)(ms:c0)(U:aK):M R:=do
 let x <-a U
 let rs <-ms U
 f x rs
def G8(K:aN)(mg:bo)(r:V->List V->aw->cE->Prop)(f:R->List R->M R):Prop:=
 ∀O U S J H x xs o rs bz C (Q:cE),cN K mg O U S J H->eu K mg O H o x->i8 K mg O H rs xs->(f o rs).run S=.ok bz C->u7 K mg O U C J H bz Q->r x xs H Q
def Ho(f:R->List R->M R):Prop:=∀a rs S c b,(f a rs).run S=.ok c b->∃z,a=.v (.str z)
section
variable{X:aT}{o e:Expr}{ay:List Expr}{a:bt}{ms:c0}{name:Str}{apos dw:Pos}{id:String}{r:V->List V->aw->cE->Prop}{f:R->List R->M R}
def ahL(slot:PySem.Slot "str" name id)(W:typeOf (.builtin id)=pure (.type "method_descriptor"))(P:u5 X id r)(N:G8 X.K X.mg r f)(os:Ho f)(t:bb X o a)(A:gv X (e::ay) ms)
  (T:ani o name X.env (eval o X.env)=eval o X.env:=by rfl)
  (Y:((amg dw (alJ (e::ay) X.env)).all (λx=>!x.1)&&(ant dw (amU [] X.env)).all (λx=>x.1.isSome)
&&decide ((e::ay).length+([]:List aoK).length+(if([]:List aoK).isEmpty then 0 else 1)<30))=true:=by rfl)
  (V:(apos.endLine==dw.line)=true:=by rfl) (hs:alJ (e::ay) X.env=(false,eval e X.env)::alJ ay X.env:=by rfl) (R:(amg dw (alJ ay X.env)).any (·.1)=false:=by rfl) :
  bb X (.Call (.Attribute o name apos) (e::ay) [] dw) (CH f a ms):=⟨eb (FR PySem.F.plainAttrs_str slot W P t.un A.un T Y V hs R) λD H Q s=>by
 obtain⟨O,U,S,G,B,st,h,q⟩:=s;obtain⟨x,S1,u,h⟩:=M.inv h;obtain⟨rs,c,w,h⟩:=M.inv h;refine⟨O,U,S,x,S1,st,u,λn L Z i p m bu=>?_⟩;obtain⟨z,rfl⟩:=os _ _ _ _ _ h;cases(show L=.str z from m);refine⟨rfl,n,U,S1,rs,c,p,w,λd vs b j bF E nn=>?_⟩;exact N d U c D b _ vs _ rs G B Q bF (show eu X.K X.mg d b (.v (.str z)) (.str z)from rfl) E h λy v H' g I l k=>q y v H' ((i.trans j).trans g) I l (k.back (i.trans j).same)⟩
end
def rx(x:R)(rs:List R):M R:=match x,rs with
 |.v (.str y),[.v (.str z)]=>pure (.v (.int (apv y z)))|_,_=>bad
def adx:Ho rx:=λa rs S c b h=>by
 unfold rx at h;split at h
 .exact⟨_,rfl⟩
 .cases h
section
variable{K:aN}{mg:bo}
def TL:G8 K mg (λx xs H Q=>∃y z,x=.str y/\xs=[.str z]/\Q (.int (apv y z)) H) rx:=λO U S f H x xs d rs g e Q st b a h q=>by
 unfold rx at h;split at h
 .rename_i y z
  cases h;obtain⟨v,rfl,c⟩:=kY a;exact⟨y,z,b,by rw[show v=V.str z from c],q O _ H (Go.refl _ _) st rfl trivial⟩
 .cases h
end
omit [aA.a4]in
@[simp] theorem ajF{y z:Str}:rx (.v (.str y)) [.v (.str z)]=pure (.v (.int (apv y z))):=rfl
section
variable{X:aT}{cf a b:Expr}{ms:c0}{p pos:Pos}
def aiz(l:d_ X "range")(w:X.mg "range"=none)(n:gv X [a,b] ms)(hs:alJ [a,b] X.env=[(false,eval a X.env),(false,eval b X.env)]:=by rfl)(x:alJ [b] X.env=[(false,eval b X.env)]:=by rfl):yj X cf (.Call (.Name "range" p) [a,b] [] pos) (tl ms):=⟨pf (aey l w n.un hs x) λz H R m=>by
 obtain⟨O,U,S,xs,y,st,h,q⟩:=m;obtain rfl:=(tl ms U).fc _ _ _ h;obtain⟨rs,S1,d,h⟩:=M.inv h;obtain rfl:=(ms U).fc _ _ _ d;split at h
 .rename_i i j
  by_cases c:-(2 ^ 62)<=i/\i<2 ^ 62/\-(2 ^ 62)<=j/\j<2 ^ 62
  .rw[if_pos c]at h
   cases h;refine⟨O,U,S1,_,S1,st.s3,d,λg vs f e k s nn=>?_⟩;obtain⟨v,u,rfl,r,t⟩:=F_ s;cases(show v=.int i from r);cases(show u=.int j from t);exact⟨i,j,rfl,c,q g f (m6 i (j-i).toNat) (mQ i (j-i).toNat) e (st.go e k.ck) (NM _ _) (Gd _ _)⟩
  .rw[if_neg c]at h;cases h
 .cases h⟩
end
end aC
namespace aC
open PySem PySem.Spec aA PyProof.Rows
variable[aA.a4]
@[simp] def CK(ps:List (Str×D))(mk:bt)(U:aK):M R:=do
 let k <-mk U
 match k with
 |.v (.str z)=>pure (.v ((ps.lookup z).getD .aH))|_=>bad
section
variable{X:aT}{x:Str}{ps:List (Str×D)}{e:Expr}{p apos dw:Pos}{mk:bt}
def ahM(T:KTab X.prog X.w X.K X.mg x ps)(G:d_ X x)(he:bb X e mk)(m:fX X (.Name x p) "get" apos e dw:=by exact⟨rfl,rfl,rfl,rfl⟩)(W:(x==("__debug__":Str))=false:=by decide) :
  bb X (.Call (.Attribute (.Name x p) "get" apos) [e] [] dw) (CK ps mk):=⟨by
 rintro zn s U H Q J ⟨O,U',S,r,L,st,h,q⟩;obtain⟨y,S1,I,h⟩:=M.inv h;split at h
 .rename_i z
  cases h;obtain⟨a,D,n,⟨o,E⟩,hl,N,Z⟩:=T.ex;refine wpAny_Call_method m.base m.Vl m.line PySem.F.plainAttrs_dict aqk PySem.F.type_dict_get (tB J G o ?_ W);have i:=J.f3 a _ hl;refine⟨⟨_,i,rfl⟩,λb e=>by cases e;exact⟨_,i,rfl⟩,?_⟩;rw[m.trees];refine aoO rfl (Calls.evalArgs_plain (apA (bW (he.un zn s U H (λv l=>v=.str z/\∃c,Go O c H l/\cN X.K X.mg c U' L U l) J ⟨O,U',S,_,_,st,I,λc v l j g V nn=>⟨V,c,j,g⟩⟩) λC s2 ⟨y,f,B,R,Y,c,j,g⟩=>apN ?_)));subst Y;obtain⟨t,rfl⟩:=R;have i:=B.f3 a _ hl;have mo:s2.heap.MapOf (aoW X.prog X.w) a (apz amQ D):=⟨_,D,n,i,⟨rfl,rfl,rfl⟩,rfl,N,λ_=>rfl⟩;refine call_meetsIn aqk mo.typeIs PySem.F.entry_dict_get (PySem.F.args_dict_get_2 _ _) (meets_dict_get (aoW X.prog X.w) a (k:=z) ?_ E) ⟨_,mo,?_⟩
  .show(z==z)=true
   simp
  .have:=Z z
   cases av:ps.lookup z with
   |none=>
    rw[av]at this q;rw[this];exact⟨.aH,f,B.tok _,rfl,q c _ f j g rfl trivial⟩
   |some d=>
    rw[av]at this q;obtain⟨u,aE,v,P,A⟩:=this;rw[aE];exact⟨v,f,B.tok _,P,q c _ f j g (A c f) trivial⟩
 .cases h⟩
end
end aC
namespace aC
open PySem PySem.Spec aA
section
variable{P:List Value->Prop}
def QW(h:P []):∀us:List Value,us.length=0->P us:=λus e=>by rw[apj e];exact h
def sm(h:∀a,∀us:List Value,us.length=n->P (a::us)):∀us:List Value,us.length=n+1->P us:=λus e=>by
 cases us with
 |nil=>cases e
 |cons a r=>exact h a r (Nat.succ.inj e)
def pD(h:∀a,P [a]):∀us:List Value,us.length=1->P us:=sm λa=>QW (h a)
def qJ(h:∀a b,P [a,b]):∀us:List Value,us.length=2->P us:=sm λa=>pD (h a)
def qK(h:∀a b c,P [a,b,c]):∀us:List Value,us.length=3->P us:=sm λa=>qJ (h a)
def A_(h:∀a b c d,P [a,b,c,d]):∀us:List Value,us.length=4->P us:=sm λa=>qK (h a)
def A'(h:∀a b c d e,P [a,b,c,d,e]):∀us:List Value,us.length=5->P us:=sm λa=>A_ (h a)
def Ba(h:∀a b c d e f,P [a,b,c,d,e,f]):∀us:List Value,us.length=6->P us:=sm λa=>A' (h a)
def GO(h:∀a b c d e f g,P [a,b,c,d,e,f,g]):∀us:List Value,us.length=7->P us:=sm λa=>Ba (h a)
end
def Mn(N P:List Str)(a:Scope):Bool:=decide (a.kind=.function)&&!a.isCoroutine&&!a.isGenerator&&decide N.Nodup&&decide (N.take P.length=P)
&&P.all (λx=>decide (a.names.lookup x=some .local)||decide (a.names.lookup x=some .cell))&&a.names.all λy=>decide (y.2≠.free)
def s7{N P:List Str}(h:Mn N P sc=true):gP N P sc:=by
 simp only[Mn,amc,Bool.not_eq_true',decide_eq_true_eq,amv,aqd]at h;exact⟨h.1.1.1.1.1.1,h.1.1.1.1.1.2,h.1.1.1.1.2,h.1.1.1.2,h.1.1.2,h.1.2,h.2⟩
def JY(EN xs:List Str)(cap:List Nat):List Str:=xs++cap.filterMap λk=>EN[k]?
def JZ(esc scope:Scope)(EN N:List Str)(n:Nat)(cap:List Nat):Bool:=decide (scope.kind=.function)&&scope.names.all (λy=>decide (y.2≠.cell))&&scope.names.all (λy=>decide (y.2=.local->scope.names.lookup y.1=some .local))
&&scope.names.all (λy=>decide (y.2=.free->esc.names.lookup y.1=some .cell\/esc.names.lookup y.1=some .free))&&decide N.Nodup&&decide (N.length=n+cap.length)
&&(ame cap.length).all λj=>decide (N[n+j]? = EN[cap.getD j 0]?)&&(match N[n+j]? with|some x=>decide (scope.names.lookup x=some .free)|none=>true)
def vp{EN xs:List Str}(h:JZ esc scope EN (JY EN xs cap) xs.length cap=true):la esc scope EN (JY EN xs cap) xs.length cap:=by
 simp only[JZ,amc,decide_eq_true_eq,amv]at h;obtain⟨⟨⟨⟨⟨⟨e,f⟩,i⟩,k⟩,l⟩,m⟩,c⟩:=h;refine⟨e,f,i,k,l,m,λj d=>?_⟩;obtain⟨a,b⟩:=c j (amz.mpr d);refine⟨a,λx g=>?_⟩;rw[g]at b;exact of_decide_eq_true b
def qw{N:List Str}(h:decide N.Nodup=true):N.Nodup:=of_decide_eq_true h
def Af{p:Nat->Prop}(b:p 0)(a:∀n,p (n+1)):∀n,p n:=λn=>by cases n with|zero=>exact b|succ n=>exact a n
variable[aA.a4]
end aC
namespace aC
open PySem PySem.Spec aA
variable[aA.a4]
structure cy(K:aN)(mg:bo)(x:Str)(st:Stmt)(ps N:List Str):Prop where
 d:gO K mg x st ps
 s:gP N ps (df st)
structure eh(K:aN)(mg:bo)(c m qual:Str)(st:Stmt)(ps N:List Str):Prop where
 d:x1 K mg c m qual st ps
 s:gP N ps (df st)
structure x2(K:aN)(mg:bo)(c m qual:Str)(st:Stmt)(ps N:List Str):Prop where
 d:BD K mg c m qual st ps
 s:gP N ps (df st)
section
variable(P:al7)(w:World)(base:Heap){K:aN}{mg:bo}{x c m qual:Str}{st:Stmt}{ps N:List Str}
abbrev cU(_:cy K mg x st ps N)(j k:Nat)(f:bj):Prop:=k<=j->eV P w K mg base x ps k (e3 K mg f)
abbrev BG(_:cy K mg x st ps N)(j k:Nat)(f:dV):Prop:=k<=j->eV P w K mg base x ps k (hY K mg f)
abbrev ir(_:eh K mg c m qual st ps N)(j k:Nat)(f:bj):Prop:=k<=j->ko P w K mg base c m ps k (e3 K mg f)
abbrev iu(_:eh K mg c m qual st ps N)(j k:Nat)(f:dV):Prop:=k<=j->ko P w K mg base c m ps k (hY K mg f)
abbrev BH(_:x2 K mg c m qual st ps N)(j k:Nat)(f:dV):Prop:=k<=j->BF P w K mg base c m ps k (hY K mg f)
end
section
variable{P:al7}{w:World}{base:Heap}{K:aN}{mg:bo}{x c m qual:Str}{st:Stmt}{ps N:List Str}{j k:Nat}{f:bj}{g:dV}{b:aL}{e:bX}
abbrev uY(P:al7)(w:World)(K:aN)(mg:bo)(base:Heap)(N:List Str)(q:Str)(st:Stmt)(j k:Nat)(T:aT->List Stmt->Prop):Prop:=
 k+1<=j->∀(f:Addr)(a:Value)(A:ami)(outer:List Env)(s:alO)(H:aw)(E:gw),cB k (A.deeper (amR q (df st) s.heap.objs.size f a))->T (gU ey P w K mg base N q (df st) f a A outer s H E).gB (fJ st)
def cY(d:cy K mg x st ps N)(n:f=fnOf ps.length N.length b)(i:uY P w K mg base N x st j k (hF · · b)):cU P w base d j (k+1) f:=λh=>by
 subst n;exact vM d.d d.s rfl rfl λf l A outer s H E a=>(i h f l A outer s H E a).un
def My(d:cy K mg x st ps N)(i:g=fnX ps.length N.length e)(a:uY P w K mg base N x st j k (iz · · e)):BG P w base d j (k+1) g:=λh=>by
 subst i;exact Wy d.d d.s rfl rfl (a h)
def iU(d:eh K mg c m qual st ps N)(n:f=fnOf ps.length N.length b)(i:uY P w K mg base N qual st j k (hF · · b)):ir P w base d j (k+1) f:=λh=>by
 subst n;exact Wx d.d d.s rfl rfl λf l A outer s H E a=>(i h f l A outer s H E a).un
def iV(d:eh K mg c m qual st ps N)(i:g=fnX ps.length N.length e)(a:uY P w K mg base N qual st j k (iz · · e)):iu P w base d j (k+1) g:=λh=>by
 subst i;exact Ww d.d d.s rfl rfl (a h)
def Mv(d:x2 K mg c m qual st ps N)(i:g=fnX ps.length N.length e)(a:uY P w K mg base N qual st j k (iz · · e)):BH P w base d j (k+1) g:=λh=>by
 subst i;exact Wv d.d d.s rfl rfl (a h)
end
end aC
namespace aC
open PySem PySem.Spec aA
def Bi(ms:hG):eD:=λU=>do
 let rs <-ms U
 let ds <-(kz rs).up
 if ds.length<=1000 then pure (.fr ds)else hn
def yz(m:bt):aL:=λU=>do
 let r <-m U
 match r with
 |.fr _=>pure (.bu U)|_=>bad
variable[aA.a4]
section
variable{X:aT}{e:Expr}{ay:List Expr}{ms:hG}{m:bt}{pos apos dw:Pos}
def ais(c:lx X ay ms):fz X (.List ay pos) (Bi ms):=⟨eb (PA c.un) λx H Q j=>by
 obtain⟨O,U,S,r,w,st,h,q⟩:=j;obtain⟨rs,S1,k,c⟩:=N.inv h;clear h;obtain⟨ds,u,l,h⟩:=N.inv c;clear c;refine⟨O,U,S,rs,S1,st,k,λg vs t f i n nn=>?_⟩;split at h
 .rename_i hl
  cases h;obtain⟨d,rfl⟩:=yK (H₀:=H) n nn l;refine⟨anr (fU (by rw[d.len];exact hl)),λp b=>?_⟩;have s2:=i.cF H;refine q (fV (cF H g) p .dn) _ _ (f.cF.trans (Go.new b).dA) (s2.go (Go.new b) (s2.s3.ck.new b)) ⟨p,vs,rfl,dZ,lU,d.go (Go.new b)⟩ λa s=>?_
  cases s
  cases av:H p with
  |none=>rfl|some o=>exact absurd b (f.has p (hX av))
 .cases h⟩
def ahZ(he:bb X e m)(w:ani e "clear" X.env (eval e X.env)=eval e X.env:=by rfl)(x:(apos.endLine==dw.line)=true:=by rfl)
  (y:anm (.Call (.Attribute e "clear" apos) [] [] dw) none pos.line X.env=pure false:=by rfl):e_ X (.Expr (.Call (.Attribute e "clear" apos) [] [] dw) pos) (yz m):=
 ⟨gL (Ay (Py aoL PySem.F.slot_list_clear PySem.F.type_list_clear abh he.un w x) y) λD n H i=>by
  obtain⟨O,U,S,B,E,st,h,q⟩:=i;obtain⟨r,S1,k,g⟩:=M.inv h;clear h;refine⟨O,U,S,r,S1,st,k,λc v A u b p nn=>?_⟩;split at g
  .rename_i xs
   cases g;obtain⟨a,ys,rfl,l,t,G⟩:=p;have d:c a≠.free:=λz=>by rw[t]at z;cases z
   have f:c a≠.out:=λz=>by rw[t]at z;cases z
   exact⟨.inl ⟨rfl,_,dq.of l⟩,a,ys,rfl,rfl,l,q c n _ (u.bM.trans (d5.dY d f l)) ⟨b.ck.dY l,b.len,λj s e=>(b.loc j s e).dY d f (λz=>by rw[t]at z;cases z) l,b.f9.dY b.ck d f l⟩ (fg.refl _ _)⟩
  .cases g⟩
end
end aC
set_option maxHeartbeats 0
namespace dI
open PySem PySem.Spec aA aC
def top(i:Nat):Stmt:=PySem.Challenge.pw_oneslate_k43_houses_beside.main.body.getD i (.Pass ⟨0,0,0,0⟩)
abbrev Qo:Stmt:=top 7
abbrev Gh:Stmt:=top 55
abbrev Gi:Stmt:=top 57
abbrev Gj:Stmt:=top 85
abbrev xp:Stmt:=top 105
def afF:gP ["script","askers","halls","names","one","other","told","held","k","alone","beside"] ["script"] (df xp):=s7 (by kernel_rfl)
abbrev Al:List Str:=["me","epoch","hall","opening","over_known","greatest_round","last_stamp","wishes","deed","standing","last_outcome","grants","kept_mask","told_slate"]
abbrev Am:List Str:=["askers","books","letters","rows"]
abbrev zF:List (Str×D):=[("put",.t [(.str "name"),(.str "number")]),("add",.t [(.str "name"),(.str "number")]),("swap",.t [(.str "name"),(.str "number"),(.str "number")]),("take",.t [(.str "fence")]),("renew",.t [(.str "fence")]),("free",.t [(.str "fence")]),("sure",.t [(.str "fence"),(.str "name"),(.str "number")]),("move",.t [(.str "hall")]),("end",.t [])]
abbrev hv:List (Str×Str):=[("put","do_put"),("add","do_add"),("swap","do_swap"),("take","do_take"),("renew","do_renew"),("free","do_free"),("sure","do_sure"),("move","do_move"),("end","do_end")]
def yb[aA.a4](K:aN)(mg:bo)(x:Str)(st:Stmt):Prop:=∃c e7,pU K c e7 (tx x)/\∀(f:Addr)(cS:Value)(e:Option Addr)(dr a g:Value)(d:Option Addr)(b cx:Value)(o:Array (Option Value)),mg x=some (.ref f)->K.lookup f=some ⟨cS,e,.func (anF x x (iS st) (fJ st) (df st) .none dr a g d b cx),o⟩->b=.ref c
structure Txt[aA.a4](P:al7)(w:World)(K:aN)(mg:bo)(base:Heap):Prop where
 Le:cy K mg "is_whole" (top 1) T0 T0
 K0:cy K mg "has_keeper" (top 2) ["mask","keeper"] ["mask","keeper"]
 Lu:cy K mg "mask_of" (top 3) ["keepers"] ["keepers","mask","keeper"]
 Lf:cy K mg "keepers_of" (top 4) ["mask"] ["mask"]
 Lv:cy K mg "masks_within" (top 5) ["mask"] ["mask","masks","keeper"]
 CX:cy K mg "highest" (top 7) ["grants","opening"] ["grants","opening","grant"]
 KA:cy K mg "all_alike" (top 8) ["grants"] ["grants"]
 KZ:cy K mg "granters" (top 9) ["grants"] ["grants"]
 K8:cy K mg "is_keeper" (top 23) T0 T0
 La:cy K mg "is_pair" (top 24) T0 T0
 K4:cy K mg "is_choice" (top 25) T0 ["thing","many"]
 CY:cy K mg "is_built" (top 26) ["thing","deep"] ["thing","deep"]
 C1:cy K mg "namings" (top 27) ["rule"] ["rule","keepers","part"]
 Lc:cy K mg "is_rule" (top 28) T0 T0
 Ly:cy K mg "named" (top 29) ["rule"] ["rule"]
 CW:cy K mg "fills" (top 30) ["rule","mask"] ["rule","mask"]
 K9:cy K mg "is_least" (top 31) ["mask","filling"] ["mask","filling"]
 Lr:cy K mg "least_masks" (top 32) ["rule"] ["rule","filling"]
 KW:cy K mg "first_apart" (top 34) ["mask","others"] ["mask","others","other"]
 LD:cy K mg "parting" (top 35) ["asking","keeping"] ["asking","keeping","others","mask","other"]
 K7:cy K mg "is_hall" (top 36) T0 T0
 Lw:cy K mg "members_mask" (top 37) ["hall"] ["hall"]
 Lx:cy K mg "members_of" (top 38) ["hall"] ["hall"]
 K_:cy K mg "is_name" (top 43) T0 T0
 K':cy K mg "is_number" (top 44) T0 T0
 K6:cy K mg "is_fence" (top 45) T0 T0
 KX:cy K mg "form_of" (top 46) ["word"] ["word"]
 Lb:cy K mg "is_part" (top 47) ["kind","thing"] ["kind","thing"]
 K5:cy K mg "is_deed" (top 48) T0 ["thing","form"]
 KG:cy K mg "blank" (top 50) [] []
 Lq:cy K mg "lease_of" (top 51) P3 P3
 LF:cy K mg "shut_of" (top 52) P3 P3
 Ld:cy K mg "is_shut" (top 53) P3 P3
 KH:cy K mg "cell_of" (top 54) ["slate","name"] ["slate","name","cell"]
 C2:cy K mg "with_cell" (top 55) ["slate","name","n"] ["slate","name","n","cells"]
 KU:cy K mg "doing_of" (top 56) ["slate","asker"] ["slate","asker","doing"]
 C3:cy K mg "with_doing" (top 57) ["slate","asker","number","answer"] ["slate","asker","number","answer","doings"]
 LH:cy K mg "with_lease" (top 58) v6 v6
 LI:cy K mg "with_shut" (top 59) ["slate","shut"] ["slate","shut"]
 LA:cy K mg "opened" (top 60) P3 P3
 KO:cy K mg "do_put" (top 62) W1 W1
 KI:cy K mg "do_add" (top 63) W1 ["slate","asker","deed","total"]
 KR:cy K mg "do_swap" (top 64) W1 W1
 Ls:cy K mg "lent" (top 65) v6 v6
 Lz:cy K mg "not_lent" (top 66) P3 ["slate","lease"]
 KS:cy K mg "do_take" (top 67) W1 W1
 KP:cy K mg "do_renew" (top 68) W1 W1
 KL:cy K mg "do_free" (top 69) W1 W1
 KQ:cy K mg "do_sure" (top 70) W1 W1
 KN:cy K mg "do_move" (top 71) W1 W1
 KJ:cy K mg "do_end" (top 72) W1 W1
 LB:cy K mg "outcome_of" (top 74) W1 ["slate","asker","deed","doer"]
 KV:cy K mg "done_on" (top 75) ["slate","asker","number","deed"] ["slate","asker","number","deed","made"]
 KD:cy K mg "ask_letter" (top 77) ["asker","keeper","epoch","stamp"] ["asker","keeper","epoch","stamp"]
 LG:cy K mg "tell_letter" (top 78) zzz0 zzz0
 KC:cy K mg "answer_to" (top 79) ["letter","word","load"] ["letter","word","load"]
 KY:cy K mg "goes_to_keeper" (top 80) ["letter"] ["letter"]
 J2:eh K mg "Asker" "__init__" "Asker.__init__" (inClass (top 82) 0) ["self","me","hall"] ["self","me","hall"]
 J4:x2 K mg "Asker" "begin" "Asker.begin" (inClass (top 82) 1) ["self","deed"] ["self","deed"]
 J5:eh K mg "Asker" "bell" "Asker.bell" (inClass (top 82) 2) v0 v0
 J_:eh K mg "Asker" "hear" "Asker.hear" (inClass (top 82) 3) v4 v4
 Kf:eh K mg "Asker" "outcome" "Asker.outcome" (inClass (top 82) 4) v0 v0
 Ke:eh K mg "Asker" "number" "Asker.number" (inClass (top 82) 5) v0 v0
 Ki:eh K mg "Asker" "stand" "Asker.stand" (inClass (top 82) 6) v0 v0
 Kg:eh K mg "Asker" "place" "Asker.place" (inClass (top 82) 8) v0 v0
 Kc:eh K mg "Asker" "knows_over" "Asker.knows_over" (inClass (top 82) 9) v0 v0
 Kb:eh K mg "Asker" "is_for_now" "Asker.is_for_now" (inClass (top 82) 10) v4 v4
 J3:eh K mg "Asker" "ask_members" "Asker.ask_members" (inClass (top 82) 11) v0 v0
 J':eh K mg "Asker" "hear_grant" "Asker.hear_grant" (inClass (top 82) 12) v4 v4
 J8:eh K mg "Asker" "go_on" "Asker.go_on" (inClass (top 82) 13) ["self","pair"] ["self","pair","load"]
 Kh:eh K mg "Asker" "sees_at_once" "Asker.sees_at_once" (inClass (top 82) 14) ["self","slate"] ["self","slate"]
 Ka:eh K mg "Asker" "hear_kept" "Asker.hear_kept" (inClass (top 82) 15) v4 ["self","letter","shut"]
 J6:eh K mg "Asker" "end_where_told" "Asker.end_where_told" (inClass (top 82) 16) v0 ["self","slate","doing"]
 Kd:eh K mg "Asker" "learn_over" "Asker.learn_over" (inClass (top 82) 17) v0 v0
 J9:eh K mg "Asker" "go_over" "Asker.go_over" (inClass (top 82) 18) ["self","hall"] ["self","hall"]
 J7:eh K mg "Asker" "end_wish" "Asker.end_wish" (inClass (top 82) 19) ["self","outcome"] ["self","outcome"]
 LC:cy K mg "page_of" (top 84) ["book","epoch"] ["book","epoch","page"]
 C4:cy K mg "with_page" (top 85) ["book","epoch","promised","kept","slate"] ["book","epoch","promised","kept","slate","pages"]
 Lg:cy K mg "late" (top 86) ["book","letter","promised"] ["book","letter","promised"]
 K2:cy K mg "heard_ask" (top 87) u8 ["book","letter","stamp","page"]
 K3:cy K mg "heard_tell" (top 88) u8 ["book","letter","stamp","promised"]
 K1:cy K mg "heard" (top 89) u8 u8
 Kj:eh K mg "House" "__init__" "House.__init__" (inClass (top 93) 0) ["self","hall","askers"] ["self","hall","askers"]
 Kl:x2 K mg "House" "begin" "House.begin" (inClass (top 93) 1) ["self","asker","deed"] ["self","asker","deed","one","letters"]
 Km:eh K mg "House" "bell" "House.bell" (inClass (top 93) 2) M2 M2
 Ko:eh K mg "House" "bring" "House.bring" (inClass (top 93) 3) ["self","k"] ["self","k","letter"]
 Kx:eh K mg "House" "record" "House.record" (inClass (top 93) 4) v0 v0
 Kr:eh K mg "House" "history" "House.history" (inClass (top 93) 5) v0 v0
 Ku:eh K mg "House" "many" "House.many" (inClass (top 93) 6) v0 v0
 Kt:eh K mg "House" "letter" "House.letter" (inClass (top 93) 7) ["self","k"] ["self","k"]
 Kn:eh K mg "House" "book" "House.book" (inClass (top 93) 8) ["self","keeper"] ["self","keeper"]
 Kv:eh K mg "House" "outcome" "House.outcome" (inClass (top 93) 9) M2 M2
 Ky:eh K mg "House" "stand" "House.stand" (inClass (top 93) 10) M2 M2
 Kw:eh K mg "House" "place" "House.place" (inClass (top 93) 11) M2 M2
 Ks:eh K mg "House" "knows_over" "House.knows_over" (inClass (top 93) 12) M2 M2
 Kk:eh K mg "House" "asker_of" "House.asker_of" (inClass (top 93) 13) M2 M2
 Kz:eh K mg "House" "write" "House.write" (inClass (top 93) 14) ["self","letters"] ["self","letters","first"]
 Kq:eh K mg "House" "bring_to_keeper" "House.bring_to_keeper" (inClass (top 93) 15) v4 ["self","letter","told"]
 Kp:eh K mg "House" "bring_to_asker" "House.bring_to_asker" (inClass (top 93) 16) v4 ["self","letter","one","before","letters"]
 Li:cy K mg "_law_cell_at" (top 95) ["script","k"] ["script","k"]
 C0:cy K mg "_law_alike" (top 96) ["found","due"] ["found","due","k"]
 Ll:cy K mg "_law_flat" (top 97) ["cell"] ["cell","many","some","asks"]
 Lm:cy K mg "_law_hall" (top 98) ["cell"] ["cell","some","rule","rows","tops"]
 Lo:cy K mg "_law_name" (top 99) ["cell"] ["cell","size","name"]
 Lp:cy K mg "_law_names" (top 100) ["cell"] ["cell","letters","base","at","other","third"]
 Lj:cy K mg "_law_deed" (top 101) ["names","mixed","cell"] ["names","mixed","cell","name","n","fence","way"]
 Lh:cy K mg "_law_burst" (top 102) ["house","start","living","most"] ["house","start","living","most","k","letter","keeper"]
 Lk:cy K mg "_law_event" (top 103) ["house","names","askers","cell","k"] ["house","names","askers","cell","k","mixed","other","asker","start","j","deed","living"]
 Ln:cy K mg "_law_look" (top 104) ["house","askers"] ["house","askers","places","books","ends","stands"]
 CZ:gO K mg "law" xp ["script"]
 oj:m3 K mg "Asker" Al
 om:m3 K mg "House" Am
 VL:∃u,mg "LAST_KEEPER"=some u/\RelV (.int 5) u
 VQ:∃u,mg "MOST_PARTS"=some u/\RelV (.int 6) u
 VP:∃u,mg "MOST_NAMED"=some u/\RelV (.int 12) u
 VN:∃u,mg "MOST_DEEP"=some u/\RelV (.int 4) u
 VR:∃u,mg "SMALL_LETTERS"=some u/\RelV (.str "abcdefghijklmnopqrstuvwxyz") u
 VO:∃u,mg "MOST_LETTERS"=some u/\RelV (.int 8) u
 VM:∃u,mg "MOST_ASKERS"=some u/\RelV (.int 6) u
 VK:∃u,mg "KEEPERS"=some u/\RelV (.int 6) u
 AX:u2 P w K mg "DOERS" hv
 EB:KTab P w K mg "FORMS" zF
 EO:yb K mg "highest" Qo
 EU:yb K mg "with_cell" Gh
 EV:yb K mg "with_doing" Gi
 EW:yb K mg "with_page" Gj
 bm:iI base mg
 B:G9 mg
 kt:ya K
section
variable[aA.a4]{P:al7}{w:World}{K:aN}{mg:bo}{base:Heap}
def Tc:aL:=
  (a0 (j4 (cA gV (aa (I 0) (aa (af (.ty "int")) ai))) (vl (cA gV (aa (I 0) (aa (af (.ty "bool")) ai))))))
def mD:bj:=fnOf 1 1 Tc
def Ij:aL:=
  (a0 (ae oEq (ae w2 (ae Ap (I 0) (I 1)) (af (.int 1))) (af (.int 1))))
def qs:bj:=fnOf 2 2 Ij
def ES:aL:=
  (b8 1 (ae ub (I 1) (ae Fy (af (.int 1)) (I 2))))
def I0:aL:=
  (a0 (I 1))
def IZ:aL:=
  bE (ky 2 (vY (I 0)) ES) I0
def IY:aL:=
  bE (b8 1 (af (.int 0))) IZ
def lK:bj:=fnOf 1 3 IY
def IH:aL:=
  (a0 (eA 1 [0] (gY (aa (bf oBits (I 0)) ai)) (aU (bh qs (aa (I 1) (aa (I 0) ai)))) (I 0)))
def tR:bj:=fnOf 1 1 IH
def ET:aL:=
  (b8 1 (ae o' (I 1) (eA 1 [2] (nF (I 1)) eM (ae ew (I 0) (bh lK (aa (dW (aa (I 1) ai)) ai))))))
def I3:aL:=
  (a0 (I 1))
def I2:aL:=
  bE (ky 2 (vY (bh tR (aa (I 0) ai))) ET) I3
def I1:aL:=
  bE (b8 1 (dW (aa (af (.int 0)) ai))) I2
def z3:bj:=fnOf 1 3 I1
def Io:aL:=
  (a0 (bL (aa (ae aG (I 2) (af (.int 1))) (aa (ae aG (I 2) (af (.int 2))) ai))))
def Im:aL:=
  bE (b7 (aU (ae oEq (ae aG (I 2) (af (.int 1))) (bL (aa (af (.int 0)) (aa (af (.int 0)) ai))))) (a0 (bL (aa (ae aG (I 2) (af (.int 1))) (aa (I 1) ai)))) bS) Io
def Cs:aL:=
  bE (b8 2 (yB (fnOf 1 1 (a0 (ae aG (I 0) (af (.int 1))))) (I 0))) Im
def zY:bj:=fnOf 2 3 Cs
def Xp(T:Txt P w K mg base):eV P w K mg base "highest" ["grants","opening"] 4 (e3 K mg zY):=by
 show eV P w K mg base _ _ _ (e3 K mg (fnOf 2 3 Cs));obtain⟨c,e7,L,e⟩:=T.EO;refine y_ (k:=3) T.CX.d e T.CX.s rfl rfl λf A outer s H E a=>?_
 have b:=a.units;refine hF.un ?_;refine n5 ?_ (n5 ?_ (qP ?_))
 .exact(GW (i:=2) T.CX.s.fC rfl (.inl rfl) (ahB (k:=0) (N:=["one"]) (p1:="one") rfl T.B.max (a.mono (by omega)) L T.bm rfl rfl ⟨rfl,rfl,rfl,by decide +kernel,rfl,by decide +kernel,by decide +kernel⟩ (λ_ _ _ _=>rfl) (λ_ _ _ _ _ _=>(hx hk g9 (dK 0) gE)) (dK 0)))
 .exact(GV (i3 (FL b) B' (hx hk g9 (dK 2) gE) (pG (eN gE (eN gE i2)))) (qP (sv (pG (eN (hx hk g9 (dK 2) gE) (eN (dK 1) i2))))) GX)
 .exact(sv (pG (eN (hx hk g9 (dK 2) gE) (eN (hx hk g9 (dK 2) gE) i2))))
def H2:aL:=
  (a0 (cA oA (aa (eA 1 [0] (nF (I 0)) eM (ae oEq (ae aG (I 0) (af (.int 1))) (ae aG (ae aG (I 1) (af (.int 0))) (af (.int 1))))) ai)))
def wx:bj:=fnOf 1 1 H2
def Ii:aL:=
  (a0 (bh lK (aa (eA 1 [] (nF (I 0)) eM (ae aG (I 0) (af (.int 0)))) ai)))
def o2:bj:=fnOf 1 1 Ii
def IA:aL:=
  (a0 (j4 (bh mD (aa (I 0) ai)) (fA oLe oLe (af (.int 0)) (I 0) (af (.int 5)))))
def wF:bj:=fnOf 1 1 IA
def Tb:aL:=
  (a0 (j4 (cA gV (aa (I 0) (aa (af (.ty "tuple")) ai))) (ae oEq (cA gW (aa (I 0) ai)) (af (.int 2)))))
def z0:bj:=fnOf 1 1 Tb
def Iq:aL:=
  (a0 (j4 (ae oLe (I 1) (af (.int 6))) (fA oLe oLe (af (.int 1)) (ae aG (I 0) (af (.int 0))) (I 1))))
def Ta:aL:=
  bE (b7 (f_ (ef (aU (bh z0 (aa (I 0) ai)))) (f_ (ef (aU (bh mD (aa (ae aG (I 0) (af (.int 0))) ai)))) (ef (aU (cA gV (aa (ae aG (I 0) (af (.int 1))) (aa (af (.ty "tuple")) ai))))))) (a0 (af (.ax false))) bS) (bE (b8 1 (cA gW (aa (ae aG (I 0) (af (.int 1))) ai))) Iq)
def Fc:bj:=fnOf 1 2 Ta
def S'(self:bj):aL:=
  (a0 (cA oA (aa (eA 1 [1] (lI (ae aG (I 0) (af (.int 1)))) eM (bh self (aa (I 0) (aa (ae mI (I 1) (af (.int 1))) ai)))) ai)))
def S_(self:bj):aL:=
  bE (b7 (f_ (aU (ae oEq (I 1) (af (.int 0)))) (ef (aU (bh Fc (aa (I 0) ai))))) (a0 (af (.ax false))) bS) (S' self)
def Ip(self:bj):aL:=
  bE (b7 (aU (bh wF (aa (I 0) ai))) (a0 (af (.ax true))) bS) (S_ self)
def r0:Nat->bj
 |0=>λ_=>bad
 |n+1=>fnOf 2 2 (Ip (r0 n))
def wc(self:bj):aL:=
  (rb 1 xG (aa (bh self (aa (I 2) ai)) ai))
def I9(self:bj):aL:=
  (yD 1)
def I8(self:bj):aL:=
  bE (ky 2 (lI (ae aG (I 0) (af (.int 1)))) (wc self)) (I9 self)
def I7(self:bj):aL:=
  bE (nq 1 (dW ai)) (I8 self)
def yr(self:bj):aL:=
  bE (b7 (aU (bh mD (aa (I 0) ai))) (a0 (dW (aa (I 0) ai))) bS) (I7 self)
def mF:Nat->bj
 |0=>λ_=>bad
 |n+1=>fnOf 1 3 (yr (mF n))
def IF:aL:=
  (a0 (j4 (bh (r0 12) (aa (I 0) (aa (af (.int 4)) ai))) (ae oLe (cA gW (aa (bh (mF 12) (aa (I 0) ai)) ai)) (af (.int 12)))))
def wJ:bj:=fnOf 1 1 IF
def I6:aL:=
  (a0 (bh lK (aa (bh (mF 12) (aa (I 0) ai)) ai)))
def tV:bj:=fnOf 1 1 I6
def Ib(self:bj):aL:=
  (a0 (ae ud (cA gW (aa (eA 1 [1] (lI (ae aG (I 0) (af (.int 1)))) (aU (bh self (aa (I 0) (aa (I 1) ai)))) (I 0)) ai)) (ae aG (I 0) (af (.int 0)))))
def yq(self:bj):aL:=
  bE (b7 (aU (bh mD (aa (I 0) ai))) (a0 (bh qs (aa (I 1) (aa (I 0) ai)))) bS) (Ib self)
def ji:Nat->bj
 |0=>λ_=>bad
 |n+1=>fnOf 2 2 (yq (ji n))
def IB:aL:=
  (a0 (vl (cA vA (aa (eA 1 [0,1] (nF (bh tR (aa (I 0) ai))) eM (ae (kW false) (ae mI (I 1) (bh lK (aa (dW (aa (I 0) ai)) ai))) (I 2))) ai))))
def wG:bj:=fnOf 2 2 IB
def IW:aL:=
  (a0 (eA 1 [1] (nF (I 1)) (aU (bh wG (aa (I 0) (aa (I 1) ai)))) (I 0)))
def IV:aL:=
  bE (b8 1 (eA 1 [0] (nF (bh z3 (aa (bh tV (aa (I 0) ai)) ai))) (aU (bh (ji 12) (aa (I 1) (aa (I 0) ai)))) (I 0))) IW
def wK:bj:=fnOf 1 2 IV
def zI:aL:=
  (b7 (aU (ae oEq (ae w2 (I 0) (I 2)) (af (.int 0)))) (a0 (I 2)) bS)
def Ie:aL:=
  (a0 (af (.aH)))
def Ic:aL:=
  bE (ky 2 (vY (I 1)) zI) Ie
def wD:bj:=fnOf 2 3 Ic
def zK:aL:=
  (bE (b8 4 (bh wD (aa (I 3) (aa (I 2) ai))))
  (b7 (aU (ae i1 (I 4) (af (.aH)))) (a0 (bL (aa (I 3) (aa (I 4) ai)))) bS))
def Jf:aL:=
  (a0 (af (.aH)))
def Je:aL:=
  bE (ky 3 (vY (bh wK (aa (I 0) ai))) zK) Jf
def Jd:aL:=
  bE (b8 2 (bh wK (aa (I 1) ai))) Je
def z5:bj:=fnOf 2 5 Jd
def Iz:aL:=
  (a0 (ae jS (bh z5 (aa (ae aG (I 0) (af (.int 0))) (aa (ae aG (I 0) (af (.int 1))) ai))) (af (.aH))))
def Iy:aL:=
  bE (b7 (f_ (ef (aU (bh z0 (aa (I 0) ai)))) (f_ (ef (aU (bh wJ (aa (ae aG (I 0) (af (.int 0))) ai)))) (ef (aU (bh wJ (aa (ae aG (I 0) (af (.int 1))) ai)))))) (a0 (af (.ax false))) bS) Iz
def o3:bj:=fnOf 1 1 Iy
def I4:aL:=
  (a0 (ae ub (bh tV (aa (ae aG (I 0) (af (.int 0))) ai)) (bh tV (aa (ae aG (I 0) (af (.int 1))) ai))))
def z4:bj:=fnOf 1 1 I4
def I5:aL:=
  (a0 (bh tR (aa (bh z4 (aa (I 0) ai)) ai)))
def mE:bj:=fnOf 1 1 I5
def ID:aL:=
  (a0 (cA oA (aa (eA 1 [] (NA (I 0)) eM (ae (r6 false) (I 0) (af (.str "abcdefghijklmnopqrstuvwxyz")))) ai)))
def IC:aL:=
  bE (b7 (f_ (ef (aU (cA gV (aa (I 0) (aa (af (.ty "str")) ai))))) (ef (aU (fA oLe oLe (af (.int 1)) (cA nx (aa (I 0) ai)) (af (.int 8)))))) (a0 (af (.ax false))) bS) ID
def wH:bj:=fnOf 1 1 IC
def IE:aL:=
  (a0 (j4 (bh mD (aa (I 0) ai)) (ae oLt (cA vz (aa (I 0) ai)) (ae nU (af (.int 10)) (af (.int 60))))))
def wI:bj:=fnOf 1 1 IE
def Iw:aL:=
  (a0 (j4 (bh wI (aa (I 0) ai)) (ae ud (I 0) (af (.int 0)))))
def zZ:bj:=fnOf 1 1 Iw
def Ig:aL:=
  (a0 (CK zF (I 0)))
def Fb:bj:=fnOf 1 1 Ig
def vg:aL:=
  (a0 (bh o3 (aa (I 1) ai)))
def vf:aL:=
  bE (b7 (aU (ae oEq (I 0) (af (.str "fence")))) (a0 (bh zZ (aa (I 1) ai))) bS) vg
def ve:aL:=
  bE (b7 (aU (ae oEq (I 0) (af (.str "number")))) (a0 (bh wI (aa (I 1) ai))) bS) vf
def vd:aL:=
  bE (b7 (aU (ae oEq (I 0) (af (.str "name")))) (a0 (bh wH (aa (I 1) ai))) bS) ve
def o4:bj:=fnOf 2 2 vd
def Iv:aL:=
  (a0 (cA oA (aa (vk [] (aa (I 1) (aa (CI (I 0) (j5 (af (.int 1))) jC) ai)) eM (bh o4 (aa (I 0) (aa (I 1) ai)))) ai)))
def Iu:aL:=
  bE (b7 (f_ (aU (ae jS (I 1) (af (.aH)))) (aU (ae dX (cA gW (aa (I 0) ai)) (ae ew (cA gW (aa (I 1) ai)) (af (.int 1)))))) (a0 (af (.ax false))) bS) Iv
def It:aL:=
  bE (b8 1 (bh Fb (aa (ae aG (I 0) (af (.int 0))) ai))) Iu
def Ir:aL:=
  bE (b7 (f_ (ef (aU (cA gV (aa (I 0) (aa (af (.ty "tuple")) ai))))) (f_ (aU (ae oEq (cA gW (aa (I 0) ai)) (af (.int 0)))) (ef (aU (cA gV (aa (ae aG (I 0) (af (.int 0))) (aa (af (.ty "str")) ai))))))) (a0 (af (.ax false))) bS) It
def nO:bj:=fnOf 1 2 Ir
def S6:aL:=
  (a0 (bL (aa (bL ai) (aa (bL ai) (aa (bL (aa (af (.int 0)) (aa (af (.aH)) ai))) (aa (af (.aH)) ai))))))
def OD:bj:=fnOf 0 0 S6
def nh:aL:=
  (a0 (ae aG (I 0) (af (.int 2))))
def jR:bj:=fnOf 1 1 nh
def Cx:aL:=
  (a0 (ae aG (I 0) (af (.int 3))))
def o6:bj:=fnOf 1 1 Cx
def IG:aL:=
  (a0 (ae i1 (bh o6 (aa (I 0) ai)) (af (.aH))))
def mC:bj:=fnOf 1 1 IG
def zG:aL:=
  (b7 (aU (ae oEq (ae aG (I 2) (af (.int 0))) (I 1))) (a0 (ae aG (I 2) (af (.int 1)))) bS)
def H4:aL:=
  (a0 (af (.int 0)))
def H3:aL:=
  bE (ky 2 (lI (ae aG (I 0) (af (.int 0)))) zG) H4
def tL:bj:=fnOf 2 3 H3
def Jh:aL:=
  (a0 (bL (aa (cA p_ (aa (p0 mx (fnOf 1 1 (a0 (ae aG (I 0) (af (.int 0))))) (I 3)) ai)) (aa (ae aG (I 0) (af (.int 1))) (aa (ae aG (I 0) (af (.int 2))) (aa (ae aG (I 0) (af (.int 3))) ai))))))
def Jg:aL:=
  bE (b7 (aU (ae dX (I 2) (af (.int 0)))) (rb 3 k2 (aa (bL (aa (I 1) (aa (I 2) ai))) ai)) bS) Jh
def Cy:aL:=
  bE (nq 3 (eA 1 [1] (lI (ae aG (I 0) (af (.int 0)))) (aU (ae dX (ae aG (I 0) (af (.int 0))) (I 1))) (I 0))) Jg
def r1:bj:=fnOf 3 4 Cy
def X8(T:Txt P w K mg base):eV P w K mg base "with_cell" ["slate","name","n"] 4 (e3 K mg r1):=by
 show eV P w K mg base _ _ _ (e3 K mg (fnOf 3 4 Cy));obtain⟨c,e7,L,e⟩:=T.EU;refine y_ (k:=3) T.C2.d e T.C2.s rfl rfl λf A outer s H E a=>?_
 have b:=a.units;refine hF.un ?_;refine n5 ?_ (n5 ?_ (qP ?_))
 .exact(Bg (i:=3) (esc:=(df Gh)) (EN:=["slate","name","n","cells"]) (N:=["cell","name"]) (n:=1) (cap:=[1]) ⟨rfl,by decide +kernel,by decide +kernel,by decide +kernel,by decide +kernel,rfl,by decide +kernel⟩ T.C2.s.fC rfl rfl (by decide) (Bb (hx hk g9 (dK 0) gE)) rfl (λ_ _ _ _=>⟨anG rfl,rfl⟩) (λ_ _ _ _=>(Bc (i3 (ug b) sO (hx hk g9 (dK 0) gE) (dK 1)))) (λ_ _ _ _=>(dK 0)))
 .exact(GV (i3 (ug b) sO (dK 2) gE) (qP (xJ (i:=3) anB anC t4 wj (eN (pG (eN (dK 1) (eN (dK 2) i2))) i2) rfl (.inl rfl))) GX)
 .exact(sv (pG (eN (xI yE zB rfl T.B.tuple' vi (eN (GQ (k:=0) (N:=["cell"]) (p1:="cell") aac rfl T.B.sorted (a.mono (by omega)) L T.bm rfl rfl ⟨rfl,rfl,rfl,by decide +kernel,rfl,by decide +kernel,by decide +kernel⟩ (λ_ _ _ _=>rfl) (λ_ _ _ _ _ _=>(hx hk g9 (dK 0) gE)) (dK 3)) i2)) (eN (hx hk g9 (dK 0) gE) (eN (hx hk g9 (dK 0) gE) (eN (hx hk g9 (dK 0) gE) i2))))))
def zH:aL:=
  (b7 (aU (ae oEq (ae aG (I 2) (af (.int 0))) (I 1))) (a0 (I 2)) bS)
def Ia:aL:=
  (a0 (bL (aa (I 1) (aa (af (.int 0)) (aa (af (.aH)) ai)))))
def H_:aL:=
  bE (ky 2 (lI (ae aG (I 0) (af (.int 1)))) zH) Ia
def qr:bj:=fnOf 2 3 H_
def Jj:aL:=
  (a0 (bL (aa (ae aG (I 0) (af (.int 0))) (aa (cA p_ (aa (p0 fs (fnOf 1 1 (a0 (ae aG (I 0) (af (.int 0))))) (I 4)) ai)) (aa (ae aG (I 0) (af (.int 2))) (aa (ae aG (I 0) (af (.int 3))) ai))))))
def Ji:aL:=
  bE (rb 4 k2 (aa (bL (aa (I 1) (aa (I 2) (aa (I 3) ai)))) ai)) Jj
def Cz:aL:=
  bE (nq 4 (eA 1 [1] (lI (ae aG (I 0) (af (.int 1)))) (aU (ae dX (ae aG (I 0) (af (.int 0))) (I 1))) (I 0))) Ji
def z6:bj:=fnOf 4 5 Cz
def X9(T:Txt P w K mg base):eV P w K mg base "with_doing" ["slate","asker","number","answer"] 4 (e3 K mg z6):=by
 show eV P w K mg base _ _ _ (e3 K mg (fnOf 4 5 Cz));obtain⟨c,e7,L,e⟩:=T.EV;refine y_ (k:=3) T.C3.d e T.C3.s rfl rfl λf A outer s H E a=>?_
 have b:=a.units;refine hF.un ?_;refine n5 ?_ (n5 ?_ (qP ?_))
 .exact(Bg (i:=4) (esc:=(df Gi)) (EN:=["slate","asker","number","answer","doings"]) (N:=["doing","asker"]) (n:=1) (cap:=[1]) ⟨rfl,by decide +kernel,by decide +kernel,by decide +kernel,by decide +kernel,rfl,by decide +kernel⟩ T.C3.s.fC rfl rfl (by decide) (Bb (hx hk g9 (dK 0) gE)) rfl (λ_ _ _ _=>⟨anG rfl,rfl⟩) (λ_ _ _ _=>(Bc (i3 (ug b) sO (hx hk g9 (dK 0) gE) (dK 1)))) (λ_ _ _ _=>(dK 0)))
 .exact(xJ (i:=4) anB anC t4 wj (eN (pG (eN (dK 1) (eN (dK 2) (eN (dK 3) i2)))) i2) rfl (.inl rfl))
 .exact(sv (pG (eN (hx hk g9 (dK 0) gE) (eN (xI yE zB rfl T.B.tuple' vi (eN (GQ (k:=0) (N:=["doing"]) (p1:="doing") N9 rfl T.B.sorted (a.mono (by omega)) L T.bm rfl rfl ⟨rfl,rfl,rfl,by decide +kernel,rfl,by decide +kernel,by decide +kernel⟩ (λ_ _ _ _=>rfl) (λ_ _ _ _ _ _=>(hx hk g9 (dK 0) gE)) (dK 4)) i2)) (eN (hx hk g9 (dK 0) gE) (eN (hx hk g9 (dK 0) gE) i2))))))
def Jk:aL:=
  (a0 (bL (aa (ae aG (I 0) (af (.int 0))) (aa (ae aG (I 0) (af (.int 1))) (aa (bL (aa (I 1) (aa (I 2) ai))) (aa (ae aG (I 0) (af (.int 3))) ai))))))
def z7:bj:=fnOf 3 3 Jk
def Jn:aL:=
  (a0 (bL (aa (ae aG (I 0) (af (.int 0))) (aa (ae aG (I 0) (af (.int 1))) (aa (ae aG (I 0) (af (.int 2))) (aa (I 1) ai))))))
def tY:bj:=fnOf 2 2 Jn
def Ja:aL:=
  (a0 (bh tY (aa (I 0) (aa (af (.aH)) ai))))
def tX:bj:=fnOf 1 1 Ja
def H9:aL:=
  (a0 (bL (aa (bh r1 (aa (I 0) (aa (ae aG (I 2) (af (.int 1))) (aa (ae aG (I 2) (af (.int 2))) ai)))) (aa (bh tL (aa (I 0) (aa (ae aG (I 2) (af (.int 1))) ai))) ai))))
def wC:bj:=fnOf 3 3 H9
def H6:aL:=
  (a0 (bL (aa (bh r1 (aa (I 0) (aa (ae aG (I 2) (af (.int 1))) (aa (I 3) ai)))) (aa (I 3) ai))))
def H5:aL:=
  bE (b8 3 (ae ew (bh tL (aa (I 0) (aa (ae aG (I 2) (af (.int 1))) ai))) (ae aG (I 2) (af (.int 2))))) H6
def wz:bj:=fnOf 3 4 H5
def Cm:aL:=
  (a0 (bL (aa (bh r1 (aa (I 0) (aa (ae aG (I 2) (af (.int 1))) (aa (ae aG (I 2) (af (.int 3))) ai)))) (aa (af (.int 1)) ai))))
def Ck:aL:=
  bE (b7 (aU (ae dX (bh tL (aa (I 0) (aa (ae aG (I 2) (af (.int 1))) ai))) (ae aG (I 2) (af (.int 2))))) (a0 (bL (aa (I 0) (aa (af (.int 0)) ai)))) bS) Cm
def tP:bj:=fnOf 3 3 Ck
def IX:aL:=
  (a0 (bL (aa (bh z7 (aa (I 0) (aa (ae ew (I 1) (af (.int 1))) (aa (I 2) ai)))) (aa (bL (aa (af (.int 1)) (aa (ae ew (I 1) (af (.int 1))) (aa (I 2) ai)))) ai))))
def tU:bj:=fnOf 3 3 IX
def I':aL:=
  (a0 (bL (aa (I 0) (aa (bL (aa (af (.int 0)) (aa (ae aG (I 1) (af (.int 0))) (aa (ae aG (I 1) (af (.int 1))) ai)))) ai))))
def I_:aL:=
  bE (b8 1 (bh jR (aa (I 0) ai))) I'
def tW:bj:=fnOf 1 2 I_
def Co:aL:=
  (a0 (bh tU (aa (I 0) (aa (ae aG (I 2) (af (.int 1))) (aa (I 1) ai)))))
def Cn:aL:=
  bE (b7 (aU (ae dX (ae aG (bh jR (aa (I 0) ai)) (af (.int 0))) (ae aG (I 2) (af (.int 1))))) (a0 (bh tW (aa (I 0) ai))) bS) Co
def tQ:bj:=fnOf 3 3 Cn
def Cg:aL:=
  (a0 (bh tU (aa (I 0) (aa (ae aG (I 2) (af (.int 1))) (aa (I 1) ai)))))
def Cf:aL:=
  bE (b7 (aU (ae dX (bh jR (aa (I 0) ai)) (bL (aa (ae aG (I 2) (af (.int 1))) (aa (I 1) ai))))) (a0 (bh tW (aa (I 0) ai))) bS) Cg
def tN:bj:=fnOf 3 3 Cf
def Ce:aL:=
  (a0 (bh tU (aa (I 0) (aa (ae aG (I 2) (af (.int 1))) (aa (af (.aH)) ai)))))
def Cd:aL:=
  bE (b7 (aU (ae dX (bh jR (aa (I 0) ai)) (bL (aa (ae aG (I 2) (af (.int 1))) (aa (I 1) ai))))) (a0 (bh tW (aa (I 0) ai))) bS) Ce
def tM:bj:=fnOf 3 3 Cd
def Cj:aL:=
  (a0 (bL (aa (bh r1 (aa (I 0) (aa (ae aG (I 2) (af (.int 2))) (aa (ae aG (I 2) (af (.int 3))) ai)))) (aa (af (.int 1)) ai))))
def Ci:aL:=
  bE (b7 (aU (ae dX (bh jR (aa (I 0) ai)) (bL (aa (ae aG (I 2) (af (.int 1))) (aa (I 1) ai))))) (a0 (bL (aa (I 0) (aa (af (.int 0)) ai)))) bS) Cj
def tO:bj:=fnOf 3 3 Ci
def H8:aL:=
  (a0 (bL (aa (bh tY (aa (I 0) (aa (ae aG (I 2) (af (.int 1))) ai))) (aa (af (.int 1)) ai))))
def wB:bj:=fnOf 3 3 H8
def H7:aL:=
  (a0 (bL (aa (bh tY (aa (I 0) (aa (af (.str "over")) ai))) (aa (af (.int 1)) ai))))
def wA:bj:=fnOf 3 3 H7
abbrev h6:List (Str×bj):=[("do_put",wC),("do_add",wz),("do_swap",tP),("do_take",tQ),("do_renew",tN),("do_free",tM),("do_sure",tO),("do_move",wB),("do_end",wA)]
def nj:aL:=
  (a0 (CG 3 h6 (aa (I 0) (aa (I 1) (aa (I 2) ai)))))
def ni:aL:=
  bE (b8 3 (CJ hv (ae aG (I 2) (af (.int 0))))) nj
def e':bj:=fnOf 3 4 ni
def Cr:aL:=
  (a0 (bh z6 (aa (ae aG (I 4) (af (.int 0))) (aa (I 1) (aa (I 2) (aa (ae aG (I 4) (af (.int 1))) ai))))))
def Cq:aL:=
  bE (b8 4 (bh e' (aa (I 0) (aa (I 1) (aa (I 3) ai))))) Cr
def Cp:aL:=
  bE (b7 (f_ (aU (ae jS (I 3) (af (.aH)))) (f_ (aU (bh mC (aa (I 0) ai))) (aU (ae ud (ae aG (bh qr (aa (I 0) (aa (I 1) ai))) (af (.int 1))) (I 2))))) (a0 (I 0)) bS) Cq
def nN:bj:=fnOf 4 5 Cp
def S5:aL:=
  (a0 (bL (aa (af (.str "ask")) (aa (I 0) (aa (I 1) (aa (I 2) (aa (I 3) (aa (bL ai) ai))))))))
def OC:bj:=fnOf 4 4 S5
def Tu:aL:=
  (a0 (bL (aa (af (.str "tell")) (aa (I 0) (aa (I 1) (aa (I 2) (aa (I 3) (aa (I 4) ai))))))))
def OG:bj:=fnOf 5 5 Tu
def S4:aL:=
  (a0 (bL (aa (I 1) (aa (ae aG (I 0) (af (.int 2))) (aa (ae aG (I 0) (af (.int 1))) (aa (ae aG (I 0) (af (.int 3))) (aa (ae aG (I 0) (af (.int 4))) (aa (I 2) ai))))))))
def wy:bj:=fnOf 3 3 S4
def Ih:aL:=
  (a0 (ae (kW false) (ae aG (I 0) (af (.int 0))) (bL (aa (af (.str "ask")) (aa (af (.str "tell")) ai)))))
def o1:bj:=fnOf 1 1 Ih
def HN:bX:=
  bw (dN "Asker" "me" (I 0) (dy (I 1))) (bw (dN "Asker" "epoch" (I 0) (dy (af (.int 0)))) (bw (dN "Asker" "hall" (I 0) (dy (I 2))) (bw (dN "Asker" "opening" (I 0) (dy (bh OD ai))) (bw (dN "Asker" "over_known" (I 0) (dy (af (.ax false)))) (bw (dN "Asker" "greatest_round" (I 0) (dy (af (.int 0)))) (bw (dN "Asker" "last_stamp" (I 0) (dy (bL (aa (af (.int 0)) (aa (af (.int 0)) ai))))) (bw (dN "Asker" "wishes" (I 0) (dy (af (.int 0)))) (bw (dN "Asker" "deed" (I 0) (dy (af (.aH)))) (bw (dN "Asker" "standing" (I 0) (dy (af (.str "calm")))) (bw (dN "Asker" "last_outcome" (I 0) (dy (af (.aH)))) (bw (dN "Asker" "grants" (I 0) (lZ (dy (dW ai)))) (bw (dN "Asker" "kept_mask" (I 0) (dy (af (.int 0)))) (dN "Asker" "told_slate" (I 0) (dy (af (.aH))))))))))))))))
def tD:dV:=fnX 3 3 HN
def Sx:bX:=
  bw (dN "Asker" "greatest_round" (I 0) (dy (ae ew (bf (bU "Asker" "greatest_round") (I 0)) (af (.int 1))))) (bw (dN "Asker" "last_stamp" (I 0) (dy (bL (aa (bf (bU "Asker" "greatest_round") (I 0)) (aa (bf (bU "Asker" "me") (I 0)) ai))))) (bw (dN "Asker" "standing" (I 0) (dy (af (.str "asking")))) (bw (dN "Asker" "grants" (I 0) (lZ (dy (dW ai)))) (b5 (a0 (eA 1 [0] (nF (bh mE (aa (bf (bU "Asker" "hall") (I 0)) ai))) eM (bh OC (aa (bf (bU "Asker" "me") (I 1)) (aa (I 0) (aa (bf (bU "Asker" "epoch") (I 1)) (aa (bf (bU "Asker" "last_stamp") (I 1)) ai)))))))))))
def wk:dV:=fnX 1 1 Sx
def HO:bX:=
  bw (b5 (b7 (g6 (aU (ae i1 (I 1) (af (.aH)))) (ef (aU (bh nO (aa (I 1) ai))))) oh bS)) (bw (b5 (b7 (aU (bf (bU "Asker" "over_known") (I 0))) oh bS)) (bw (b5 (b7 (aU (ae dX (bf (bU "Asker" "standing") (I 0)) (af (.str "calm")))) oh bS)) (bw (dN "Asker" "wishes" (I 0) (dy (ae ew (bf (bU "Asker" "wishes") (I 0)) (af (.int 1))))) (bw (dN "Asker" "deed" (I 0) (dy (I 1))) (bw (dN "Asker" "last_outcome" (I 0) (dy (af (.aH)))) (jX (dS "Asker" "ask_members" wk (I 0) qR)))))))
def zT:dV:=fnX 2 2 HO
def Sy:bX:=
  bw (b5 (b7 (aU (ae oEq (bf (bU "Asker" "standing") (I 0)) (af (.str "calm")))) (a0 (dW ai)) bS)) (jX (dS "Asker" "ask_members" wk (I 0) qR))
def tE:dV:=fnX 1 1 Sy
def SE:aL:=
  bE (b7 (f_ (aU (ae dX (ae aG (I 1) (af (.int 3))) (bf (bU "Asker" "epoch") (I 0)))) (aU (ae dX (ae aG (I 1) (af (.int 4))) (bf (bU "Asker" "last_stamp") (I 0))))) (a0 (af (.ax false))) bS) (a0 (ae (kW false) (ae aG (I 1) (af (.int 1))) (bh mE (aa (bf (bU "Asker" "hall") (I 0)) ai))))
def zU:bj:=fnOf 2 2 SE
def HW:aL:=
  bE (b7 (f_ (aU (bh mC (aa (I 1) ai))) (ef (aU (bh wx (aa (gS (bf (bU "Asker" "grants") (I 0))) ai))))) (a0 (af (.ax false))) bS) (a0 (bh (ji 12) (aa (ae aG (bf (bU "Asker" "hall") (I 0)) (af (.int 1))) (aa (bh o2 (aa (gS (bf (bU "Asker" "grants") (I 0))) ai)) ai))))
def wm:bj:=fnOf 2 2 HW
def HR:bX:=
  bw (dN "Asker" "standing" (I 0) (dy (af (.str "calm")))) (dN "Asker" "last_outcome" (I 0) (dy (I 1)))
def qq:dV:=fnX 2 2 HR
def Sz:bX:=
  bw (fO (fW (g6 (aU (ae jS (bf (bU "Asker" "deed") (I 0)) (af (.aH)))) (aU (cP "Asker" "sees_at_once" wm (I 0) (aa (ae aG (I 1) (af (.int 1))) ai))))) (bw (fN (dS "Asker" "end_wish" qq (I 0) (dR (aa (bL (aa (af (.str "saw")) (aa (bL (aa (bf (bU "Asker" "epoch") (I 0)) (aa (ae aG (I 1) (af (.int 0))) (aa (ae aG (I 1) (af (.int 1))) ai)))) ai))) ai))))
  (b5 (a0 (dW ai)))) (b5 bS)) (bw (dN "Asker" "standing" (I 0) (dy (af (.str "telling")))) (bw (dN "Asker" "kept_mask" (I 0) (dy (af (.int 0)))) (bw (dN "Asker" "told_slate" (I 0) (dy (bh nN (aa (ae aG (I 1) (af (.int 1))) (aa (bf (bU "Asker" "me") (I 0)) (aa (bf (bU "Asker" "wishes") (I 0)) (aa (bf (bU "Asker" "deed") (I 0)) ai))))))) (bw (b5 (b8 2 (bL (aa (ae aG (I 1) (af (.int 0))) (aa (bf (bU "Asker" "wishes") (I 0)) (aa (bf (bU "Asker" "deed") (I 0)) (aa (bf (bU "Asker" "told_slate") (I 0)) ai))))))) (b5 (a0 (eA 1 [0,2] (nF (bh mE (aa (bf (bU "Asker" "hall") (I 0)) ai))) eM (bh OG (aa (bf (bU "Asker" "me") (I 1)) (aa (I 0) (aa (bf (bU "Asker" "epoch") (I 1)) (aa (bf (bU "Asker" "last_stamp") (I 1)) (aa (I 2) ai)))))))))))))
def tF:dV:=fnX 2 3 Sz
def SD:bX:=
  bw (b5 (b7 (aU (bh qs (aa (bh o2 (aa (gS (bf (bU "Asker" "grants") (I 0))) ai)) (aa (ae aG (I 1) (af (.int 1))) ai)))) (a0 (dW ai)) bS)) (bw (n7 k2 (bf (bU "Asker" "grants") (I 0)) (aa (bL (aa (ae aG (I 1) (af (.int 1))) (aa (ae aG (ae aG (I 1) (af (.int 5))) (af (.int 0))) (aa (ae aG (ae aG (I 1) (af (.int 5))) (af (.int 1))) ai)))) ai)) (bw (b5 (b7 (ef (aU (bh (ji 12) (aa (ae aG (bf (bU "Asker" "hall") (I 0)) (af (.int 0))) (aa (bh o2 (aa (gS (bf (bU "Asker" "grants") (I 0))) ai)) ai))))) (a0 (dW ai)) bS)) (jX (dS "Asker" "go_on" tF (I 0) (dR (aa (bh zY (aa (gS (bf (bU "Asker" "grants") (I 0))) (aa (bf (bU "Asker" "opening") (I 0)) ai))) ai))))))
def tG:dV:=fnX 2 2 SD
def HQ:bX:=
  (fO (fW (aU (ae i1 (bf (bU "Asker" "deed") (I 0)) (af (.aH))))) (bw (b5 (b8 2 (bh qr (aa (I 1) (aa (bf (bU "Asker" "me") (I 0)) ai)))))
  (fO (fW (aU (ae oEq (ae aG (I 2) (af (.int 1))) (bf (bU "Asker" "wishes") (I 0))))) (fN (dS "Asker" "end_wish" qq (I 0) (dR (aa (bL (aa (af (.str "did")) (aa (ae aG (I 2) (af (.int 2))) ai))) ai)))) (b5 bS))) (fO (fW (ef (aU (bh mC (aa (I 1) ai))))) (fN (dS "Asker" "end_wish" qq (I 0) (dR (aa (bL (aa (af (.str "saw")) (aa (bL (aa (bf (bU "Asker" "epoch") (I 0)) (aa (bf (bU "Asker" "last_stamp") (I 0)) (aa (I 1) ai)))) ai))) ai)))) (fO (fW (aU (ae oEq (bh o6 (aa (I 1) ai)) (af (.str "over"))))) (fN (dS "Asker" "end_wish" qq (I 0) (dR (aa (bL (aa (af (.str "saw")) (aa (bL (aa (bf (bU "Asker" "epoch") (I 0)) (aa (af (.aH)) (aa (I 1) ai)))) ai))) ai)))) (b5 bS))))
def HP:bX:=
  bw (b5 (b8 1 (bf (bU "Asker" "told_slate") (I 0)))) HQ
def E6:dV:=fnX 1 3 HP
def SG:bX:=
  bw (dN "Asker" "over_known" (I 0) (dy (af (.ax true)))) (fO (fW (aU (ae dX (bf (bU "Asker" "standing") (I 0)) (af (.str "calm"))))) (fN (dS "Asker" "end_wish" qq (I 0) (dR (aa (bL (aa (af (.str "over")) (aa (af (.aH)) ai))) ai)))) (b5 bS))
def E8:dV:=fnX 1 1 SG
def HT:bX:=
  bw (b5 (b7 (aU (ae oEq (bf (bU "Asker" "standing") (I 0)) (af (.str "calm")))) (a0 (dW ai)) bS)) (jX (dS "Asker" "ask_members" wk (I 0) qR))
def HS:bX:=
  bw (dN "Asker" "epoch" (I 0) (dy (ae ew (bf (bU "Asker" "epoch") (I 0)) (af (.int 1))))) (bw (dN "Asker" "hall" (I 0) (dy (I 1))) (bw (dN "Asker" "opening" (I 0) (dy (bh tX (aa (bf (bU "Asker" "told_slate") (I 0)) ai)))) HT))
def rW:dV:=fnX 2 2 HS
def HV:bX:=
  bw (fO (fW (aU (ae oEq (I 2) (af (.str "over"))))) (bw (fN (dS "Asker" "learn_over" E8 (I 0) qR))
  (b5 (a0 (dW ai)))) (b5 bS)) (jX (dS "Asker" "go_over" rW (I 0) (dR (aa (I 2) ai))))
def Cc:bX:=
  bw (b5 (b7 (aU (ae jS (I 2) (af (.aH)))) (a0 (dW ai)) bS)) HV
def HU:bX:=
  bw (b5 (b7 (ef (aU (bh (ji 12) (aa (ae aG (bf (bU "Asker" "hall") (I 0)) (af (.int 1))) (aa (bf (bU "Asker" "kept_mask") (I 0)) ai))))) (a0 (dW ai)) bS)) (bw (fN (dS "Asker" "end_where_told" E6 (I 0) qR)) (bw (b5 (b8 2 (bh o6 (aa (bf (bU "Asker" "told_slate") (I 0)) ai)))) Cc))
def Cb:bX:=
  bw (dN "Asker" "kept_mask" (I 0) (dy (ae ub (bf (bU "Asker" "kept_mask") (I 0)) (bh lK (aa (dW (aa (ae aG (I 1) (af (.int 1))) ai)) ai))))) HU
def rX:dV:=fnX 2 3 Cb
def SA:bX:=
  bw (b5 (b7 (aU (ae dX (ae aG (I 1) (af (.int 2))) (bf (bU "Asker" "me") (I 0)))) (a0 (dW ai)) bS)) (bw (fO (fW (aU (ae oEq (ae aG (I 1) (af (.int 0))) (af (.str "late"))))) (bw (dN "Asker" "greatest_round" (I 0) (dy (cA Vg (aa (bf (bU "Asker" "greatest_round") (I 0)) (aa (ae aG (ae aG (ae aG (I 1) (af (.int 5))) (af (.int 0))) (af (.int 0))) ai)))))
  (b5 (a0 (dW ai)))) (b5 bS)) (bw (b5 (b7 (ef (aU (cP "Asker" "is_for_now" zU (I 0) (aa (I 1) ai)))) (a0 (dW ai)) bS)) (bw (fO (fW (g6 (aU (ae oEq (ae aG (I 1) (af (.int 0))) (af (.str "grant")))) (aU (ae oEq (bf (bU "Asker" "standing") (I 0)) (af (.str "asking")))))) (jX (dS "Asker" "hear_grant" tG (I 0) (dR (aa (I 1) ai)))) (b5 bS)) (bw (fO (fW (g6 (aU (ae oEq (ae aG (I 1) (af (.int 0))) (af (.str "kept")))) (aU (ae oEq (bf (bU "Asker" "standing") (I 0)) (af (.str "telling")))))) (jX (dS "Asker" "hear_kept" rX (I 0) (dR (aa (I 1) ai)))) (b5 bS)) (b5 (a0 (dW ai)))))))
def kc:dV:=fnX 2 2 SA
def SI:aL:=
  (a0 (bf (bU "Asker" "last_outcome") (I 0)))
def zW:bj:=fnOf 1 1 SI
def SH:aL:=
  (a0 (bf (bU "Asker" "wishes") (I 0)))
def zV:bj:=fnOf 1 1 SH
def SK:aL:=
  (a0 (bf (bU "Asker" "standing") (I 0)))
def tH:bj:=fnOf 1 1 SK
def SJ:aL:=
  (a0 (bL (aa (bf (bU "Asker" "epoch") (I 0)) (aa (bf (bU "Asker" "hall") (I 0)) (aa (bf (bU "Asker" "opening") (I 0)) ai)))))
def E9:bj:=fnOf 1 1 SJ
def SF:aL:=
  (a0 (bf (bU "Asker" "over_known") (I 0)))
def E7:bj:=fnOf 1 1 SF
def zJ:aL:=
  (b7 (aU (ae oEq (ae aG (I 2) (af (.int 0))) (I 1))) (a0 (oi (I 2) (j5 (af (.int 1))) jC)) bS)
def Jc:aL:=
  (a0 (bL (aa (bL (aa (af (.int 0)) (aa (af (.int 0)) ai))) (aa (bL (aa (af (.int 0)) (aa (af (.int 0)) ai))) (aa (af (.aH)) ai)))))
def Jb:aL:=
  bE (ky 2 (lI (I 0)) zJ) Jc
def wL:bj:=fnOf 2 3 Jb
def Jm:aL:=
  (a0 (cA p_ (aa (p0 fs (fnOf 1 1 (a0 (ae aG (I 0) (af (.int 0))))) (I 5)) ai)))
def Jl:aL:=
  bE (rb 5 k2 (aa (bL (aa (I 1) (aa (I 2) (aa (I 3) (aa (I 4) ai))))) ai)) Jm
def CA:aL:=
  bE (nq 5 (eA 1 [1] (lI (I 0)) (aU (ae dX (ae aG (I 0) (af (.int 0))) (I 1))) (I 0))) Jl
def wM:bj:=fnOf 5 6 CA
def X'(T:Txt P w K mg base):eV P w K mg base "with_page" ["book","epoch","promised","kept","slate"] 4 (e3 K mg wM):=by
 show eV P w K mg base _ _ _ (e3 K mg (fnOf 5 6 CA));obtain⟨c,e7,L,e⟩:=T.EW;refine y_ (k:=3) T.C4.d e T.C4.s rfl rfl λf A outer s H E a=>?_
 have b:=a.units;refine hF.un ?_;refine n5 ?_ (n5 ?_ (qP ?_))
 .exact(Bg (i:=5) (esc:=(df Gj)) (EN:=["book","epoch","promised","kept","slate","pages"]) (N:=["page","epoch"]) (n:=1) (cap:=[1]) ⟨rfl,by decide +kernel,by decide +kernel,by decide +kernel,by decide +kernel,rfl,by decide +kernel⟩ T.C4.s.fC rfl rfl (by decide) (Bb (dK 0)) rfl (λ_ _ _ _=>⟨anG rfl,rfl⟩) (λ_ _ _ _=>(Bc (i3 (ug b) sO (hx hk g9 (dK 0) gE) (dK 1)))) (λ_ _ _ _=>(dK 0)))
 .exact(xJ (i:=5) anB anC t4 wj (eN (pG (eN (dK 1) (eN (dK 2) (eN (dK 3) (eN (dK 4) i2))))) i2) rfl (.inl rfl))
 .exact(sv (xI yE zB rfl T.B.tuple' vi (eN (GQ (k:=0) (N:=["page"]) (p1:="page") N9 rfl T.B.sorted (a.mono (by omega)) L T.bm rfl rfl ⟨rfl,rfl,rfl,by decide +kernel,rfl,by decide +kernel,by decide +kernel⟩ (λ_ _ _ _=>rfl) (λ_ _ _ _ _ _=>(hx hk g9 (dK 0) gE)) (dK 5)) i2)))
def Td:aL:=
  (a0 (bL (aa (I 0) (aa (bh wy (aa (I 1) (aa (af (.str "late")) (aa (bL (aa (I 2) ai)) ai)))) ai))))
def Fd:bj:=fnOf 3 3 Td
def Ik:aL:=
  bE (b7 (aU (ae (uc lexLe) (I 2) (ae aG (I 3) (af (.int 0))))) (a0 (bh Fd (aa (I 0) (aa (I 1) (aa (ae aG (I 3) (af (.int 0))) ai))))) bS) (a0 (bL (aa (bh wM (aa (I 0) (aa (ae aG (I 1) (af (.int 3))) (aa (I 2) (aa (ae aG (I 3) (af (.int 1))) (aa (ae aG (I 3) (af (.int 2))) ai)))))) (aa (bh wy (aa (I 1) (aa (af (.str "grant")) (aa (oi (I 3) (j5 (af (.int 1))) jC) ai)))) ai))))
def S8:aL:=
  bE (b8 2 (ae aG (I 1) (af (.int 4)))) (bE (b8 3 (bh wL (aa (I 0) (aa (ae aG (I 1) (af (.int 3))) ai)))) Ik)
def OE:bj:=fnOf 2 4 S8
def Il:aL:=
  bE (b7 (aU (ae (uc lexLt) (I 2) (I 3))) (a0 (bh Fd (aa (I 0) (aa (I 1) (aa (I 3) ai))))) bS) (a0 (bL (aa (bh wM (aa (I 0) (aa (ae aG (I 1) (af (.int 3))) (aa (I 2) (aa (I 2) (aa (ae aG (ae aG (I 1) (af (.int 5))) (af (.int 3))) ai)))))) (aa (bh wy (aa (I 1) (aa (af (.str "kept")) (aa (bL ai) ai)))) ai))))
def S9:aL:=
  bE (b8 2 (ae aG (I 1) (af (.int 4)))) (bE (b8 3 (ae aG (bh wL (aa (I 0) (aa (ae aG (I 1) (af (.int 3))) ai))) (af (.int 0)))) Il)
def OF:bj:=fnOf 2 4 S9
def S7:aL:=
  bE (b7 (aU (ae oEq (ae aG (I 1) (af (.int 0))) (af (.str "ask")))) (a0 (bh OE (aa (I 0) (aa (I 1) ai)))) bS) (a0 (bh OF (aa (I 0) (aa (I 1) ai))))
def mB:bj:=fnOf 2 2 S7
def HX:bX:=
  bw (b5 (b7 (ef (aU (bh o3 (aa (I 1) ai)))) oh bS)) (bw (b5 (b7 (f_ (ef (aU (bh mD (aa (I 2) ai)))) (ef (aU (fA oLe oLe (af (.int 1)) (I 2) (af (.int 6)))))) oh bS)) (bw (dN "House" "askers" (I 0) (lZ (xM 1 [1] (gY (aa (I 2) ai)) (lY "Asker" tD (dR (aa (I 0) (aa (I 1) ai))))))) (bw (dN "House" "books" (I 0) (lZ (dy (eA 1 [] (gY (aa (af (.int 6)) ai)) eM (bL ai))))) (bw (dN "House" "letters" (I 0) (lZ (dy (dW ai)))) (dN "House" "rows" (I 0) (lZ (dy (dW ai))))))))
def rY:dV:=fnX 3 3 HX
def SM:aL:=
  bE (b7 (f_ (ef (aU (bh mD (aa (I 1) ai)))) (ef (aU (fA oLe oLt (af (.int 0)) (I 1) (cA gW (aa (gS (bf (bU "House" "askers") (I 0))) ai)))))) oh bS) (a0 (ae aG (gS (bf (bU "House" "askers") (I 0))) (I 1)))
def oY:bj:=fnOf 2 2 SM
def SW:aL:=
  (a0 (cA gW (aa (gS (bf (bU "House" "letters") (I 0))) ai)))
def kT:bj:=fnOf 1 1 SW
def S3:bX:=
  bw (b5 (b8 2 (cP "House" "many" kT (I 0) ai))) (bw (n7 xF (bf (bU "House" "letters") (I 0)) (aa (I 1) ai)) (b5 (a0 (yA (aa (I 2) (aa (cP "House" "many" kT (I 0) ai) ai))))))
def tK:dV:=fnX 2 3 S3
def HY:bX:=
  bw (b5 (b8 3 (cP "House" "asker_of" oY (I 0) (aa (I 1) ai)))) (bw (n8 4 (dS "Asker" "begin" zT (I 3) (dR (aa (I 2) ai)))) (bw (n7 k2 (bf (bU "House" "rows") (I 0)) (aa (bL (aa (af (.str "begin")) (aa (I 1) (aa (cP "Asker" "number" zV (I 3) ai) (aa (I 2) (aa (cP "House" "many" kT (I 0) ai) ai)))))) ai)) (jX (dS "House" "write" tK (I 0) (dR (aa (I 4) ai))))))
def mA:dV:=fnX 3 5 HY
def SN:bX:=
  (jX (dS "House" "write" tK (I 0) (sx (dS "Asker" "bell" tE (cP "House" "asker_of" oY (I 0) (aa (I 1) ai)) qR) ai)))
def zX:dV:=fnX 2 2 SN
def SV:aL:=
  bE (b7 (f_ (ef (aU (bh mD (aa (I 1) ai)))) (ef (aU (fA oLe oLt (af (.int 0)) (I 1) (cP "House" "many" kT (I 0) ai))))) oh bS) (a0 (ae aG (gS (bf (bU "House" "letters") (I 0))) (I 1)))
def tI:bj:=fnOf 2 2 SV
def SR:bX:=
  bw (b5 (b8 2 (bh mB (aa (ae aG (gS (bf (bU "House" "books") (I 0))) (ae aG (I 1) (af (.int 2)))) (aa (I 1) ai))))) (bw (Bh (bf (bU "House" "books") (I 0)) (ae aG (I 1) (af (.int 2))) (dy (ae aG (I 2) (af (.int 0))))) (b5 (a0 (dW (aa (ae aG (I 2) (af (.int 1))) ai)))))
def wo:dV:=fnX 2 3 SR
def H0:bX:=
  bw (fO (fW (g6 (aU (ae dX (I 3) (af (.str "calm")))) (aU (ae oEq (cP "Asker" "stand" tH (I 2) ai) (af (.str "calm")))))) (n7 k2 (bf (bU "House" "rows") (I 0)) (aa (bL (aa (af (.str "end")) (aa (ae aG (I 1) (af (.int 2))) (aa (cP "Asker" "number" zV (I 2) ai) (aa (cP "Asker" "outcome" zW (I 2) ai) (aa (cP "House" "many" kT (I 0) ai) ai)))))) ai)) (b5 bS)) (b5 (a0 (I 4)))
def SQ:bX:=
  bw (b5 (b8 2 (ae aG (gS (bf (bU "House" "askers") (I 0))) (ae aG (I 1) (af (.int 2)))))) (bw (b5 (b8 3 (cP "Asker" "stand" tH (I 2) ai))) (bw (n8 4 (dS "Asker" "hear" kc (I 2) (dR (aa (I 1) ai)))) H0))
def rZ:dV:=fnX 2 5 SQ
def HZ:bX:=
  bw (fO (fW (aU (bh o1 (aa (I 2) ai)))) (jX (dS "House" "write" tK (I 0) (sx (dS "House" "bring_to_keeper" wo (I 0) (dR (aa (I 2) ai))) ai))) (b5 bS)) (jX (dS "House" "write" tK (I 0) (sx (dS "House" "bring_to_asker" rZ (I 0) (dR (aa (I 2) ai))) ai)))
def SP:bX:=
  bw (b5 (b8 2 (cP "House" "letter" tI (I 0) (aa (I 1) ai)))) HZ
def nM:dV:=fnX 2 3 SP
def S0:aL:=
  (a0 (cA oB (aa (gS (bf (bU "House" "letters") (I 0))) ai)))
def oZ:bj:=fnOf 1 1 S0
def SS:aL:=
  (a0 (cA oB (aa (gS (bf (bU "House" "rows") (I 0))) ai)))
def wq:bj:=fnOf 1 1 SS
def SO:aL:=
  (a0 (ae aG (gS (bf (bU "House" "books") (I 0))) (I 1)))
def E_:bj:=fnOf 2 2 SO
def SX:aL:=
  (a0 (cP "Asker" "outcome" zW (cP "House" "asker_of" oY (I 0) (aa (I 1) ai)) ai))
def E':bj:=fnOf 2 2 SX
def S2:aL:=
  (a0 (cP "Asker" "stand" tH (cP "House" "asker_of" oY (I 0) (aa (I 1) ai)) ai))
def wu:bj:=fnOf 2 2 S2
def SY:aL:=
  (a0 (cP "Asker" "place" E9 (cP "House" "asker_of" oY (I 0) (aa (I 1) ai)) ai))
def tJ:bj:=fnOf 2 2 SY
def SU:aL:=
  (a0 (cP "Asker" "knows_over" E7 (cP "House" "asker_of" oY (I 0) (aa (I 1) ai)) ai))
def wt:bj:=fnOf 2 2 SU
def IL:aL:=
  (a0 (af (.int 0)))
def IK:aL:=
  bE (b7 (aU (ae oLt (I 1) (cA gW (aa (I 0) ai)))) (a0 (ae aG (I 0) (I 1))) bS) IL
def nP:bj:=fnOf 2 2 IK
def EP(self:bj):aL:=
  (b7 (ef (aU (bh self (aa (ae aG (I 0) (I 2)) (aa (ae aG (I 1) (I 2)) ai))))) (a0 (af (.ax false))) bS)
def Tj(self:bj):aL:=
  (a0 (af (.ax true)))
def Ti(self:bj):aL:=
  bE (ky 2 (gY (aa (cA gW (aa (I 1) ai)) ai)) (EP self)) (Tj self)
def IJ(self:bj):aL:=
  bE (b7 (aU (ae dX (cA gW (aa (I 0) ai)) (cA gW (aa (I 1) ai)))) (a0 (af (.ax false))) bS) (Ti self)
def Th(self:bj):aL:=
  bE (b7 (g6 (aU (cA gV (aa (I 1) (aa (af (.ty "list")) ai)))) (ef (aU (cA gV (aa (I 0) (aa (af (.ty "list")) ai)))))) (a0 (af (.ax false))) bS) (IJ self)
def Cu(self:bj):aL:=
  bE (b7 (g6 (aU (cA gV (aa (I 1) (aa (af (.ty "tuple")) ai)))) (ef (aU (cA gV (aa (I 0) (aa (af (.ty "tuple")) ai)))))) (a0 (af (.ax false))) bS) (Th self)
def Tg(self:bj):aL:=
  bE (b7 (aU (cA gV (aa (I 1) (aa (af (.ty "str")) ai)))) (a0 (j4 (cA gV (aa (I 0) (aa (af (.ty "str")) ai))) (ae oEq (I 0) (I 1)))) bS) (Cu self)
def Tf(self:bj):aL:=
  bE (b7 (aU (cA gV (aa (I 1) (aa (af (.ty "int")) ai)))) (a0 (j4 (cA gV (aa (I 0) (aa (af (.ty "int")) ai))) (j4 (vl (cA gV (aa (I 0) (aa (af (.ty "bool")) ai)))) (ae oEq (I 0) (I 1))))) bS) (Tg self)
def Te(self:bj):aL:=
  bE (b7 (aU (cA gV (aa (I 1) (aa (af (.ty "bool")) ai)))) (a0 (j4 (cA gV (aa (I 0) (aa (af (.ty "bool")) ai))) (ae oEq (I 0) (I 1)))) bS) (Tf self)
def Ct(self:bj):aL:=
  bE (b7 (aU (ae jS (I 1) (af (.aH)))) (a0 (ae jS (I 0) (af (.aH)))) bS) (Te self)
def jQ:Nat->bj
 |0=>λ_=>bad
 |n+1=>fnOf 2 3 (Ct (jQ n))
def Tp:aL:=
  bE (b8 1 (ae ew (ae ew (af (.int 1)) (ae oMod (I 0) (af (.int 4)))) (ae nT (ae oMod (ae eS (I 0) (af (.int 4))) (af (.int 2))) (ae oMod (ae eS (I 0) (af (.int 8))) (af (.int 3)))))) (bE (b8 2 (cA p_ (aa (eA 1 [0] (gY (aa (I 1) ai)) eM (ae oMod (ae ew (ae eS (I 1) (af (.int 24))) (I 0)) (af (.int 6)))) ai))) (bE (b8 3 (ae ew (af (.int 1)) (ae oMod (ae eS (I 0) (af (.int 144))) (I 1)))) (a0 (bL (aa (bL (aa (I 3) (aa (I 2) ai))) (aa (bL (aa (ae ew (ae mI (ae ew (I 1) (af (.int 1))) (I 3)) (ae oMod (ae eS (I 0) (af (.int 864))) (I 3))) (aa (I 2) ai))) ai))))))
def Fg:bj:=fnOf 1 4 Tp
def IS:aL:=
  bE (b7 (aU (ae oEq (ae oMod (I 0) (af (.int 5))) (af (.int 4)))) (bE (b8 2 (bL (aa (af (.int 2)) (aa (bL (aa (bL (aa (af (.int 2)) (aa (bL (aa (ae aG (I 1) (af (.int 0))) (aa (ae aG (I 1) (af (.int 1))) (aa (ae aG (I 1) (af (.int 2))) ai)))) ai))) (aa (bL (aa (af (.int 2)) (aa (bL (aa (ae aG (I 1) (af (.int 2))) (aa (ae aG (I 1) (af (.int 3))) (aa (ae aG (I 1) (af (.int 4))) ai)))) ai))) (aa (ae aG (I 1) (af (.int 0))) ai)))) ai))))
  (bE (b7 (aU (ae oEq (ae oMod (ae eS (I 0) (af (.int 30))) (af (.int 3))) (af (.int 0)))) (b8 2 (bL (aa (af (.int 2)) (aa (bL (aa (ae aG (I 1) (af (.int 0))) (aa (ae aG (I 1) (af (.int 0))) (aa (ae aG (I 1) (af (.int 1))) ai)))) ai)))) bS)
  (a0 (bL (aa (I 2) (aa (I 2) ai)))))) bS) (bE (b8 3 (bL (aa (af (.int 1)) (aa (bL (aa (bL (aa (af (.int 2)) (aa (bL (aa (ae aG (I 1) (af (.int 0))) (aa (ae aG (I 1) (af (.int 1))) ai))) ai))) (aa (bL (aa (af (.int 2)) (aa (bL (aa (ae aG (I 1) (af (.int 2))) (aa (ae aG (I 1) (af (.int 3))) ai))) ai))) ai))) ai)))) (bE (b8 4 (bL (aa (af (.int 2)) (aa (bL (aa (bL (aa (af (.int 1)) (aa (bL (aa (ae aG (I 1) (af (.int 0))) (aa (ae aG (I 1) (af (.int 1))) ai))) ai))) (aa (bL (aa (af (.int 1)) (aa (bL (aa (ae aG (I 1) (af (.int 2))) (aa (ae aG (I 1) (af (.int 3))) ai))) ai))) ai))) ai)))) (bE (b7 (aU (ae oEq (ae oMod (ae eS (I 0) (af (.int 30))) (af (.int 2))) (af (.int 0)))) (a0 (bL (aa (I 3) (aa (I 4) ai)))) bS) (a0 (bL (aa (I 4) (aa (I 3) ai)))))))
def Tq:aL:=
  bE (b7 (aU (ae oLt (ae oMod (I 0) (af (.int 5))) (af (.int 3)))) (a0 (bh Fg (aa (ae eS (I 0) (af (.int 5))) ai))) bS) (bE (b8 1 (eA 1 [0] (gY (aa (af (.int 5)) ai)) eM (ae oMod (ae ew (ae eS (I 1) (af (.int 5))) (I 0)) (af (.int 6))))) IS)
def tS:bj:=fnOf 1 5 Tq
def Og:aL:=
  (bE (b8 2 (ae pa (I 2) (ae aG (af (.str "abcdefghijklmnopqrstuvwxyz")) (ae oMod (ae eS (I 0) (af (.int 8))) (af (.int 26))))))
  (b8 0 (ae eS (I 0) (af (.int 3)))))
def Ts:aL:=
  bE (b8 1 (ae ew (af (.int 1)) (ae oMod (I 0) (af (.int 8))))) (bE (b8 2 (af (.str ""))) (bE (vm (aU (ae oLt (cA nx (aa (I 2) ai)) (I 1))) Og) (a0 (I 2))))
def Fh:bj:=fnOf 1 3 Ts
def IU:aL:=
  (a0 (dW (aa (I 2) (aa (ae pa (ae pa (sQ (I 2) jC (j5 (I 3))) (I 4)) (sQ (I 2) (j5 (ae ew (I 3) (af (.int 1)))) jC)) (aa (I 5) ai)))))
def IT:aL:=
  bE (b7 (aU (ae oEq (cA nx (aa (I 2) ai)) (af (.int 8)))) (b8 5 (sQ (I 2) jC (j5 (af (.int 7))))) bS) IU
def Tt:aL:=
  bE (b8 1 (af (.str "abcdefghijklmnopqrstuvwxyz"))) (bE (b8 2 (bh Fh (aa (I 0) ai))) (bE (b8 3 (ae oMod (ae eS (I 0) (af (.int 5))) (cA nx (aa (I 2) ai)))) (bE (b8 4 (ae aG (I 1) (ae oMod (ae ew (ae ew (CH rx (I 1) (aa (ae aG (I 2) (I 3)) ai)) (af (.int 1))) (ae oMod (ae eS (I 0) (af (.int 7))) (af (.int 25)))) (af (.int 26))))) (bE (b8 5 (ae pa (I 2) (af (.str "x")))) IT))))
def z2:bj:=fnOf 1 6 Tt
def Cv:aL:=
  bE (b7 (aU (ae oLt (I 6) (af (.int 5)))) (a0 (bL (aa (af (.str "add")) (aa (I 3) (aa (I 4) ai))))) bS) (bE (b7 (aU (ae oLt (I 6) (af (.int 7)))) (a0 (bL (aa (af (.str "put")) (aa (I 3) (aa (I 4) ai))))) bS) (bE (b7 (aU (ae oEq (I 6) (af (.int 7)))) (a0 (bL (aa (af (.str "swap")) (aa (I 3) (aa (ae oMod (ae eS (I 1) (af (.int 96))) (af (.int 3))) (aa (I 4) ai)))))) bS) (bE (b7 (aU (ae oEq (I 6) (af (.int 8)))) (a0 (bL (aa (af (.str "take")) (aa (I 5) ai)))) bS) (bE (b7 (aU (ae oEq (I 6) (af (.int 9)))) (a0 (ae aG (dW (aa (bL (aa (af (.str "renew")) (aa (I 5) ai))) (aa (bL (aa (af (.str "free")) (aa (I 5) ai))) (aa (bL (aa (af (.str "sure")) (aa (I 5) (aa (I 3) (aa (I 4) ai))))) ai)))) (ae oMod (ae eS (I 1) (af (.int 400))) (af (.int 3))))) bS) (bE (b7 (f_ (aU (ae oEq (I 6) (af (.int 10)))) (aU (ae oEq (I 6) (af (.int 11))))) (a0 (bL (aa (af (.str "move")) (aa (bh tS (aa (ae eS (I 1) (af (.int 96))) ai)) ai)))) bS) (bE (b7 (g6 (aU (ae oEq (I 6) (af (.int 12)))) (aU (ae oEq (ae oMod (ae eS (I 1) (af (.int 96))) (af (.int 3))) (af (.int 0))))) (a0 (bL (aa (af (.str "end")) ai))) bS) (a0 (af (.aH)))))))))
def To:aL:=
  bE (b8 3 (ae aG (I 0) (ae oMod (ae eS (I 1) (af (.int 16))) (af (.int 3))))) (bE (b8 4 (ae mI (ae oMod (I 2) (ae nU (af (.int 10)) (af (.int 40)))) (ae nU (af (.int 10)) (af (.int 20))))) (bE (b7 (aU (ae oEq (ae oMod (ae eS (I 1) (af (.int 48))) (af (.int 2))) (af (.int 1)))) (b8 4 (ae oMod (ae eS (I 1) (af (.int 96))) (af (.int 3)))) bS) (bE (b8 5 (ae oMod (ae eS (I 1) (af (.int 96))) (af (.int 4)))) (bE (b8 6 (ae oMod (I 1) (af (.int 16)))) Cv))))
def z1:bj:=fnOf 3 7 To
def ER:bX:=
  (bw (b5 (b8 5 (cP "House" "letter" tI (I 0) (aa (I 4) ai))))
  (bw (b5 (b8 6 (ae aG (I 5) (af (.int 1)))))
  (bw (b5 (b7 (f_ (aU (ae oEq (ae aG (I 5) (af (.int 0))) (af (.str "ask")))) (aU (ae oEq (ae aG (I 5) (af (.int 0))) (af (.str "tell"))))) (b8 6 (ae aG (I 5) (af (.int 2)))) bS))
  (bw (fO (fW (aU (ae oEq (ae w2 (ae Ap (I 2) (I 6)) (af (.int 1))) (af (.int 1))))) (bw (fN (dS "House" "bring" nM (I 0) (dR (aa (I 4) ai))))
  (b5 (b8 3 (ae mI (I 3) (af (.int 1)))))) (b5 bS))
  (b5 (b8 4 (ae ew (I 4) (af (.int 1)))))))))
def Tn:bX:=
  bw (b5 (b8 4 (I 1))) (Bj (fW (g6 (aU (ae oLt (I 4) (cP "House" "many" kT (I 0) ai))) (aU (ae nS (I 3) (af (.int 0)))))) ER)
def Ff:dV:=fnX 4 7 Tn
def Of:bX:=
  (fO (fW (aU (ae nS (I 8) (af (.int 0))))) (fN (dS "House" "bring" nM (I 0) (dR (aa (ae oMod (ae ew (I 6) (I 9)) (I 8)) ai)))) (b5 bS))
def IQ:bX:=
  bw (b5 (b8 11 (af (.int 63)))) (bw (b5 (b7 (aU (ae oEq (ae oMod (ae eS (I 5) (af (.int 24))) (af (.int 2))) (af (.int 1)))) (b8 11 (ae oMod (ae eS (I 5) (af (.int 48))) (af (.int 64)))) bS)) (fN (n6 Ff (dR (aa (I 0) (aa (I 8) (aa (I 11) (aa (ae oMod (ae eS (I 5) (af (.int 3072))) (af (.int 27))) ai))))))))
def IP:bX:=
  bw (fO (fW (aU (ae dX (cP "House" "stand" wu (I 0) (aa (I 7) ai)) (af (.str "calm"))))) (fN (dS "House" "bell" zX (I 0) (dR (aa (I 7) ai)))) (fO (fW (ef (aU (cP "House" "knows_over" wt (I 0) (aa (I 7) ai))))) (bw (b5 (b8 10 (bh z1 (aa (I 1) (aa (I 6) (aa (I 3) ai))))))
  (bw (b5 (b7 (g6 (aU (ae i1 (I 10) (af (.aH)))) (g6 (aU (ae oEq (ae aG (I 10) (af (.int 0))) (af (.str "move")))) (aU (ae nS (ae aG (cP "House" "place" tJ (I 0) (aa (I 7) ai)) (af (.int 0))) (af (.int 6)))))) (b8 10 (af (.aH))) bS))
  (fN (dS "House" "begin" mA (I 0) (dR (aa (I 7) (aa (I 10) ai))))))) (b5 bS))) IQ
def Cw:bX:=
  bw (fO (fW (aU (ae oEq (ae oMod (I 5) (af (.int 4))) (af (.int 3))))) (bw (qQ 9 (gY (aa (ae ew (af (.int 1)) (ae oMod (ae eS (I 5) (af (.int 24))) (af (.int 3)))) ai)) Of)
  (b5 yC)) (b5 bS)) IP
def IM:bX:=
  bw (b5 (b8 5 (ae oMod (ae ew (ae nT (ae oMod (I 3) (ae nU (af (.int 10)) (af (.int 40)))) (af (.int 48271))) (ae nT (ae nT (ae ew (I 4) (af (.int 1))) (ae ew (I 4) (af (.int 7)))) (af (.int 16807)))) (af (.int 2147483647))))) (bw (b5 (b8 6 (ae oMod (ae ew (ae nT (ae oMod (I 3) (ae nU (af (.int 10)) (af (.int 40)))) (af (.int 69621))) (ae nT (ae nT (ae ew (I 4) (af (.int 3))) (ae ew (I 4) (af (.int 5)))) (af (.int 40692)))) (af (.int 2147483629))))) (bw (b5 (b8 7 (ae oMod (ae eS (I 5) (af (.int 4))) (I 2)))) (bw (b5 (b8 8 (cP "House" "many" kT (I 0) ai))) Cw)))
def o5:dV:=fnX 5 12 IM
def Tr:aL:=
  bE (b8 2 (eA 1 [0] (gY (aa (I 1) ai)) eM (cP "House" "place" tJ (I 1) (aa (I 0) ai)))) (bE (b8 3 (eA 1 [0] (gY (aa (af (.int 6)) ai)) eM (cP "House" "book" E_ (I 1) (aa (I 0) ai)))) (bE (b8 4 (ae o' (eA 1 [0] (gY (aa (I 1) ai)) eM (cP "House" "outcome" E' (I 1) (aa (I 0) ai))) (eA 1 [0] (gY (aa (I 1) ai)) eM (cP "House" "knows_over" wt (I 1) (aa (I 0) ai))))) (bE (b8 5 (eA 1 [0] (gY (aa (I 1) ai)) eM (cP "House" "stand" wu (I 1) (aa (I 0) ai)))) (a0 (dW (aa (cP "House" "record" oZ (I 0) ai) (aa (I 2) (aa (I 3) (aa (I 4) (aa (I 5) (aa (cP "House" "history" wq (I 0) ai) (aa (cP "House" "many" kT (I 0) ai) ai))))))))))))
def tT:bj:=fnOf 2 6 Tr
def Oc:bX:=
  (bw (fN (n6 o5 (dR (aa (ae aG (dW (aa (I 4) (aa (I 5) ai))) (ae oMod (I 8) (af (.int 2)))) (aa (I 3) (aa (I 1) (aa (ae aG (I 0) (I 8)) (aa (I 8) ai))))))))
  (fN (n6 o5 (dR (aa (ae aG (dW (aa (I 5) (aa (I 4) ai))) (ae oMod (I 8) (af (.int 2)))) (aa (I 3) (aa (I 1) (aa (ae aG (I 0) (I 8)) (aa (ae ew (I 8) (af (.int 1))) ai)))))))))
def Od:bX:=
  (fN (n6 o5 (dR (aa (I 9) (aa (I 3) (aa (I 1) (aa (ae aG (I 0) (I 8)) (aa (ae ew (I 8) (ae aG (dW (aa (af (.int 1)) (aa (af (.int 0)) ai))) (ae oMod (I 8) (af (.int 2))))) ai))))))))
def Oe:bX:=
  (fN (n6 o5 (dR (aa (I 10) (aa (I 3) (aa (I 1) (aa (ae aG (I 0) (I 8)) (aa (ae ew (I 8) (ae aG (dW (aa (af (.int 0)) (aa (af (.int 1)) ai))) (ae oMod (I 8) (af (.int 2))))) ai))))))))
def II:bX:=
  bw (b5 (b8 1 (ae ew (af (.int 1)) (ae oMod (bh nP (aa (I 0) (aa (af (.int 0)) ai))) (af (.int 3)))))) (bw (b5 (b8 2 (dW (aa (bh tS (aa (ae oMod (bh nP (aa (I 0) (aa (af (.int 1)) ai))) (ae nU (af (.int 10)) (af (.int 9)))) ai)) (aa (bh tS (aa (ae oMod (bh nP (aa (I 0) (aa (af (.int 2)) ai))) (ae nU (af (.int 10)) (af (.int 9)))) ai)) ai))))) (bw (b5 (b8 3 (bh z2 (aa (ae oMod (bh nP (aa (I 0) (aa (af (.int 0)) ai))) (ae nU (af (.int 10)) (af (.int 20)))) ai)))) (bw (n8 4 (lY "House" rY (dR (aa (ae aG (I 2) (af (.int 0))) (aa (I 1) ai))))) (bw (n8 5 (lY "House" rY (dR (aa (ae aG (I 2) (af (.int 1))) (aa (I 1) ai))))) (bw (n8 6 (Bi (xN (dy (cP "House" "record" oZ (I 4) ai)) (xN (dy (cP "House" "history" wq (I 4) ai)) (sx (dS "House" "begin" mA (I 4) (dR (aa (af (.int 0)) (aa (af .aH) ai)))) ai))))) (bw (b5 (b8 7 (dW (aa (cA oB (aa (ae aG (I 6) (af (.int 0))) ai)) (aa (cA oB (aa (ae aG (I 6) (af (.int 1))) ai)) (aa (cA oB (aa (ae aG (I 6) (af (.int 2))) ai)) ai)))))) (bw (fN (dS "House" "begin" mA (I 5) (dR (aa (ae mI (I 1) (af (.int 1))) (aa (bL (aa (af (.str "put")) (aa (ae aG (I 3) (af (.int 0))) (aa (af (.int 5)) ai)))) ai))))) (bw (qQ 8 (tl (aa (af (.int 3)) (aa (cA yU (aa (cA gW (aa (I 0) ai)) (aa (af (.int 15)) ai))) ai))) Oc) (bw (n8 9 (lY "House" rY (dR (aa (ae aG (I 2) (af (.int 1))) (aa (I 1) ai))))) (bw (fN (dS "House" "begin" mA (I 9) (dR (aa (ae mI (I 1) (af (.int 1))) (aa (bL (aa (af (.str "put")) (aa (ae aG (I 3) (af (.int 0))) (aa (af (.int 5)) ai)))) ai))))) (bw (qQ 8 (tl (aa (af (.int 3)) (aa (cA yU (aa (cA gW (aa (I 0) ai)) (aa (af (.int 15)) ai))) ai))) Od) (bw (n8 10 (lY "House" rY (dR (aa (ae aG (I 2) (af (.int 0))) (aa (I 1) ai))))) (bw (fN (dS "House" "begin" mA (I 10) (dR (aa (af (.int 0)) (aa (af .aH) ai))))) (bw (qQ 8 (tl (aa (af (.int 3)) (aa (cA yU (aa (cA gW (aa (I 0) ai)) (aa (af (.int 15)) ai))) ai))) Oe) (bw (b5 (b7 (ef (aU (bh (jQ 15) (aa (I 6) (aa (I 7) ai))))) (a0 (af (.ax false))) bS)) (bw (b5 (yz (cP "House" "record" oZ (I 4) ai))) (bw (b5 (yz (cP "House" "history" wq (I 4) ai))) (bw (b5 (b7 (f_ (aU (ae dX (bh tT (aa (I 4) (aa (I 1) ai))) (bh tT (aa (I 10) (aa (I 1) ai))))) (aU (ae dX (bh tT (aa (I 5) (aa (I 1) ai))) (bh tT (aa (I 9) (aa (I 1) ai)))))) (a0 (af (.ax false))) bS)) (b5 (a0 (bh (jQ 15) (aa (ae o' (oi (cP "House" "record" oZ (I 4) ai) (j5 (bf qz (af (.int 3)))) jC) (oi (cP "House" "record" oZ (I 5) ai) (j5 (bf qz (af (.int 3)))) jC)) (aa (ae o' (oi (cP "House" "record" oZ (I 10) ai) (j5 (bf qz (af (.int 3)))) jC) (oi (cP "House" "record" oZ (I 9) ai) (j5 (bf qz (af (.int 3)))) jC)) ai)))))))))))))))))))))))
def Fe:dV:=fnX 1 11 II
structure RB{P:al7}{w:World}{K:aN}{mg:bo}{base:Heap}(T:Txt P w K mg base)(j:Nat):Prop where
 XD:cU P w base T.Le j 1 mD
 Xl:cU P w base T.K0 j 1 qs
 XU:cU P w base T.Lu j 1 lK
 XE:cU P w base T.Lf j 2 tR
 XW:cU P w base T.Lv j 3 z3
 W':cU P w base T.KA j 1 wx
 Xk:cU P w base T.KZ j 2 o2
 Xv:cU P w base T.K8 j 2 wF
 Xz:cU P w base T.La j 1 z0
 Xr:cU P w base T.K4 j 2 Fc
 Xq:∀n,n+3<=j->eV P w K mg base "is_built" ["thing","deep"] (n+3) (e3 K mg (r0 n))
 X0:∀n,n+2<=j->eV P w K mg base "namings" ["rule"] (n+2) (e3 K mg (mF n))
 XB:cU P w base T.Lc j 16 wJ
 XZ:cU P w base T.Ly j 15 tV
 Xg:∀n,n+2<=j->eV P w K mg base "fills" ["rule","mask"] (n+2) (e3 K mg (ji n))
 Xw:cU P w base T.K9 j 3 wG
 XS:cU P w base T.Lr j 16 wK
 Xh:cU P w base T.KW j 1 wD
 X5:cU P w base T.LD j 17 z5
 Xu:cU P w base T.K7 j 18 o3
 XX:cU P w base T.Lw j 16 z4
 XY:cU P w base T.Lx j 17 mE
 Xx:cU P w base T.K_ j 1 wH
 Xy:cU P w base T.K' j 2 wI
 Xt:cU P w base T.K6 j 3 zZ
 Xi:cU P w base T.KX j 1 Fb
 XA:cU P w base T.Lb j 19 o4
 Xs:cU P w base T.K5 j 20 nO
 Xc:cU P w base T.KG j 1 OD
 XR:cU P w base T.Lq j 1 jR
 X6:cU P w base T.LF j 1 o6
 XC:cU P w base T.Ld j 2 mC
 Xd:cU P w base T.KH j 1 tL
 Xe:cU P w base T.KU j 1 qr
 X_:cU P w base T.LH j 1 z7
 Ya:cU P w base T.LI j 1 tY
 X2:cU P w base T.LA j 2 tX
 MW:cU P w base T.KO j 5 wC
 MS:cU P w base T.KI j 5 wz
 MZ:cU P w base T.KR j 5 tP
 XT:cU P w base T.Ls j 2 tU
 X1:cU P w base T.Lz j 2 tW
 M0:cU P w base T.KS j 3 tQ
 MX:cU P w base T.KP j 3 tN
 MU:cU P w base T.KL j 3 tM
 MY:cU P w base T.KQ j 5 tO
 MV:cU P w base T.KN j 2 wB
 MT:cU P w base T.KJ j 2 wA
 X3:cU P w base T.LB j 6 e'
 Xf:cU P w base T.KV j 7 nN
 Xb:cU P w base T.KD j 1 OC
 X7:cU P w base T.LG j 1 OG
 Xa:cU P w base T.KC j 1 wy
 Xj:cU P w base T.KY j 1 o1
 Wz:iu P w base T.J2 j 2 tD
 WA:iu P w base T.J3 j 18 wk
 WB:BH P w base T.J4 j 21 zT
 WC:iu P w base T.J5 j 19 tE
 WL:ir P w base T.Kb j 18 zU
 WS:ir P w base T.Kh j 15 wm
 WE:iu P w base T.J7 j 1 qq
 WG:iu P w base T.J8 j 18 tF
 WJ:iu P w base T.J' j 19 tG
 WD:iu P w base T.J6 j 3 E6
 WN:iu P w base T.Kd j 2 E8
 WH:iu P w base T.J9 j 19 rW
 WK:iu P w base T.Ka j 20 rX
 WI:iu P w base T.J_ j 21 kc
 WQ:ir P w base T.Kf j 1 zW
 WO:ir P w base T.Ke j 1 zV
 WT:ir P w base T.Ki j 1 tH
 WR:ir P w base T.Kg j 1 E9
 WM:ir P w base T.Kc j 1 E7
 X4:cU P w base T.LC j 1 wL
 XF:cU P w base T.Lg j 2 Fd
 Xn:cU P w base T.K2 j 5 OE
 Xo:cU P w base T.K3 j 5 OF
 Xm:cU P w base T.K1 j 6 mB
 WU:iu P w base T.Kj j 19 rY
 WV:ir P w base T.Kk j 2 oY
 W5:ir P w base T.Ku j 1 kT
 W_:iu P w base T.Kz j 2 tK
 MR:BH P w base T.Kl j 22 mA
 WW:iu P w base T.Km j 20 zX
 W4:ir P w base T.Kt j 2 tI
 W0:iu P w base T.Kq j 7 wo
 WZ:iu P w base T.Kp j 22 rZ
 WY:iu P w base T.Ko j 23 nM
 W8:ir P w base T.Kx j 1 oZ
 W2:ir P w base T.Kr j 1 wq
 WX:ir P w base T.Kn j 1 E_
 W6:ir P w base T.Kv j 3 E'
 W9:ir P w base T.Ky j 3 wu
 W7:ir P w base T.Kw j 3 tJ
 W3:ir P w base T.Ks j 3 wt
 XI:cU P w base T.Li j 1 nP
 XG:∀n,n+1<=j->eV P w K mg base "_law_alike" ["found","due"] (n+1) (e3 K mg (jQ n))
 XM:cU P w base T.Ll j 1 Fg
 XN:cU P w base T.Lm j 2 tS
 XP:cU P w base T.Lo j 1 Fh
 XQ:cU P w base T.Lp j 2 z2
 XJ:cU P w base T.Lj j 3 z1
 XH:BG P w base T.Lh j 24 Ff
 XK:BG P w base T.Lk j 25 o5
 XO:cU P w base T.Ln j 4 tT
 FK {f:Addr}{fd:amT}(F:lg K "law" "law" xp f fd):26<=j->e5 P w K mg base ey 26 f fd ["script"] (hY K mg Fe)
theorem hs(T:Txt P w K mg base):∀j,RB T j
 |0=>by constructor<;>intros<;>omega
 |j+1=>by
  have a:=hs T j;refine⟨cY T.Le rfl ?_,
   cY T.K0 rfl ?_,
   cY T.Lu rfl ?_,
   cY T.Lf rfl ?_,
   cY T.Lv rfl ?_,
   cY T.KA rfl ?_,
   cY T.KZ rfl ?_,
   cY T.K8 rfl ?_,
   cY T.La rfl ?_,
   cY T.K4 rfl ?_,
   Af (λ_=>T.CY.d.none (by rintro vs H Q E ⟨O,ds,r,g,_,_,_,h,_⟩;cases h)) λn c=>(vM (k:=n+3) T.CY.d T.CY.s rfl rfl λf e A outer s H E b=>hF.un ?_:eV P w K mg base _ _ _ (e3 K mg (fnOf 2 2 (Ip (r0 n))))).mono (by omega),
   Af (λ_=>T.C1.d.none (by rintro vs H Q E ⟨O,ds,r,g,_,_,_,h,_⟩;cases h)) λn c=>(vM (k:=n+2) T.C1.d T.C1.s rfl rfl λf e A outer s H E b=>hF.un ?_:eV P w K mg base _ _ _ (e3 K mg (fnOf 1 3 (yr (mF n))))).mono (by omega),
   cY T.Lc rfl ?_,
   cY T.Ly rfl ?_,
   Af (λ_=>T.CW.d.none (by rintro vs H Q E ⟨O,ds,r,g,_,_,_,h,_⟩;cases h)) λn c=>(vM (k:=n+2) T.CW.d T.CW.s rfl rfl λf e A outer s H E b=>hF.un ?_:eV P w K mg base _ _ _ (e3 K mg (fnOf 2 2 (yq (ji n))))).mono (by omega),
   cY T.K9 rfl ?_,
   cY T.Lr rfl ?_,
   cY T.KW rfl ?_,
   cY T.LD rfl ?_,
   cY T.K7 rfl ?_,
   cY T.Lw rfl ?_,
   cY T.Lx rfl ?_,
   cY T.K_ rfl ?_,
   cY T.K' rfl ?_,
   cY T.K6 rfl ?_,
   cY T.KX rfl ?_,
   cY T.Lb rfl ?_,
   cY T.K5 rfl ?_,
   cY T.KG rfl ?_,
   cY T.Lq rfl ?_,
   cY T.LF rfl ?_,
   cY T.Ld rfl ?_,
   cY T.KH rfl ?_,
   cY T.KU rfl ?_,
   cY T.LH rfl ?_,
   cY T.LI rfl ?_,
   cY T.LA rfl ?_,
   cY T.KO rfl ?_,
   cY T.KI rfl ?_,
   cY T.KR rfl ?_,
   cY T.Ls rfl ?_,
   cY T.Lz rfl ?_,
   cY T.KS rfl ?_,
   cY T.KP rfl ?_,
   cY T.KL rfl ?_,
   cY T.KQ rfl ?_,
   cY T.KN rfl ?_,
   cY T.KJ rfl ?_,
   cY T.LB rfl λc f e A outer s H E b=>(@n5 _ _ _ _ _ _ ((GW (i:=3) (qw (by kernel_rfl)) rfl (.inl rfl) (Q4 T.AX rfl (hx hk g9 (dK 2) gE)))) (@qP _ _ _ _ ((sv (ahu (k:=5) (pp:=["slate","asker","deed"]) (lookup_all (by simp only[ams];exact⟨(a.MW (by omega)).mono (by omega),(a.MS (by omega)).mono (by omega),(a.MZ (by omega)).mono (by omega),(a.M0 (by omega)).mono (by omega),(a.MX (by omega)).mono (by omega),(a.MU (by omega)).mono (by omega),(a.MY (by omega)).mono (by omega),(a.MV (by omega)).mono (by omega),(a.MT (by omega)).mono (by omega),λ_ h=>nomatch h⟩)) rfl (.inl rfl) (b.mono (by omega)) (eN (dK 0) (eN (dK 1) (eN (dK 2) i2)))))))),
   cY T.KV rfl ?_,
   cY T.KD rfl ?_,
   cY T.LG rfl ?_,
   cY T.KC rfl ?_,
   cY T.KY rfl ?_,
   iV T.J2 rfl ?_,
   iV T.J3 rfl ?_,
   Mv T.J4 rfl ?_,
   iV T.J5 rfl ?_,
   iU T.Kb rfl ?_,
   iU T.Kh rfl ?_,
   iV T.J7 rfl ?_,
   iV T.J8 rfl ?_,
   iV T.J' rfl ?_,
   iV T.J6 rfl ?_,
   iV T.Kd rfl ?_,
   iV T.J9 rfl ?_,
   iV T.Ka rfl ?_,
   iV T.J_ rfl ?_,
   iU T.Kf rfl ?_,
   iU T.Ke rfl ?_,
   iU T.Ki rfl ?_,
   iU T.Kg rfl ?_,
   iU T.Kc rfl ?_,
   cY T.LC rfl ?_,
   cY T.Lg rfl ?_,
   cY T.K2 rfl ?_,
   cY T.K3 rfl ?_,
   cY T.K1 rfl ?_,
   iV T.Kj rfl ?_,
   iU T.Kk rfl ?_,
   iU T.Ku rfl ?_,
   iV T.Kz rfl ?_,
   Mv T.Kl rfl ?_,
   iV T.Km rfl ?_,
   iU T.Kt rfl ?_,
   iV T.Kq rfl ?_,
   iV T.Kp rfl ?_,
   iV T.Ko rfl ?_,
   iU T.Kx rfl ?_,
   iU T.Kr rfl ?_,
   iU T.Kn rfl ?_,
   iU T.Kv rfl ?_,
   iU T.Ky rfl ?_,
   iU T.Kw rfl ?_,
   iU T.Ks rfl ?_,
   cY T.Li rfl ?_,
   Af (λ_=>T.C0.d.none (by rintro vs H Q E ⟨O,ds,r,g,_,_,_,h,_⟩;cases h)) λn c=>(vM (k:=n+1) T.C0.d T.C0.s rfl rfl λf e A outer s H E b=>hF.un ?_:eV P w K mg base _ _ _ (e3 K mg (fnOf 2 3 (Ct (jQ n))))).mono (by omega),
   cY T.Ll rfl ?_,
   cY T.Lm rfl ?_,
   cY T.Lo rfl ?_,
   cY T.Lp rfl ?_,
   cY T.Lj rfl ?_,
   My T.Lh rfl ?_,
   My T.Lk rfl ?_,
   cY T.Ln rfl ?_,
   λF c=>(Ds (k:=25) F afF rfl rfl λe A outer s H E b=>?_:e5 P w K mg base ey _ _ _ _ (hY K mg (fnX 1 11 II)))⟩
  all_goals try intro c
  all_goals try intro f e A outer s H E b
  all_goals repeat' first
   |((with_reducible show bb _ _ _);first
    |(with_reducible show bb _ _ (I _));exact dK _
    |(with_reducible show bb _ (.BoolOp _ [_] _) _);refine ahH ?_
    |(with_reducible show bb _ _ (ae aG _ _));refine hx hk g9 ?_ ?_ (λ_ _=>rfl)
    |(with_reducible show bb _ _ (bL _));refine pG ?_
    |(with_reducible show bb _ _ (bh _ ai));refine' aht ?_ ?_ rfl
    |(with_reducible show bb _ _ (bh _ _));refine' ahs ?_ ?_ rfl ?_
    |(with_reducible show bb _ _ (af (.int _)));first|exact gE|exact k5 (qA rfl T.VO) λ_ _=>rfl|exact k5 (qA rfl T.VL) λ_ _=>rfl|exact k5 (qA rfl T.VK) λ_ _=>rfl|exact k5 (qA rfl T.VM) λ_ _=>rfl|exact k5 (qA rfl T.VN) λ_ _=>rfl|exact k5 (qA rfl T.VP) λ_ _=>rfl|exact k5 (qA rfl T.VQ) λ_ _=>rfl
    |(with_reducible show bb _ _ (af .aH));exact ahF
    |(with_reducible show bb _ _ (af (.ax _)));exact ahr
    |(with_reducible show bb _ _ (af (.ty "tuple")));exact k5 (xb (v:=.ty "tuple") rfl T.B.tuple' vi rfl) λ_ _=>rfl
    |(with_reducible show bb _ _ (af (.ty "bool")));exact k5 (xb (v:=.ty "bool") rfl T.B.TO TY rfl) λ_ _=>rfl
    |(with_reducible show bb _ _ (af (.ty "str")));exact k5 (xb (v:=.ty "str") rfl T.B.af4 T6 rfl) λ_ _=>rfl
    |(with_reducible show bb _ _ (af (.ty "int")));exact k5 (xb (v:=.ty "int") rfl T.B.Zu TZ rfl) λ_ _=>rfl
    |(with_reducible show bb _ _ (af (.ty "list")));exact k5 (xb (v:=.ty "list") rfl T.B.E0 CE rfl) λ_ _=>rfl
    |(with_reducible show bb _ _ (af (.str _)));first|exact Q3|exact k5 (qA rfl T.VR) λ_ _=>rfl
    |(with_reducible show bb _ _ (ae ew _ _));refine lV ade Sj ?_ ?_
    |(with_reducible show bb _ _ (ae oMod _ _));refine lV adm Sq ?_ ?_
    |(with_reducible show bb _ _ (ae eS _ _));refine lV adi So ?_ ?_
    |(with_reducible show bb _ _ (ae o' _ _));refine lV adh Sm ?_ ?_
    |(with_reducible show bb _ _ (ae pa _ _));refine lV adf Sn ?_ ?_
    |(with_reducible show bb _ _ (ae nU _ _));refine lV adp Ss ?_ ?_
    |(with_reducible show bb _ _ (ae mI _ _));refine lV adt Sw ?_ ?_
    |(with_reducible show bb _ _ (ae nT _ _));refine lV adn Sr ?_ ?_
    |(with_reducible show bb _ _ (ae w2 _ _));refine lV adg Sk ?_ ?_
    |(with_reducible show bb _ _ (ae ub _ _));refine lV ado Sl ?_ ?_
    |(with_reducible show bb _ _ (ae Fy _ _));refine lV adq Su ?_ ?_
    |(with_reducible show bb _ _ (ae Ap _ _));refine lV ads Sv ?_ ?_
    |(with_reducible show bb _ _ (ae oEq _ _));refine pF (FL b.units) B' ?_ ?_ (iE _)
    |(with_reducible show bb _ _ (ae jS _ _));refine pF Pn HL ?_ ?_ (iE _)
    |(with_reducible show bb _ _ (ae i1 _ _));refine pF Po HM ?_ ?_ (iE _)
    |(with_reducible show bb _ _ (ae ud _ _));refine pF Pk HI ?_ ?_ (iE _)
    |(with_reducible show bb _ _ (ae oLt _ _));refine pF FN Ca ?_ ?_ (iE _)
    |(with_reducible show bb _ _ (ae (kW false) _ _));refine pF Pl (HJ false) ?_ ?_ rfl
    |(with_reducible show bb _ _ (ae (r6 false) _ _));refine pF Pm HK ?_ ?_ rfl
    |(with_reducible show bb _ _ (cA gW _));refine qO Ud ZS rfl T.B.len JB ?_
    |(with_reducible show bb _ _ (cA gV _));refine qO (Uc T.kt) ZR rfl T.B.isinstance T1 ?_
    |(with_reducible show bb _ _ (cA oA _));refine qO (Ua rfl) ZP rfl T.B.all TV ?_
    |(with_reducible show bb _ _ (cA (rv _) _));refine qO (Uh rfl) NQ rfl T.B.max T2 ?_
    |(with_reducible show bb _ _ (cA vz _));refine qO T' ZO rfl T.B.abs TU ?_
    |(with_reducible show bb _ _ (cA nx _));refine qO Ue ZT rfl T.B.len JB ?_
    |(with_reducible show bb _ _ (cA p_ _));refine xI yE zB rfl T.B.tuple' vi ?_
    |(with_reducible show bb _ _ (dW _));refine ahA ?_
    |(with_reducible show bb _ _ (j4 _ _));refine ahp ?_ ?_
    |(with_reducible show bb _ _ (vl _));refine ahG ?_
    |(with_reducible show bb _ _ (bf oBits _));refine ahq ?_
    |(with_reducible show bb _ _ (eA _ _ _ _ _));refine ahw (vp (xs:=[_]) (by kernel_rfl)) (by decide) ?_ rfl (λ_ _ _ _=>⟨anG rfl,rfl⟩) (λ_ _ _ _=>?_) (λ_ _ _ _=>?_) (he:=rfl) (hN:=rfl)
    |(with_reducible show bb _ _ (vk _ _ _ _));refine ahx (vp (xs:=[_,_]) (by kernel_rfl)) rfl T.B.zip ?_ rfl rfl (λ_ _ _ _=>⟨anG rfl,rfl⟩) (λ_ _ _ _=>⟨anG rfl,rfl⟩) (λ_ _ _ _=>?_) (λ_ _ _ _=>?_) (he:=rfl) (hN:=rfl)
    |(with_reducible show bb _ _ (oi _ _ _));refine ahI ?_ ?_ ?_
    |(with_reducible show bb _ _ (CI _ _ _));refine ahK ?_ ?_ ?_
    |(with_reducible show bb _ _ (CJ _ _));refine Q4 T.AX rfl ?_
    |(with_reducible show bb _ _ (CK _ _));refine ahM T.EB rfl ?_
    |(with_reducible show bb _ _ (ae dX _ _));refine pF (ug b.units) sO ?_ ?_ (iE _)
    |(with_reducible show bb _ _ (bf qz _));refine ahE ?_
    |(with_reducible show bb _ _ (cA (rv _) _));refine qO (Ui rfl) NQ rfl T.B.min T4 ?_
    |(with_reducible show bb _ _ (cA oB _));refine xI Ug ZU rfl T.B.E0 CE ?_
    |(with_reducible show bb _ _ (bf (bU "Asker" _) _));refine Q2 T.oj (by simp[Al]) ?_
    |(with_reducible show bb _ _ (bf (bU "House" _) _));refine Q2 T.om (by simp[Am]) ?_
    |(with_reducible show bb _ _ (gS _));refine ahz ?_
    |(with_reducible show bb _ _ (cP _ _ _ _ ai));refine' ahD ?_ ?_ ?_
    |(with_reducible show bb _ _ (cP _ _ _ _ _));refine' ahC ?_ ?_ ?_ ?_
    |(with_reducible show bb _ _ (ae oLe _ _));refine pF r8 q_ ?_ ?_ (iE _)
    |(with_reducible show bb _ _ (cA vA _));refine qO (Ub rfl) ZQ rfl T.B.any TX ?_
    |(with_reducible show bb _ _ (sQ _ _ _));refine ahJ ?_ ?_ ?_
    |(with_reducible show bb _ _ (fA oLe oLe _ _ _));refine ahv r8 q_ r8 q_ ?_ ?_ ?_
    |(with_reducible show bb _ _ (yA _));refine ahy rfl rfl T.B.E0 rfl T.B.range ?_
    |(with_reducible show bb _ _ (CH rx _ _));refine ahL PySem.F.slot_str_find PySem.F.type_str_find abk TL adx ?_ ?_)
   |((with_reducible show gv _ _ _);first
    |(with_reducible show gv _ _ (ai));exact i2
    |(with_reducible show gv _ _ (aa _ _));refine eN ?_ ?_)
   |((with_reducible show e_ _ _ _);first
    |(show e_ _ _ (a0 _));refine sv ?_
    |(show e_ _ _ (b8 _ (eA _ _ _ _ _)));refine ahY (vp (xs:=[_]) (by kernel_rfl)) (qw (by kernel_rfl)) rfl rfl (by decide) ?_ rfl (λ_ _ _ _=>⟨anG rfl,rfl⟩) (λ_ _ _ _=>?_) (λ_ _ _ _=>?_) (he:=rfl) (hN:=rfl)
    |(show e_ _ _ (b8 _ _));refine GW (qw (by kernel_rfl)) rfl (by first|exact anG rfl|exact amN rfl|exact amN (.inl rfl)|exact amN (amN rfl)) ?_
    |(show e_ _ _ (b7 _ _ _));refine GV ?_ ?_ ?_
    |(show e_ _ _ (nq _ (eA _ _ _ _ _)));refine Bg (vp (xs:=[_]) (by kernel_rfl)) (qw (by kernel_rfl)) rfl rfl (by decide) ?_ rfl (λ_ _ _ _=>⟨anG rfl,rfl⟩) (λ_ _ _ _=>?_) (λ_ _ _ _=>?_) (he:=rfl) (hN:=rfl)
    |(show e_ _ _ (nq _ _));refine ah2 (qw (by kernel_rfl)) rfl (by first|exact anG rfl|exact amN rfl|exact amN (.inl rfl)|exact amN (amN rfl)) ?_
    |(show e_ _ _ (ky _ _ _));refine ah0 apg rfl ?_ (qw (by kernel_rfl)) rfl (by first|exact anG rfl|exact amN rfl|exact amN (.inl rfl)|exact amN (amN rfl)) ?_
    |(show e_ _ _ (rb _ k2 _));refine xJ anB anC t4 wj ?_ rfl (by first|exact anG rfl|exact amN rfl|exact amN (.inl rfl)|exact amN (amN rfl))
    |(show e_ _ _ (rb _ xG _));refine xJ ap6 ap7 abj aa1 ?_ rfl (by first|exact anG rfl|exact amN rfl|exact amN (.inl rfl)|exact amN (amN rfl))
    |(show e_ _ _ (yD _));exact ah4 _
    |(show e_ _ _ (oh));exact ah1
    |(show e_ _ _ (yC));exact ah3
    |(show e_ _ _ (vm _ _));refine ah5 apg ?_ ?_
    |(show e_ _ _ (yz _));refine ahZ ?_)
   |((with_reducible show fi _ _ _);first
    |(with_reducible show fi _ _ (aU (ae oEq _ _)));refine i3 (FL b.units) B' ?_ ?_ (iE _)
    |(with_reducible show fi _ _ (aU (ae dX _ _)));refine i3 (ug b.units) sO ?_ ?_ (iE _)
    |(with_reducible show fi _ _ (aU (ae jS _ _)));refine i3 Pn HL ?_ ?_ (iE _)
    |(with_reducible show fi _ _ (aU (ae i1 _ _)));refine i3 Po HM ?_ ?_ (iE _)
    |(with_reducible show fi _ _ (aU (ae ud _ _)));refine i3 Pk HI ?_ ?_ (iE _)
    |(with_reducible show fi _ _ (aU (ae nS _ _)));refine i3 adj Sp ?_ ?_ (iE _)
    |(with_reducible show fi _ _ (aU (ae oLt _ _)));refine i3 FN Ca ?_ ?_ (iE _)
    |(with_reducible show fi _ _ (aU (ae oLe _ _)));refine i3 r8 q_ ?_ ?_ (iE _)
    |(with_reducible show fi _ _ (aU (ae (kW false) _ _)));refine i3 Pl (HJ false) ?_ ?_ rfl
    |(with_reducible show fi _ _ (aU (ae (r6 false) _ _)));refine i3 Pm HK ?_ ?_ rfl
    |(with_reducible show fi _ _ (aU (fA oLe oLe _ _ _)));refine Q_ r8 q_ r8 q_ ?_ ?_ ?_
    |(with_reducible show fi _ _ (aU (fA oLe oLt _ _ _)));refine Q_ r8 q_ FN Ca ?_ ?_ ?_
    |(with_reducible show fi _ _ (aU (ae (uc _) _ _)));first|refine i3 (adk b.units) HH ?_ ?_ (iE _)|refine i3 (adl b.units) HH ?_ ?_ (iE _)
    |(with_reducible show fi _ _ (aU _));refine ah7 ?_
    |(with_reducible show fi _ _ (ef _));refine ah6 ?_
    |refine lu.cx ?_)
   |((with_reducible show lu _ _ _);first
    |(with_reducible show lu _ _ (f_ _ _));refine aia ?_ ?_
    |(with_reducible show lu _ _ (g6 _ _));refine ah8 ?_ ?_
    |first|refine aib ?_|refine ah9 ?_)
   |((with_reducible show fz _ _ _);first
    |(with_reducible show fz _ (.Call (.Attribute _ _ _) [_] [] _) (dS _ _ _ _ (dR (aa _ (aa _ _)))));refine' aiv (a.MR (by omega)) ?_ ?_ ?_
    |(with_reducible show fz _ _ (dy _));refine aix ?_
    |(with_reducible show fz _ _ (lZ _));refine aiw ?_
    |(with_reducible show fz _ _ (dS _ _ _ _ qR));refine' aiu ?_ ?_ ?_
    |(with_reducible show fz _ _ (dS _ _ _ _ _));refine' ait ?_ ?_ ?_ ?_
    |(with_reducible show fz _ _ (n6 _ _));refine' aiq ?_ ?_ rfl ?_
    |(with_reducible show fz _ _ (lY "Asker" _ _));refine' Ri T.oj ?_ ?_ rfl ?_
    |(with_reducible show fz _ _ (lY "House" _ _));refine' Ri T.om ?_ ?_ rfl ?_
    |(with_reducible show fz _ _ (xM _ _ _ _));refine air (vp (xs:=[_]) (by kernel_rfl)) (by decide) ?_ rfl (λ_ _ _ _=>⟨anG rfl,rfl⟩) (λ_ _ _ _=>?_) (he:=rfl) (hN:=rfl)
    |(with_reducible show fz _ _ (Bi _));refine ais ?_)
   |((with_reducible show vb _ _ _);first
    |(with_reducible show vb _ _ (fW _));refine aiK ?_)
   |((with_reducible show lx _ _ _);first
    |(with_reducible show lx _ _ (dR _));refine aip ?_
    |(with_reducible show lx _ _ (xN _ _));refine ain ?_ ?_
    |(with_reducible show lx _ _ (sx _ _));refine aio ?_ ?_)
   |((with_reducible show gg _ _ _);first
    |(show gg _ _ (b5 _));refine aiE ?_
    |(show gg _ _ (n8 _ _));refine aiG (qw (by kernel_rfl)) rfl (by first|exact anG rfl|exact amN rfl|exact amN (.inl rfl)|exact amN (amN rfl)) ?_
    |(show gg _ _ (fO _ _ _));refine aiC ?_ ?_ ?_
    |(show gg _ _ (jX _));refine aiF ?_
    |(show gg _ _ (fN _));refine aiA ?_
    |(show gg _ _ (dN "Asker" _ _ _));refine Rj T.oj (by simp[Al]) ?_ ?_
    |(show gg _ _ (dN "House" _ _ _));refine Rj T.om (by simp[Am]) ?_ ?_
    |(show gg _ _ (n7 k2 _ _));refine Rk anB anC t4 wj ?_ ?_
    |(show gg _ _ (qQ _ _ _));refine aiB apg rfl ?_ (qw (by kernel_rfl)) rfl (by first|exact anG rfl|exact amN rfl|exact amN (.inl rfl)|exact amN (amN rfl)) ?_
    |(show gg _ _ (Bh _ _ _));refine aiD ?_ ?_ ?_
    |(show gg _ _ (Bj _ _));refine aiH apg ?_ ?_
    |(show gg _ _ (n7 xF _ _));refine Rk ap6 ap7 abi aa0 ?_ ?_)
   |((with_reducible show hF _ _ _);first|exact GX|refine qP ?_|refine n5 ?_ ?_)
   |((with_reducible show iz _ _ _);first|((show iz _ _ (bw _ _));refine aiI ?_ ?_)|((with_reducible show iz _ [] _);refine Rl ?_)|refine aiJ ?_|refine Rl ?_)
   |((with_reducible show q7 _ _ _);first|exact ahQ|refine Bc ?_)
   |((with_reducible show o _ _ _ _);first|exact C|refine J (by first|exact T.alA|exact T.alB|exact T.alz) rfl rfl L ?_ (eN Q3 i2) ?_)
   |((with_reducible show cB _ _);exact b.mono (by omega))
   |((with_reducible show eV _ _ _ _ _ _ _ _ _);first|exact(a.XD (by omega))|exact(a.Xl (by omega))|exact(a.XU (by omega))|exact(a.XE (by omega))|exact(a.XW (by omega))|exact Xp T|exact(a.W' (by omega))|exact(a.Xk (by omega))|exact(a.Xv (by omega))|exact(a.Xz (by omega))|exact(a.Xr (by omega))|exact a.Xq _ (by omega)|exact a.X0 _ (by omega)|exact(a.XB (by omega))|exact(a.XZ (by omega))|exact a.Xg _ (by omega)|exact(a.Xw (by omega))|exact(a.XS (by omega))|exact(a.Xh (by omega))|exact(a.X5 (by omega))|exact(a.Xu (by omega))|exact(a.XX (by omega))|exact(a.XY (by omega))|exact(a.Xx (by omega))|exact(a.Xy (by omega))|exact(a.Xt (by omega))|exact(a.Xi (by omega))|exact(a.XA (by omega))|exact(a.Xs (by omega))|exact(a.Xc (by omega))|exact(a.XR (by omega))|exact(a.X6 (by omega))|exact(a.XC (by omega))|exact(a.Xd (by omega))|exact X8 T|exact(a.Xe (by omega))|exact X9 T|exact(a.X_ (by omega))|exact(a.Ya (by omega))|exact(a.X2 (by omega))|exact(a.MW (by omega))|exact(a.MS (by omega))|exact(a.MZ (by omega))|exact(a.XT (by omega))|exact(a.X1 (by omega))|exact(a.M0 (by omega))|exact(a.MX (by omega))|exact(a.MU (by omega))|exact(a.MY (by omega))|exact(a.MV (by omega))|exact(a.MT (by omega))|exact(a.X3 (by omega))|exact(a.Xf (by omega))|exact(a.Xb (by omega))|exact(a.X7 (by omega))|exact(a.Xa (by omega))|exact(a.Xj (by omega))|exact(a.X4 (by omega))|exact X' T|exact(a.XF (by omega))|exact(a.Xn (by omega))|exact(a.Xo (by omega))|exact(a.Xm (by omega))|exact(a.XI (by omega))|exact a.XG _ (by omega)|exact(a.XM (by omega))|exact(a.XN (by omega))|exact(a.XP (by omega))|exact(a.XQ (by omega))|exact(a.XJ (by omega))|exact(a.XH (by omega))|exact(a.XK (by omega))|exact(a.XO (by omega)))
   |((with_reducible show ko _ _ _ _ _ _ _ _ _ _);first|exact(a.Wz (by omega))|exact(a.WA (by omega))|exact(a.WB (by omega)).all|exact(a.WC (by omega))|exact(a.WL (by omega))|exact(a.WS (by omega))|exact(a.WE (by omega))|exact(a.WG (by omega))|exact(a.WJ (by omega))|exact(a.WD (by omega))|exact(a.WN (by omega))|exact(a.WH (by omega))|exact(a.WK (by omega))|exact(a.WI (by omega))|exact(a.WQ (by omega))|exact(a.WO (by omega))|exact(a.WT (by omega))|exact(a.WR (by omega))|exact(a.WM (by omega))|exact(a.WU (by omega))|exact(a.WV (by omega))|exact(a.W5 (by omega))|exact(a.W_ (by omega))|exact(a.MR (by omega)).all|exact(a.WW (by omega))|exact(a.W4 (by omega))|exact(a.W0 (by omega))|exact(a.WZ (by omega))|exact(a.WY (by omega))|exact(a.W8 (by omega))|exact(a.W2 (by omega))|exact(a.WX (by omega))|exact(a.W6 (by omega))|exact(a.W9 (by omega))|exact(a.W7 (by omega))|exact(a.W3 (by omega)))
   |(first|refine ahk ?_|refine Bb ?_|refine ahl rfl T.B.range ?_|refine ahm ?_|refine ahN ?_|refine ahP ?_|refine ahO rfl T.B.range ?_|refine aiy rfl T.B.range ?_|refine aiz rfl T.B.range ?_|exact ahW|refine ahX ?_)
def FK(T:Txt P w K mg base)(F:lg K "law" "law" xp f fd):e5 P w K mg base ey 26 f fd ["script"] (hY K mg Fe):=(hs T 26).FK F (alQ _)
end
end dI
set_option maxHeartbeats 1000000
namespace aC
open PySem PySem.Spec aA
@[simp] theorem ajr{x y:R}:o' x y=match x.own,y.own with
 |some xs,some ys=>if xs.length+ys.length<=alP then pure (.fr (xs++ys))else bad|_,_=>bad:=rfl
@[simp] theorem alp{i j:Int}(a:0<j)(b:j<10 ^ 200):pP i j:=C5 a b
def HF{α:Type}{xs:List α}{i:Int}{v:α}(h:d1 xs i=some v):v∈xs:=by
 obtain⟨j,_,e,_⟩:=yo h;exact amh e
def B8{α:Type}{xs:List α}{i:Int}(a:0<=i)(b:i<xs.length):∃v,d1 xs i=some v:=by
 have hl:i.toNat<xs.length:=by omega
 refine⟨xs[i.toNat],?_⟩;have:=kx (xs:=xs) i.toNat (v:=xs[i.toNat]) (by simp[hl])
 rwa[Int.toNat_of_nonneg a]at this
end aC
namespace iN
inductive a9 where
 |kp (k:Nat)
 |ch (k:Nat) (ps:List a9)
mutual
def a9.names:a9->List Nat
 |.kp k=>[k]
 |.ch _ ps=>a9.eL ps
def a9.eL:List a9->List Nat
 |[]=>[]
 |r::rs=>r.names++a9.eL rs
end
mutual
def a9.deep:a9->Nat
 |.kp _=>0|.ch _ ps=>a9.mi ps+1
def a9.mi:List a9->Nat
 |[]=>0|r::rs=>max r.deep (a9.mi rs)
end
mutual
def a9.wf:a9->Prop
 |.kp k=>k<6|.ch k ps=>1<=k/\k<=ps.length/\ps.length<=6/\a9.n4 ps
def a9.n4:List a9->Prop
 |[]=>True|r::rs=>r.wf/\a9.n4 rs
end
mutual
def a9.fills(p:Nat->Bool):a9->Bool
 |.kp k=>p k|.ch k ps=>decide (k<=a9.cnt p ps)
def a9.cnt(p:Nat->Bool):List a9->Nat
 |[]=>0|r::rs=>(if r.fills p then 1 else 0)+a9.cnt p rs
end
theorem uQ:∀{ps:List a9},a9.n4 ps↔∀r∈ps,r.wf
 |[]=>by simp[a9.n4]| r::rs=>by simp[a9.n4,uQ]
theorem p6:∀{ps:List a9}{n:Nat},a9.mi ps<n->∀r∈ps,r.deep<n
 |r::rs,n,h,x,o=>by
  simp only[a9.mi]at h;rcases alY.mp o with rfl|o
  .omega
  .exact p6 (ps:=rs) (by omega) x o
theorem CR(p:Nat->Bool):∀ps:List a9,(ps.filter (a9.fills p)).length=a9.cnt p ps
 |[]=>rfl|r::rs=>by
  rw[ao0];simp only[a9.cnt]
  cases h:r.fills p with
  |true=>simp[CR p rs];omega|false=>simp[CR p rs]
mutual
theorem Mi{p q:Nat->Bool}(h:∀k,p k=true->q k=true):∀r:a9,r.fills p=true->r.fills q=true
 |.kp k,e=>by simp only[a9.fills]at e ⊢;exact h k e|.ch k ps,e=>by
  simp only[a9.fills,decide_eq_true_eq]at e ⊢;exact amq e (JT h ps)
theorem JT{p q:Nat->Bool}(h:∀k,p k=true->q k=true):∀ps:List a9,a9.cnt p ps<=a9.cnt q ps
 |[]=>alQ _|r::rs=>by
  simp only[a9.cnt];have a:=Mi h r;have b:=JT h rs
  cases e:r.fills p with
  |true=>rw[a e];simp;omega|false=>simp only[aoH,if_false];split<;>omega
end
mutual
theorem Mj:∀r:a9,r.wf->r.fills (λ_=>false)=false
 |.kp _,_=>by simp[a9.fills]|.ch k ps,h=>by
  simp only[a9.wf]at h;simp only[a9.fills,cnt_none ps h.2.2.2];exact decide_eq_false (by omega)
theorem cnt_none:∀ps:List a9,a9.n4 ps->a9.cnt (λ_=>false) ps=0
 |[],_=>rfl|r::rs,h=>by
  simp only[a9.n4]at h;simp only[a9.cnt,Mj r h.1,cnt_none rs h.2];rfl
end
mutual
theorem qv:∀r:a9,r.wf->∀k∈r.names,k<6
 |.kp k,h,x,o=>by simp only[a9.names,amb]at o;simp only[a9.wf]at h;omega| .ch k ps,h,x,o=>by simp only[a9.wf]at h;exact OO ps h.2.2.2 x (by simpa only[a9.names]using o)
theorem OO:∀ps:List a9,a9.n4 ps->∀k∈a9.eL ps,k<6
 |[],_,x,o=>by simp[a9.eL]at o|r::rs,h,x,o=>by
  simp only[a9.n4]at h;simp only[a9.eL,amy]at o;rcases o with o|o
  .exact qv r h.1 x o
  .exact OO rs h.2 x o
end
theorem wW:∀ps a:List a9,a9.eL (ps++a)=a9.eL ps++a9.eL a
 |[],_=>rfl|r::rs,a=>by
  show r.names++a9.eL (rs++a)=(r.names++a9.eL rs)++a9.eL a;rw[wW rs a,aol]
end iN
namespace aC
open PySem PySem.Spec aA iN
mutual
def enc:a9->D
 |.kp k=>.int (k:Nat)|.ch k ps=>.t [.int (k:Nat),.t (encL ps)]
def encL:List a9->List D
 |[]=>[]
 |r::rs=>enc r::encL rs
end
theorem L5:∀ps:List a9,encL ps=ps.map enc
 |[]=>rfl| r::rs=>by rw[alZ,<-L5 rs];rfl
def ru(k:Nat)(ps:List a9):enc (.ch k ps)=.t [.int (k:Nat),.t (ps.map enc)]:=by rw[<-L5];rfl
def sY(k:Nat):enc (.kp k)=.int (k:Nat):=rfl
@[simp] theorem alr(r:a9):b0 (enc r)=.v (enc r):=by cases r<;>rfl
def UG{α:Type}(xs:List α)(k:Nat):cutD xs (some (k:Int)) none=xs.drop k:=by
 unfold cutD;rw[c4.AK,c4.AL]
 by_cases h:k<=xs.length
 .rw[aoA h]
  exact am8 (by rw[amL];omega)
 .rw[Nat.min_eq_right (by omega),aqh (alQ _),aqh (by omega),aqq]
def UJ{α:Type}(xs:List α)(k:Nat):cutD xs none (some (k:Int))=xs.take k:=by
 unfold cutD;rw[c4.AK,c4.AL,aps,Nat.sub_zero]
 by_cases h:k<=xs.length
 .rw[aoA h]
 .rw[Nat.min_eq_right (by omega),am8 (alQ _),am8 (by omega)]
end aC
namespace fX
def cC(m k:Nat):Bool:=m / 2 ^ k % 2==1
def fq(m:Nat):List Nat:=(ame (if m==0 then 0 else m.log2+1)).filter (cC m)
def sN(b:Bool)(n:Nat):Nat:=if b then n else 0
def t2(d a b c e f:Bool):Nat:=sN d 1+sN a 2+sN b 4+sN c 8+sN e 16+sN f 32
def kU(p:Nat->Bool):Nat:=t2 (p 0) (p 1) (p 2) (p 3) (p 4) (p 5)
def abf(p:Nat->Bool)(k:Nat)(g:k<6):kU p ||| 2 ^ k=kU λj=>p j||j==k:=by
 have all:∀d a b c e f:Bool,∀k:Fin 6,t2 d a b c e f ||| 2 ^ k.val=t2 (d||0==k.val) (a||1==k.val) (b||2==k.val) (c||3==k.val) (e||4==k.val) (f||5==k.val):=by decide +kernel
 exact all (p 0) (p 1) (p 2) (p 3) (p 4) (p 5) ⟨k,g⟩
def Ac(p:Nat->Bool)(k:Nat)(h:k<6):(kU p / 2 ^ k % 2==1)=p k:=by
 have all:∀d a b c f g:Bool,∀k:Fin 6,(t2 d a b c f g / 2 ^ k.val % 2==1)=[d,a,b,c,f,g].getD k.val false:=by decide +kernel
 have e:=all (p 0) (p 1) (p 2) (p 3) (p 4) (p 5) ⟨k,h⟩;rw[show kU p=t2 (p 0) (p 1) (p 2) (p 3) (p 4) (p 5)from rfl,e];have:k=0\/k=1\/k=2\/k=3\/k=4\/k=5:=by omega
 rcases this with rfl|rfl|rfl|rfl|rfl|rfl<;>rfl
def Fo(p:Nat->Bool):kU p<64:=by
 have all:∀d a b c e f:Bool,t2 d a b c e f<64:=by decide +kernel
 exact all _ _ _ _ _ _
def bits(m:Nat):Nat:=if m==0 then 0 else m.log2+1
def maskOf(ns:List Nat):Nat:=ns.foldl (λm k=>m ||| 2 ^ k) 0
theorem OJ:∀(ns:List Nat)(p:Nat->Bool),(∀n∈ns,n<6)->ns.foldl (λm k=>m ||| 2 ^ k) (kU p)=kU λj=>p j||ns.contains j
 |[],p,_=>by simp|n::r,p,h=>by
  rw[List.foldl_cons,abf p n (h n al2),OJ r _ λx a=>h x (alW _ a)]
  congr 1
  funext j
  rw[List.contains_cons,Bool.or_assoc]
def z9(ns:List Nat)(h:∀n∈ns,n<6):maskOf ns=kU λj=>ns.contains j:=by
 have e:=OJ ns (λ_=>false) h;have z:kU (λ_=>false)=0:=rfl;rw[z]at e;show ns.foldl (λm k=>m ||| 2 ^ k) 0=_;rw[e];simp
end fX
namespace i7
open fX iN
def sub(x m:Nat):Bool:=(ame 6).all λk=>!cC x k||cC m k
def within(a:List Nat):List Nat:=a.foldl (λms k=>ms++ms.map (· + 2 ^ k)) [0]
def ahV:∀M:Fin 64,within (fq M.val)=(ame 64).filter λx=>sub x M.val:=by decide +kernel
def filling(r:a9)(M:Nat):List Nat:=(within (fq M)).filter λm=>r.fills (cC m)
def tp(a:List Nat)(m:Nat):Bool:=!((fq m).any λk=>a.contains (m-2 ^ k))
def least(r:a9):List Nat:=(filling r (maskOf r.names)).filter (tp (filling r (maskOf r.names)))
def yt(b:m<64)(a:6<=k):cC m k=false:=by
 unfold cC;have c:64<=2 ^ k:=amq (show 64<=2 ^ 6 by decide) (aph (by decide) a);rw[Nat.div_eq_of_lt (by omega)];rfl
def AR(b:x<64):sub x m=true↔∀k,cC x k=true->cC m k=true:=by
 unfold sub;rw[amv];constructor
 .intro h k a
  by_cases c:k<6
  .have:=h k (amz.mpr c)
   rw[a]at this;simpa using this
  .rw[yt b (by omega)]at a;cases a
 .intro h k _
  cases e:cC x k with
  |false=>rfl|true=>rw[h k e];rfl
def Fm(a:x<64):k∈fq x↔k<6/\cC x k=true:=by
 have all:∀x:Fin 64,fq x.val=(ame 6).filter (cC x.val):=by decide +kernel
 rw[all ⟨x,a⟩,am1,amz]
def LV(c:x<64)(d:k<6)(h:cC x k=true):x-2 ^ k<x/\∀j,cC (x-2 ^ k) j=true->cC x j=true:=by
 have all:∀x:Fin 64,∀k:Fin 6,cC x.val k.val=true->x.val-2 ^ k.val<x.val/\sub (x.val-2 ^ k.val) x.val=true:=by decide +kernel
 obtain⟨a,b⟩:=all ⟨x,c⟩ ⟨k,d⟩ h;exact⟨a,(AR (by have:x-2 ^ k<x:=a;omega)).mp b⟩
def z'{r:a9}{M x:Nat}(d:M<64):x∈filling r M↔x<64/\sub x M=true/\r.fills (cC x)=true:=by
 unfold filling;rw[ahV ⟨M,d⟩,am1,am1,amz];constructor
 .rintro⟨⟨a,b⟩,c⟩;exact⟨a,b,c⟩
 .rintro⟨a,b,c⟩;exact⟨⟨a,b⟩,c⟩
def z_(r:a9)(h:r.wf):maskOf r.names<64:=by
 rw[z9 r.names (qv r h)];exact Fo _
def aa8(r:a9)(h:r.wf)(a:k∈r.names):cC (maskOf r.names) k=true:=by
 rw[z9 r.names (qv r h)];have:=Ac (λj=>r.names.contains j) k (qv r h k a);unfold cC;rw[this];simpa using a
def zN(r:a9)(h:r.wf)(a:x∈least r):x<64/\r.fills (cC x)=true/\sub x (maskOf r.names)=true:=by
 have:=(am1.mp a).1;rw[z' (z_ r h)]at this;exact⟨this.1,this.2.2,this.2.1⟩
def aay(r:a9)(h:r.wf):∀(n x:Nat),x<=n->x<64->sub x (maskOf r.names)=true->r.fills (cC x)=true->∃y∈least r,∀j,cC y j=true->cC x j=true:=by
 intro n
 induction n with
 |zero=>
  intro x s a d b;have:x=0:=by omega
  subst this;exfalso;have e:cC 0=λ_=>false:=by funext j;unfold cC;rw[Nat.zero_div];rfl
  rw[e,Mj r h]at b;cases b
 |succ n p=>
  intro x s a d b;have i:x∈filling r (maskOf r.names):=(z' (z_ r h)).mpr ⟨a,d,b⟩
  cases hl:tp (filling r (maskOf r.names)) x with
  |true=>exact⟨x,am1.mpr ⟨i,hl⟩,λ_ c=>c⟩|false=>
   unfold tp at hl;have f:((fq x).any λk=>(filling r (maskOf r.names)).contains (x-2 ^ k))=true:=by simpa using hl
   obtain⟨k,t,B⟩:=aoY.mp f;obtain⟨D,m⟩:=(Fm a).mp t;obtain⟨E,u⟩:=LV a D m;have l:x-2 ^ k∈filling r (maskOf r.names):=by simpa using B
   obtain⟨w,z,A⟩:=(z' (z_ r h)).mp l;obtain⟨y,q,g⟩:=p (x-2 ^ k) (by omega) w z A;exact⟨y,q,λj c=>u j (g j c)⟩
mutual
theorem Mh{p q:Nat->Bool}:∀r:a9,(∀k∈r.names,p k=q k)->r.fills p=r.fills q
 |.kp k,h=>by simp only[a9.fills];exact h k (by simp[a9.names])| .ch k ps,h=>by simp only[a9.fills];rw[JR ps λk a=>h k (by simpa[a9.names]using a)]
theorem JR{p q:Nat->Bool}:∀ps:List a9,(∀k∈a9.eL ps,p k=q k)->a9.cnt p ps=a9.cnt q ps
 |[],_=>rfl|r::rs,h=>by
  simp only[a9.cnt];rw[Mh r λk a=>h k (by simp[a9.eL,a]),JR rs λk a=>h k (by simp[a9.eL,a])]
end
def ak8(r:a9)(h:r.wf)(t:m<64):r.fills (cC m)=(least r).any fun x=>sub x m:=by
 cases e:r.fills (cC m)with
 |true=>
  symm;rw[aoY];have c:∀k,k<6->(kU (λj=>cC m j&&cC (maskOf r.names) j) / 2 ^ k % 2==1)=(cC m k&&cC (maskOf r.names) k):=λk a=>Ac _ k a
  have b:kU (λj=>cC m j&&cC (maskOf r.names) j)<64:=Fo _;generalize kU (λj=>cC m j&&cC (maskOf r.names) j)=x at c b;have s:r.fills (cC x)=true:=by
   rw[<-e];refine Mh r λk a=>?_
   show cC x k=cC m k;have:=c k (qv r h k a);unfold cC at this ⊢;rw[this];have q:=aa8 r h a;unfold cC at q;rw[q,aqr]
  have hs:sub x (maskOf r.names)=true:=by
   rw[AR b];intro k a
   by_cases f:k<6
   .have:=c k f
    unfold cC at a;rw[a]at this;have:=(amc _ _▸this.symm);exact this.2
   .rw[yt b (by omega)]at a;cases a
  obtain⟨y,g,i⟩:=aay r h x x (alQ _) b hs s;refine⟨y,g,?_⟩;rw[AR (zN r h g).1];intro k a;have d:=i k a
  by_cases f:k<6
  .have:=c k f
   unfold cC at d;rw[d]at this;have:=(amc _ _▸this.symm);exact this.1
  .rw[yt b (by omega)]at d;cases d
 |false=>
  symm;rw[List.any_eq_false];intro x p hs;obtain⟨l,n,_⟩:=zN r h p;have:=Mi ((AR l).mp hs) r n;rw[e]at this;cases this
end i7
namespace aC
open PySem PySem.Spec aA fX iN i7
def ba(k:Nat):D:=.int (k:Int)
def g0(k:Nat):ba k=.int (k:Int):=rfl
def R'(x:Int):anu x 1=x % 2:=W.kbt_mask x 1
def FO(a b:Nat):aoV (a:Int) (b:Int)=((a ||| b:Nat):Int):=by
 have c:decide (0<=anb (a:Int))=false:=decide_eq_false (by unfold anb;omega);have d:decide (0<=anb (b:Int))=false:=decide_eq_false (by unfold anb;omega);have av:(anb (anb (a:Int))).toNat=a:=by unfold anb;omega
 have aE:(anb (anb (b:Int))).toNat=b:=by unfold anb;omega
 unfold aoV anu;rw[c,d];dsimp only;rw[av,aE];unfold anb;omega
def R_(a b:Nat):anu (a:Int) (b:Int)=((a&&& b:Nat):Int):=by
 have c:decide (0<=(a:Int))=true:=decide_eq_true (by omega);have d:decide (0<=(b:Int))=true:=decide_eq_true (by omega);unfold anu;rw[c,d];rfl
def Zv(m:Nat):amW (m:Int)=fX.bits m:=by
 unfold amW fX.bits;rw[Int.natAbs_natCast]
 by_cases h:m=0
 .subst h;rfl
 .have h':(m:Int)≠0:=by omega
  rw[beq_eq_false_iff_ne.mpr h,beq_eq_false_iff_ne.mpr h']
def bits_le(m:Nat)(h:m<64):fX.bits m<=6:=by
 have all:∀m:_root_.Fin 64,fX.bits m.val<=6:=by decide +kernel
 exact all ⟨m,h⟩
def ZY(m:Nat):fq m=(ame (fX.bits m)).filter (cC m):=rfl
def EG(h:m<64):(fq m).length<=6:=by
 have all:∀m:_root_.Fin 64,(fq m.val).length<=6:=by decide +kernel
 exact all ⟨m,h⟩
def Fi(a:List Nat)(k:Nat):fX.maskOf (a++[k])=fX.maskOf a ||| 2 ^ k:=by
 unfold fX.maskOf;rw[List.foldl_append];rfl
def OK(k:Nat):fX.maskOf [k]=2 ^ k:=by
 show 0 ||| 2 ^ k=2 ^ k
 exact Nat.zero_or _
def Q9(a:List Nat)(k:Nat):within (a++[k])=within a++(within a).map (· + 2 ^ k):=by
 unfold within;rw[List.foldl_append];rfl
def Q8:∀a:List Nat,(within a).length=2 ^ a.length:=by
 intro a;rcases h:a.length with _|n
 .rw[an9.mp h];rfl
 .have:∀(n:Nat)(a:List Nat),a.length=n->(within a).length=2 ^ n:=by
   intro n
   induction n with
   |zero=>intro a h;rw[an9.mp h];rfl|succ n b=>
    intro a h;rcases List.eq_nil_or_concat a with rfl|⟨l,k,rfl⟩
    .cases h
    .rw[List.concat_eq_append]at h ⊢
     rw[alN,am0]at h;rw[Q9,alN,alM,b l (by omega)];omega
  exact this _ _ h
def take_snoc{α:Type}{l:List α}{i:Nat}{x:α}(h:l[i]? = some x):l.take (i+1)=l.take i++[x]:=by
 rw[apP,h];rfl
def z8{α a:Type}{f:α->a}{l:List α}{i:Nat}{y:a}(h:(l.map f)[i]? = some y):∃x,l[i]? = some x/\y=f x:=by
 rw[al4]at h
 cases e:l[i]? with
 |none=>rw[e]at h;cases h
 |some x=>rw[e]at h;exact⟨x,rfl,(amf h).symm⟩
def TF(m k:Nat):(anu ((m:Int) / 2 ^ k) 1==1)=cC m k:=by
 rw[R'];unfold cC;have av:((m:Int) / 2 ^ k) % 2=((m / 2 ^ k % 2:Nat):Int):=by
  rw[Int.natCast_emod,Int.natCast_ediv,Int.natCast_pow];rfl
 rw[av,ano,beq_iff_eq,beq_iff_eq];omega
def Gb(n:Nat):ec 0 n=(ame n).map ba:=by
 unfold ec;refine apl λi _=>?_
 show D.int (0+(i:Int))=.int (i:Int);rw[Int.zero_add]
def NC(k:Nat)(a:List Nat):inD (ba k) (a.map ba)=a.contains k:=by
 unfold inD;rw[List.any_map,List.contains_eq_any_beq]
 congr 1
 funext j
 show eo (.int (j:Int)) (.int (k:Int))=(k==j);rw[ano,beq_iff_eq];simp[eo];omega
theorem ot{α:Type}{t:aK->M Bool}{el:bt}{U:aK}(f:α->D)(p:α->Bool)(g:α->D):∀xs:List α,(∀x∈xs,t (U.set 0 (.v (f x)))=pure (p x))->(∀x∈xs,p x=true->(el (U.set 0 (.v (f x))) >>= R.dat)=pure (g x))->
  gn t el U (xs.map f)=pure ((xs.filter p).map g)
 |[],_,_=>rfl|x::xs,o,C=>by
  have b:=ot f p g xs (λx a=>o x (alW _ a)) λx a=>C x (alW _ a)
  rw[alZ];unfold gn;rw[o x al2,pure_bind]
  cases e:p x with
  |false=>rw[if_neg alR,b,List.filter_cons_of_neg (by rw[e];exact alR)]|true=>
   have h:=C x al2 e;rw[if_pos rfl,<-bind_assoc,h,pure_bind,b,pure_bind,List.filter_cons_of_pos e];rfl
def rh{α:Type}{el:bt}{U:aK}(f:α->D)(g:α->D)(xs:List α)(h:∀x∈xs,(el (U.set 0 (.v (f x))) >>= R.dat)=pure (g x)):gn eM el U (xs.map f)=pure (xs.map g):=by
 have:=ot (t:=eM) (el:=el) (U:=U) f (λ_=>true) g xs (λ_ _=>rfl) λx a _=>h x a
 rw[this]
 congr 2
 exact List.filter_eq_self.mpr λ_ _=>rfl
theorem s8{α:Type}{b:D->aL}(f:α->D)(p:α->Bool)(v:α->R)(J:aK->Prop):∀(xs:List α)(U:aK),J U->
  (∀x U,x∈xs->J U->(p x=true->b (f x) U=pure (.cp (v x)))/\(p x=false->∃U',b (f x) U=pure (.bu U')/\J U'))->
  (∀x,xs.find? p=some x->kD b (xs.map f) U=pure (.cp (v x)))/\(xs.find? p=none->∃U',kD b (xs.map f) U=pure (.bu U')/\J U')
 |[],U,h0,_=>⟨λx h=>(nomatch h),λ_=>⟨U,rfl,h0⟩⟩
 |x::xs,U,h0,step=>by
  obtain⟨i,s2⟩:=step x U al2 h0
  cases e:p x with
  |true=>
   rw[aoi e];refine⟨λy h=>?_,λh=>(nomatch h)⟩;cases h;show(b (f x) U >>= _)=_;rw[i e];rfl
  |false=>
   obtain⟨a,av,g⟩:=s2 e;have c:=s8 f p v J xs a g λy U d=>step y U (alW _ d)
   rw[aoj (by rw[e];exact alR)];have u:kD b ((x::xs).map f) U=kD b (xs.map f) a:=by
    show(b (f x) U >>= _)=_;rw[av];rfl
   rw[u];exact c
end aC
namespace i7
open fX iN
def Sb(b:x<64)(c:y<64):(x&&& y==0)=true↔∀k,cC x k=true->cC y k=true->False:=by
 have all:∀x y:Fin 64,(x.val&&& y.val==0)=(ame 6).all λk=>!(cC x.val k&&cC y.val k):=by decide +kernel
 rw[all ⟨x,b⟩ ⟨y,c⟩,amv];constructor
 .intro h k a d
  by_cases e:k<6
  .have:=h k (amz.mpr e)
   rw[a,d]at this;cases this
  .rw[yt b (by omega)]at a;cases a
 .intro h k _
  cases av:cC x k with
  |false=>rfl|true=>
   cases aE:cC y k with
   |false=>rfl|true=>exact(h k av aE).elim
def l'(x y:Nat):Bool:=x&&& y==0
def j_(k:a9)(m:Nat):Bool:=((least k).find? (l' m)).isSome
end i7
namespace aC
open PySem PySem.Spec aA
mutual
def D.Bd:D->Bool
 |.t xs=>decide (xs.length<=1000)&&lW xs|.l xs=>decide (xs.length<=1000)&&lW xs|.ref _=>true|.fn _=>true|.ty _=>true|.aH=>true|.ax _=>true|.int _=>true|.str _=>true
def lW:List D->Bool
 |[]=>true|x::xs=>x.Bd&&lW xs
end
theorem uR:∀{xs:List D},lW xs=true↔∀x∈xs,x.Bd=true
 |[]=>by simp[lW]| x::xs=>by simp[lW,uR]
theorem kG:∀{xs:List D}{n:Nat},hg xs n=true↔∀x∈xs,x.bY n=true
 |[],_=>by simp[hg]| x::xs,n=>by simp[hg,kG]
def Ok(n:Nat)(d:D):Prop:=d.bY n=true/\d.Bd=true
def mK:Ok n .aH:=⟨rfl,rfl⟩
def ada:Ok n (.ax b):=⟨rfl,rfl⟩
def cQ{i:Int}:Ok n (.int i):=⟨rfl,rfl⟩
def f6(h:al5 x=true):Ok n (.str x):=⟨h,rfl⟩
def nV{xs:List D}(hl:xs.length<=1000)(h:∀x∈xs,Ok n x):Ok (n+1) (.t xs):=
 ⟨kG.mpr λx a=>(h x a).1,by show(decide (xs.length<=1000)&&lW xs)=true;rw[decide_eq_true hl,uR.mpr λx a=>(h x a).2];rfl⟩
def MA:∀{d:D}{n m:Nat},n<=m->d.bY n=true->d.bY m=true:=by
 intro d
 induction d using D.rec (motive_2:=λds=>∀n m,n<=m->hg ds n=true->hg ds m=true)with
 |aH=>exact λ_ h=>h
 |ax _=>exact λ_ h=>h
 |int _=>exact λ_ h=>h
 |str _=>exact λ_ h=>h
 |fn _=>exact λ_ h=>h
 |ty _=>exact λ_ h=>h
 |ref _=>exact λ_ h=>h
 |t xs b=>
  intro n m a h
  cases n with
  |zero=>cases h
  |succ n=>
   cases m with
   |zero=>omega| succ m=>exact b n m (by omega) h
 |l xs b=>
  intro n m a h
  cases n with
  |zero=>cases h
  |succ n=>
   cases m with
   |zero=>omega| succ m=>exact b n m (by omega) h
 |nil=>rfl|cons x xs e c=>
  rename_i n m a h;have h:(x.bY n&&hg xs n)=true:=h;rw[amc]at h;show(x.bY m&&hg xs m)=true;rw[e a h.1,c n m a h.2];rfl
def kh(h:Ok n d)(a:n<=m):Ok m d:=⟨MA a h.1,h.2⟩
def Pb(h:Ok n a):Ok (n+1) (.t [a]):=nV (by simp) λx b=>by rw[amb.mp b];exact h
def kg(c:Ok n a)(d:Ok n b):Ok (n+1) (.t [a,b]):=nV (by simp) (by simp only[ams];exact⟨c,d,λ_ h=>nomatch h⟩)
def mJ(d:Ok n a)(e:Ok n b)(f:Ok n c):Ok (n+1) (.t [a,b,c]):=nV (by simp) (by simp only[ams];exact⟨d,e,f,λ_ h=>nomatch h⟩)
def w5(e:Ok n a)(f:Ok n b)(g:Ok n c)(i:Ok n d):Ok (n+1) (.t [a,b,c,d]):=nV (by simp) (by simp only[ams];exact⟨e,f,g,i,λ_ h=>nomatch h⟩)
def w6(g:Ok n a)(i:Ok n b)(j:Ok n c)(k:Ok n d)(l:Ok n e)(m:Ok n f):Ok (n+1) (.t [a,b,c,d,e,f]):=nV (by simp) (by simp only[ams];exact⟨g,i,j,k,l,m,λ_ h=>nomatch h⟩)
def Pa:Ok (n+1) (.t []):=nV (by simp) λ_ h=>nomatch h
def pick(P:D->Prop)(xs:List D)(c k:Int)(d:(xs.length:Int)=k)(f:0<k)(h:∀x∈xs,P x):∃v,d1 xs (c % k)=some v/\P v:=by
 have b:=mod_lt (a:=c) f;obtain⟨v,e⟩:=B8 (xs:=xs) (i:=c % k) b.1 (by rw[d];exact b.2);exact⟨v,e,h v (HF e)⟩
@[simp] theorem ajQ:R.ka (.b4 xs)=false:=rfl
@[simp] theorem ajN:R.ka (.v (.l xs))=false:=rfl
@[simp] theorem ajK:R.ka (.v (.ax b))=false:=rfl
@[simp] theorem aj6{z:Str}:nx [.v (.str z)]=if z.length<=alP then pure (.v (.int (z.length:Nat)))else bad:=rfl
@[simp] theorem ajs{x y:Str}:pa (.v (.str x)) (.v (.str y))=if x.length+y.length<=alP then pure (.v (.str (x++y)))else bad:=rfl
def eq_str(h:al5 x=true):oEq (.v (.str x)) (.v (.str x))=pure (.v (.ax true)):=by rw[rq (x:=.v (.str x)) (y:=.v (.str x)) h h];simp[eo]
mutual
theorem PE:∀{d:D}{n:Nat},d.bY n=true->eo d d=true
 |.aH,_,_=>rfl| .ax _,_,_=>by simp[eo]| .int _,_,_=>by simp[eo]| .str _,_,_=>by simp[eo]|.t xs,n,h=>by
  cases n with
  |zero=>cases h
  |succ k=>exact FV (xs:=xs) (n:=k) h
 |.l xs,n,h=>by
  cases n with
  |zero=>cases h
  |succ k=>exact FV (xs:=xs) (n:=k) h
 |.ref _,_,h=>by cases h
 |.fn _,_,h=>by cases h
 |.ty _,_,h=>by cases h
theorem FV:∀{xs:List D}{n:Nat},hg xs n=true->mL xs xs=true
 |[],_,_=>rfl|x::xs,n,h=>by
  have h:=kG.mp h;unfold mL;rw[amc];exact⟨PE (h x al2),FV (kG.mpr λy a=>h y (alW _ a))⟩
end
structure dp where
 e:Int
 p1:Int
 cj:Int
 eF:Int
 d7:Int
 bc:D
def bF(a b:Int):D:=.t [.int a,.int b]
def dC(g:dp):D:=.t [.int g.e,bF g.p1 g.cj,bF g.eF g.d7,g.bc]
def pk(l:List dp):List D:=(jV (λa b:Int=>decide (a<b)) ((l.map dp.e).zip (l.map dC))).map (·.2)
theorem N5{mf:bj}(h:∀g:dp,mf [dC g]=pure (.v (.int g.e))):∀l:List dp,keysOf fs mf (l.map dC)=some (l.map dp.e)
 |[]=>rfl|g::l=>by
  rw[alZ];unfold keysOf;rw[N5 h l];have:tv fs mf (dC g)=some g.e:=by unfold tv;rw[h];rfl
  rw[this];rfl
theorem HA:∀{l:List Int},l.Nodup->nf (λa b:Int=>decide (a<b)) l=true
 |[],_=>rfl|a::r,h=>by
  rw[amK]at h;unfold nf;rw[HA h.2,aqr,amv];intro b c;have:a≠b:=λe=>h.1 (e▸c)
  simp only[aqd,decide_eq_true_eq];omega
def afX{mf:bj}(h:∀g:dp,mf [dC g]=pure (.v (.int g.e))){x:R}{l:List dp}(a:x.ft=some (l.map dC))(b:(l.map dp.e).Nodup)(hl:l.length<64):oC fs mf x=pure (.fr (pk l)):=by
 unfold oC;rw[a];dsimp only;rw[N5 h l];dsimp only;rw[if_pos ⟨HA b,by rw[alM];exact hl⟩];rfl
theorem Rm:∀l:List dp,(l.map dp.e).zip (l.map dC)=l.map λg=>(g.e,dC g)
 |[]=>rfl| g::l=>by rw[alZ,alZ,alZ,aoI,Rm l]
def afU{l c:List dp}(d:c.Perm l)(hs:c.Pairwise λa b=>a.e<b.e):pk l=c.map dC:=by
 have f:(l.map dp.e).Nodup:=by
  have:(c.map dp.e).Nodup:=by
   rw[aov,aom];exact hs.imp λh=>by omega
  exact(d.map dp.e).nodup_iff.mp this
 have hz:((l.map λg=>(g.e,dC g)).map (·.1)).Nodup:=by
  rw[anM];exact f
 have one:=Gq v5.toKeyOrd (l:=l.map λg=>(g.e,dC g)) (ps:=c.map λg=>(g.e,dC g)) hz (d.map _) (by
  rw[aom];exact hs.imp λh=>decide_eq_true h)
 unfold pk;rw[Rm];have:jV (λa b:Int=>decide (a<b)) (l.map λg=>(g.e,dC g))=c.map λg=>(g.e,dC g):=one.symm
 rw[this,anM];rfl
def putL(bk:List dp)(g:dp):List dp:=bk.filter (λh=>!(h.e==g.e))++[g]
def PS{bk:List dp}(h:(bk.map dp.e).Nodup):((putL bk g).map dp.e).Nodup:=by
 unfold putL;rw[ane,aoM];refine⟨h.sublist (apm.map _),by simp,λa f b c=>?_⟩;obtain⟨x,d,rfl⟩:=amd.mp f;have i:b=g.e:=by simpa using c
 subst i;have:=(am1.mp d).2;simpa using this
def PR(bk:List dp)(g:dp):(putL bk g).length<=bk.length+1:=by
 unfold putL;rw[alN,am0];have:=anw (λh:dp=>!(h.e==g.e)) bk;omega
def aeX{bk:List dp}(h:x∈putL bk g):x∈bk\/x=g:=by
 unfold putL at h;rcases amy.mp h with h|h
 .exact .inl (am1.mp h).1
 .exact .inr (amb.mp h)
def l8(bk:List dp):Prop:=bk.Pairwise λa b=>a.e<b.e
def l8.nodup{bk:List dp}(h:l8 bk):(bk.map dp.e).Nodup:=by
 rw[aov,aom];exact aqC (λh=>by omega) h
def find_eq{bk:List dp}{e:Int}{g:dp}(h:bk.find? (λx=>x.e==e)=some g):g.e=e/\g∈bk:=⟨by have:=aoz h;simpa using this,anx h⟩
def blank(e:Int):dp:=⟨e,0,0,0,0,.aH⟩
def fb(bk:List dp)(e:Int):dp:=(bk.find? (λx=>x.e==e)).getD (blank e)
def Pt(bk:List dp)(e:Int):(fb bk e).e=e:=by
 unfold fb
 cases h:bk.find? (λx=>x.e==e)with
 |none=>rfl|some g=>exact(find_eq h).1
@[simp] theorem aju{g:List Int->List Int->Bool}{a b c d:Int}:uc g (.v (bF a b)) (.v (bF c d))=pure (.v (.ax (g [a,b] [c,d]))):=rfl
def aeY{bk:List dp}(n:l8 bk)(g:dp):∃d,l8 d/\pk (putL bk g)=d.map dC/\(∀x,x∈d↔x∈putL bk g)/\d.length<=bk.length+1:=by
 have f:=List.mergeSort_perm (putL bk g) (λa b=>decide (a.e<=b.e));have hs:=List.pairwise_mergeSort (le:=λa b:dp=>decide (a.e<=b.e)) (λa b c k m=>by
  have:=of_decide_eq_true k;have:=of_decide_eq_true m;exact decide_eq_true (by omega)) (λa b=>by simp only[aqd,decide_eq_true_eq];omega) (putL bk g)
 generalize(putL bk g).mergeSort (λa b=>decide (a.e<=b.e))=d at f hs;have i:(d.map dp.e).Nodup:=(f.map dp.e).nodup_iff.mpr (PS n.nodup);have rise:l8 d:=by
  unfold l8;clear f
  induction d with
  |nil=>exact .nil|cons x l p=>
   rw[alZ,amK]at i;rw[anv]at hs ⊢;refine⟨λy j=>?_,p hs.2 i.2⟩;have k:=of_decide_eq_true (hs.1 y j);have m:x.e≠y.e:=λh=>i.1 (by rw[h];exact an7 j)
   omega
 exact⟨d,rise,afU f rise,λx=>f.mem_iff,by rw[f.length_eq];exact PR bk g⟩
end aC
namespace aC
open PySem PySem.Spec aA PyProof.Rows
section
variable{Q:anq}[DecidableEq Q.α]
def lq(Q:anq)(l:List (Q.α×D)):Prop:=l.Pairwise λa b=>Q.blt a.1 b.1=true
def lq.nodup{l:List (Q.α×D)}(h:lq Q l):(l.map (·.1)).Nodup:=by
 rw[aov,aom];refine aqC (λ{a b} h e=>?_) h;rw[e,Q.irrefl]at h;cases h
def jD(l:List (Q.α×D))(a:Q.α):List (Q.α×D):=l.filter λq=>!decide (q.1=a)
def mN(l:List (Q.α×D))(p:Q.α×D):List (Q.α×D):=jD l p.1++[p]
def kj(l:List (Q.α×D))(p:Q.α×D):List (Q.α×D):=jV Q.blt (mN l p)
def fm(l:List (Q.α×D))(a:Q.α):Option D:=(l.find? λq=>decide (q.1=a)).map (·.2)
def LS{l:List (Q.α×D)}(a:Q.α)(h:(l.map (·.1)).Nodup):((jD l a).map (·.1)).Nodup:=h.sublist (apm.map _)
def vt{l:List (Q.α×D)}{a:Q.α}{x:Q.α×D}:x∈jD l a↔x∈l/\x.1≠a:=by
 unfold jD;rw[am1];simp
def C8(l:List (Q.α×D))(a:Q.α):(jD l a).length<=l.length:=anw _ _
def F1{l:List (Q.α×D)}(p:Q.α×D)(h:(l.map (·.1)).Nodup):((mN l p).map (·.1)).Nodup:=by
 unfold mN;rw[ane,aoM];refine⟨LS _ h,by simp,λa e b c=>?_⟩;obtain⟨x,d,rfl⟩:=amd.mp e;rw[show b=p.1 by simpa using c];exact(vt.mp d).2
def F0{l:List (Q.α×D)}{p x:Q.α×D}:x∈mN l p↔(x∈l/\x.1≠p.1)\/x=p:=by
 unfold mN;rw[amy,vt,amb]
def PT(l:List (Q.α×D))(p:Q.α×D):(mN l p).length<=l.length+1:=by
 unfold mN;rw[alN,am0];have:=C8 l p.1;omega
def F2{l:List (Q.α×D)}(p:Q.α×D)(h:(l.map (·.1)).Nodup):lq Q (kj l p):=Gp Q _ (F1 p h)
def uo{l:List (Q.α×D)}{p x:Q.α×D}:x∈kj l p↔(x∈l/\x.1≠p.1)\/x=p:=by
 unfold kj;rw[(AO _ _).mem_iff,F0]
def Vm{l:List (Q.α×D)}(b:(l.map (·.1)).Nodup)(a:x∈l):l.find? (λq=>decide (q.1=x.1))=some x:=by
 induction l with
 |nil=>cases a
 |cons y l c=>
  rw[alZ,amK]at b;rcases alY.mp a with rfl|a
  .rw[aoi (by simp)]
  .have d:¬y.1=x.1:=λh=>b.1 (by rw[h];exact an7 a)
   rw[aoj (by simpa using d)];exact c b.2 a
def VV{l:List (Q.α×D)}(b:(l.map (·.1)).Nodup)(a:x∈l):fm l x.1=some x.2:=by
 unfold fm;rw[Vm b a];rfl
def vC{l:List (Q.α×D)}{a:Q.α}{d:D}(h:fm l a=some d):(a,d)∈l:=by
 unfold fm at h;obtain⟨x,b,rfl⟩:=aoP.mp h;have c:=anx b;have e:x.1=a:=by have:=aoz b;simpa using this
 rw[<-e];exact c
def MB{l:List (Q.α×D)}(b:(l.map (·.1)).Nodup):fm l a=some d↔(a,d)∈l:=⟨vC,λh=>VV b h⟩
def VU{l b:List (Q.α×D)}(c:(b.map (·.1)).Nodup)(h:∀d,(a,d)∈b↔o=some d):fm b a=o:=by
 cases o with
 |some d=>exact(MB c).mpr ((h d).mpr rfl)|none=>
  cases e:fm b a with
  |none=>rfl|some d=>exact((h d).mp (vC e)).symm
def VW{l:List (Q.α×D)}(p:Q.α×D)(b:(l.map (·.1)).Nodup)(a:Q.α):fm (kj l p) a=if a=p.1 then some p.2 else fm l a:=
 VU (l:=l) (F2 p b).nodup fun d=>by
  rw[uo]
  by_cases e:a=p.1
  .rw[if_pos e]
   constructor
   .rintro(⟨_,h⟩|h)
    .exact absurd e h
    .rw[<-h]
   .intro h
    refine .inr ?_;cases p;cases h;rw[e]
  .rw[if_neg e,MB b]
   constructor
   .rintro(⟨h,_⟩|h)
    .exact h
    .rw[<-h]at e;exact absurd rfl e
   .exact λh=>.inl ⟨h,e⟩
def LU(b:Q.α)(h:lq Q l):lq Q (jD l b):=List.Pairwise.sublist apm h
def afT(h:lq Q l):jV Q.blt l=l:=(Gq Q h.nodup (.refl _) h).symm
def Sd(h:l.Nodup):nf Q.blt l=true:=by
 induction l with
 |nil=>rfl|cons a r c=>
  rw[amK]at h;unfold nf;rw[c h.2,aqr,amv];intro b d
  cases av:Q.blt a b with
  |true=>rfl|false=>
   cases aE:Q.blt b a with
   |true=>rfl|false=>exact absurd (Q.total a b av aE▸d) h.1
end
section
variable{Z:iK}[DecidableEq Z.κ.α]
theorem N6(b:∀a,Z.un (Z.eK a)=some a){mf:bj}:∀{l:List (Z.κ.α×D)},(∀x∈l,mf [x.2]=pure (.v (Z.eK x.1)))->keysOf Z mf (l.map (·.2))=some (l.map (·.1))
 |[],_=>rfl|x::l,h=>by
  have e:tv Z mf x.2=some x.1:=by
   unfold tv;rw[h x al2];exact b x.1
  rw[alZ,alZ];unfold keysOf;rw[e,N6 b λy c=>h y (alW _ c)]
theorem zip_rows{α a:Type}:∀l:List (α×a),(l.map (·.1)).zip (l.map (·.2))=l
 |[]=>rfl| x::l=>by rw[alZ,alZ,aoI,zip_rows l]
def Gr(d:∀a,Z.un (Z.eK a)=some a){mf:bj}{l:List (Z.κ.α×D)}(h:∀x∈l,mf [x.2]=pure (.v (Z.eK x.1))){r:R}(b:r.ft=some (l.map (·.2)))(c:(l.map (·.1)).Nodup)(hl:l.length<64) :
  oC Z mf r=pure (.fr ((jV Z.κ.blt l).map (·.2))):=by
 unfold oC;rw[b];dsimp only;rw[N6 d h];dsimp only;rw[if_pos ⟨Sd (Q:=Z.κ.toKeyOrd) c,by rw[alM];exact hl⟩,zip_rows]
end
end aC
namespace aC
open PySem PySem.Spec aA
abbrev e8:=mx.κ.toKeyOrd
def a7(a:List Nat):Str:=⟨a.toArray⟩
abbrev cd(s:Str):List Nat:=s.cps.toList
def JJ(a:List Nat):cd (a7 a)=a:=rfl
def QU(a:List Nat):mx.un (mx.eK a)=some a:=rfl
def ZX(a:List Nat):mx.eK a=.str (a7 a):=rfl
def QR:a7 a=a7 b↔a=b:=⟨λh=>by rw[<-JJ a,h,JJ],λh=>by rw[h]⟩
def U9(d:al5 (a7 a)=true)(c:al5 (a7 b)=true):oEq (.v (.str (a7 a))) (.v (.str (a7 b)))=pure (.v (.ax (decide (a=b)))):=by
 rw[rq (x:=.v (.str (a7 a))) (y:=.v (.str (a7 b))) d c];show pure (R.v (D.ax (a7 a==a7 b)))=_
 congr 3
 rw[ano,beq_iff_eq,decide_eq_true_eq,QR]
def acL(d:al5 (a7 a)=true)(c:al5 (a7 b)=true):dX (.v (.str (a7 a))) (.v (.str (a7 b)))=pure (.v (.ax (!decide (a=b)))):=by
 rw[sW (x:=.v (.str (a7 a))) (y:=.v (.str (a7 b))) d c];show pure (R.v (D.ax (!(a7 a==a7 b))))=_
 congr 4
 rw[ano,beq_iff_eq,decide_eq_true_eq,QR]
def l9(a:List Nat):Prop:=al5 (a7 a)=true/\1<=a.length/\a.length<=8
def af5:al5 (a7 a)=true↔∀c∈a,c<0x110000:=by
 unfold al5 a7;rw[List.all_toArray,amv];simp
def pA(a:List Nat):(a7 a).length=a.length:=by
 show a.toArray.size=_;simp
def ag6(a b:List Nat):a7 a++a7 b=a7 (a++b):=by
 show(⟨a.toArray++b.toArray⟩:Str)=_;unfold a7;simp
def UC(a:List Nat)(lo hi:Option Int):p2 (a7 a) lo hi=a7 (cutD a lo hi):=rfl
def UH{α:Type}(xs:List α)(k:Nat)(h:k<=xs.length):cutD xs none (some (k:Int))=xs.take k:=by
 unfold cutD;rw[c4.AK,c4.AL,aps,Nat.sub_zero,aoA h]
def UI{α:Type}(xs:List α)(k:Nat)(h:k<=xs.length):cutD xs (some (k:Int)) none=xs.drop k:=by
 unfold cutD;rw[c4.AK,c4.AL,aoA h,am8 (by rw[amL];omega)]
def abx:(("add":Str) == "put")=false:=by decide +kernel
def acH:(("swap":Str) == "put")=false:=by decide +kernel
def acG:(("swap":Str) == "add")=false:=by decide +kernel
def acJ:(("take":Str) == "put")=false:=by decide +kernel
def acI:(("take":Str) == "add")=false:=by decide +kernel
def acK:(("take":Str) == "swap")=false:=by decide +kernel
def acw:(("renew":Str) == "put")=false:=by decide +kernel
def acv:(("renew":Str) == "add")=false:=by decide +kernel
def acx:(("renew":Str) == "swap")=false:=by decide +kernel
def acy:(("renew":Str) == "take")=false:=by decide +kernel
def aci:(("free":Str) == "put")=false:=by decide +kernel
def ach:(("free":Str) == "add")=false:=by decide +kernel
def ack:(("free":Str) == "swap")=false:=by decide +kernel
def acm:(("free":Str) == "take")=false:=by decide +kernel
def acj:(("free":Str) == "renew")=false:=by decide +kernel
def acC:(("sure":Str) == "put")=false:=by decide +kernel
def acA:(("sure":Str) == "add")=false:=by decide +kernel
def acE:(("sure":Str) == "swap")=false:=by decide +kernel
def acF:(("sure":Str) == "take")=false:=by decide +kernel
def acD:(("sure":Str) == "renew")=false:=by decide +kernel
def acB:(("sure":Str) == "free")=false:=by decide +kernel
def acp:(("move":Str) == "put")=false:=by decide +kernel
def acn:(("move":Str) == "add")=false:=by decide +kernel
def acs:(("move":Str) == "swap")=false:=by decide +kernel
def acu:(("move":Str) == "take")=false:=by decide +kernel
def acq:(("move":Str) == "renew")=false:=by decide +kernel
def aco:(("move":Str) == "free")=false:=by decide +kernel
def acr:(("move":Str) == "sure")=false:=by decide +kernel
def acb:(("end":Str) == "put")=false:=by decide +kernel
def ab8:(("end":Str) == "add")=false:=by decide +kernel
def acf:(("end":Str) == "swap")=false:=by decide +kernel
def acg:(("end":Str) == "take")=false:=by decide +kernel
def acd:(("end":Str) == "renew")=false:=by decide +kernel
def ab9:(("end":Str) == "free")=false:=by decide +kernel
def ace:(("end":Str) == "sure")=false:=by decide +kernel
def aca:(("end":Str) == "move")=false:=by decide +kernel
def aby:(("do_add":Str) == "do_put")=false:=by decide +kernel
def ab4:(("do_swap":Str) == "do_put")=false:=by decide +kernel
def ab3:(("do_swap":Str) == "do_add")=false:=by decide +kernel
def ab6:(("do_take":Str) == "do_put")=false:=by decide +kernel
def ab5:(("do_take":Str) == "do_add")=false:=by decide +kernel
def ab7:(("do_take":Str) == "do_swap")=false:=by decide +kernel
def abU:(("do_renew":Str) == "do_put")=false:=by decide +kernel
def abT:(("do_renew":Str) == "do_add")=false:=by decide +kernel
def abV:(("do_renew":Str) == "do_swap")=false:=by decide +kernel
def abW:(("do_renew":Str) == "do_take")=false:=by decide +kernel
def abI:(("do_free":Str) == "do_put")=false:=by decide +kernel
def abH:(("do_free":Str) == "do_add")=false:=by decide +kernel
def abK:(("do_free":Str) == "do_swap")=false:=by decide +kernel
def abL:(("do_free":Str) == "do_take")=false:=by decide +kernel
def abJ:(("do_free":Str) == "do_renew")=false:=by decide +kernel
def abZ:(("do_sure":Str) == "do_put")=false:=by decide +kernel
def abX:(("do_sure":Str) == "do_add")=false:=by decide +kernel
def ab1:(("do_sure":Str) == "do_swap")=false:=by decide +kernel
def ab2:(("do_sure":Str) == "do_take")=false:=by decide +kernel
def ab0:(("do_sure":Str) == "do_renew")=false:=by decide +kernel
def abY:(("do_sure":Str) == "do_free")=false:=by decide +kernel
def abO:(("do_move":Str) == "do_put")=false:=by decide +kernel
def abM:(("do_move":Str) == "do_add")=false:=by decide +kernel
def abR:(("do_move":Str) == "do_swap")=false:=by decide +kernel
def abS:(("do_move":Str) == "do_take")=false:=by decide +kernel
def abP:(("do_move":Str) == "do_renew")=false:=by decide +kernel
def abN:(("do_move":Str) == "do_free")=false:=by decide +kernel
def abQ:(("do_move":Str) == "do_sure")=false:=by decide +kernel
def abC:(("do_end":Str) == "do_put")=false:=by decide +kernel
def abz:(("do_end":Str) == "do_add")=false:=by decide +kernel
def abF:(("do_end":Str) == "do_swap")=false:=by decide +kernel
def abG:(("do_end":Str) == "do_take")=false:=by decide +kernel
def abD:(("do_end":Str) == "do_renew")=false:=by decide +kernel
def abA:(("do_end":Str) == "do_free")=false:=by decide +kernel
def abE:(("do_end":Str) == "do_sure")=false:=by decide +kernel
def abB:(("do_end":Str) == "do_move")=false:=by decide +kernel
end aC
namespace dI
open PySem PySem.Spec aA aC
def pQ(x:Int×D):Prop:=∃n z:D,x.2=.t [.int x.1,n,z]
def pQ.e0{x:Int×D}(h:pQ x):aG (.v x.2) (.v (.int 0))=pure (.v (.int x.1)):=by
 obtain⟨n,z,e⟩:=h;rw[e];simp
def pQ.slot{x:Int×D}(h:pQ x):b0 x.2=.v x.2:=by
 obtain⟨n,z,e⟩:=h;rw[e];rfl
def C6{l:List (Int×D)}(h:∀x∈l,pQ x)(c le aW:D)(a:Int):qr [.t [c,.t (l.map (·.2)),le,aW],.int a]=pure (.v ((fm (Q:=fs.κ.toKeyOrd) l a).getD (.t [.int a,.int 0,.aH]))):=by
 have L:=s8 (b:=λd U=>zH (U.set 2 (.v d))) (λx:Int×D=>x.2) (λx=>decide (x.1=a)) (λx=>.v x.2) (λU=>∃s2,U=[.v (.t [c,.t (l.map (·.2)),le,aW]),.v (.int a),s2]) l [.v (.t [c,.t (l.map (·.2)),le,aW]),.v (.int a),.e] ⟨_,rfl⟩
  (λx U f ⟨s2,g⟩=>by
   subst g;have e0:=(h x f).e0;refine⟨λq=>?_,λq=>⟨[.v (.t [c,.t (l.map (·.2)),le,aW]),.v (.int a),.v x.2],?_,_,rfl⟩⟩
   .have q:x.1=a:=of_decide_eq_true q
    simp only[zH];simp[e0,q]
   .have q:¬x.1=a:=of_decide_eq_false q
    simp only[zH];simp[e0,q])
 simp only[qr,H_,Ia];unfold fm
 cases e:l.find? (λx=>decide (x.1=a))with
 |some x=>
  have:=L.1 x e;simp[this]
 |none=>
  obtain⟨U',i,s2,rfl⟩:=L.2 e;simp[i]
def Oh{x:Int×D}(h:pQ x):fnOf 1 1 (a0 (ae aG (I 0) (af (.int 0)))) [x.2]=pure (.v (.int x.1)):=by
 have:=h.e0;simp[h.slot,this]
def ahT{l:List (Int×D)}(h:∀x∈l,pQ x)(f:(l.map (·.1)).Nodup)(hl:l.length<63)(c le aW:D)(a:Int)(n z:D)(hs:b0 n=.v n)(hz:b0 z=.v z) :
  z6 [.t [c,.t (l.map (·.2)),le,aW],.int a,n,z]=pure (.v (.t [c,.t ((kj (Q:=fs.κ.toKeyOrd) l (a,.t [.int a,n,z])).map (·.2)),le,aW])):=by
 have bf:gn (aU (ae dX (ae aG (I 0) (af (.int 0))) (I 1))) (I 0) [.e,.v (.int a)] (l.map (·.2))=pure ((jD (Q:=fs.κ.toKeyOrd) l a).map (·.2)):=
  ot (λx:Int×D=>x.2) (λx=>!decide (x.1=a)) (λx=>x.2) l (λx b=>by
   have e0:=(h x b).e0;simp[e0];rfl) λx _ _=>by simp
 have i:l.length<alP:=fU (by omega);have dl:=C8 (Q:=fs.κ.toKeyOrd) l a;have g:(jD (Q:=fs.κ.toKeyOrd) l a).length<alP:=fU (by omega);have dQ:=Gr (Z:=fs) (λ_=>rfl) (mf:=fnOf 1 1 (a0 (ae aG (I 0) (af (.int 0))))) (l:=mN (Q:=fs.κ.toKeyOrd) l (a,.t [.int a,n,z])) (λx b=>by
  rcases(F0 (Q:=fs.κ.toKeyOrd)).mp b with⟨b,_⟩|rfl
  .exact Oh (h x b)
  .exact Oh ⟨n,z,rfl⟩) (r:=.mv ((jD (Q:=fs.κ.toKeyOrd) l a).map (·.2)++[.t [.int a,n,z]])) (by
   show some _=some _;unfold mN;rw[ane];rfl) (F1 _ f) (by have:=PT (Q:=fs.κ.toKeyOrd) l (a,.t [.int a,n,z]);omega)
 have j:∀(d:bt)(U:aK)(mf:bj),p0 fs mf d U=(do let x <-d U;oC fs mf x):=λ_ _ _=>rfl
 simp only[z6,Cz,Ji,Jj];unfold kj;simp[hs,hz,bf,i,g,dQ,j]
abbrev sJ:=List (List Nat×D)
def l3(x:List Nat×D):Prop:=l9 x.1/\∃n:Int,n≠0/\x.2=.t [.str (a7 x.1),.int n]
def l3.e0(h:l3 x):aG (.v x.2) (.v (.int 0))=pure (.v (.str (a7 x.1))):=by
 obtain⟨_,n,_,e⟩:=h;rw[e];simp
def l3.slot(h:l3 x):b0 x.2=.v x.2:=by
 obtain⟨_,n,_,e⟩:=h;rw[e];rfl
def lA:Option D->Int
 |some (.t [_,.int n])=>n|_=>0
def CO{l:sJ}(h:∀x∈l,l3 x)(d le aW:D)(f:l9 a):tL [.t [.t (l.map (·.2)),d,le,aW],.str (a7 a)]=pure (.v (.int (lA (fm (Q:=e8) l a)))):=by
 have L:=s8 (b:=λd U=>zG (U.set 2 (.v d))) (λx:List Nat×D=>x.2) (λx=>decide (x.1=a)) (λx=>.v (.int (lA (some x.2)))) (λU=>∃s2,U=[.v (.t [.t (l.map (·.2)),d,le,aW]),.v (.str (a7 a)),s2]) l [.v (.t [.t (l.map (·.2)),d,le,aW]),.v (.str (a7 a)),.e] ⟨_,rfl⟩
  (λx U c ⟨s2,g⟩=>by
   subst g;have e0:=(h x c).e0;have eq:=U9 (h x c).1.1 f.1;obtain⟨_,n,_,e⟩:=h x c;refine⟨λq=>?_,λq=>⟨[.v (.t [.t (l.map (·.2)),d,le,aW]),.v (.str (a7 a)),.v x.2],?_,_,rfl⟩⟩
   .rw[q]at eq
    simp only[zG];rw[e]at e0 ⊢;simp[e0,eq,lA]
   .rw[q]at eq
    simp only[zG];simp[e0,eq])
 simp only[tL,H3,H4];unfold fm
 cases e:l.find? (λx=>decide (x.1=a))with
 |some x=>
  have:=L.1 x e;simp[this]
 |none=>
  obtain⟨U',i,s2,rfl⟩:=L.2 e;simp[i,lA]
def EX(h:l3 x):fnOf 1 1 (a0 (ae aG (I 0) (af (.int 0)))) [x.2]=pure (.v (mx.eK x.1)):=by
 have:=h.e0;rw[ZX];simp[h.slot,this]
def k4(l:sJ)(a:List Nat)(n:Int):sJ:=if n=0 then jD (Q:=e8) l a else kj (Q:=e8) l (a,.t [.str (a7 a),.int n])
def ahn(h:lq e8 l)(a:List Nat)(n:Int):lq e8 (k4 l a n):=by
 unfold k4;split
 .exact LU a h
 .exact F2 _ h.nodup
def aho(h:∀x∈l,l3 x)(c:l9 a)(n:Int):∀x∈k4 l a n,l3 x:=λx b=>by
 unfold k4 at b;split at b
 .exact h x ((vt (Q:=e8)).mp b).1
 .rename_i q
  rcases(uo (Q:=e8)).mp b with⟨b,_⟩|rfl
  .exact h x b
  .exact⟨c,n,q,rfl⟩
def Be{l:sJ}(h:∀x∈l,l3 x)(c:lq e8 l)(hl:l.length<63)(d le aW:D)(f:l9 a)(n:Int) :
  r1 [.t [.t (l.map (·.2)),d,le,aW],.str (a7 a),.int n]=pure (.v (.t [.t ((k4 l a n).map (·.2)),d,le,aW])):=by
 have bf:gn (aU (ae dX (ae aG (I 0) (af (.int 0))) (I 1))) (I 0) [.e,.v (.str (a7 a))] (l.map (·.2))=pure ((jD (Q:=e8) l a).map (·.2)):=
  ot (λx:List Nat×D=>x.2) (λx=>!decide (x.1=a)) (λx=>x.2) l (λx b=>by
   have e0:=(h x b).e0;have ne:=acL (h x b).1.1 f.1;simp[e0,ne]) λx _ _=>by simp
 have j:l.length<alP:=fU (by omega);have dl:=C8 (Q:=e8) l a;have i:(jD (Q:=e8) l a).length<alP:=fU (by omega);have k:∀(g:bt)(U:aK)(mf:bj),p0 mx mf g U=(do let x <-g U;oC mx mf x):=λ_ _ _=>rfl
 simp only[r1,Cy,Jg,Jh];unfold k4
 by_cases q:n=0
 .have dQ:=Gr (Z:=mx) QU (mf:=fnOf 1 1 (a0 (ae aG (I 0) (af (.int 0))))) (l:=jD (Q:=e8) l a) (λx b=>EX (h x ((vt (Q:=e8)).mp b).1)) (r:=.mv ((jD (Q:=e8) l a).map (·.2))) rfl (LS a c.nodup) (by omega)
  rw[afT (Q:=e8) (LU a c)]at dQ;rw[if_pos q];simp[q,bf,j,i,dQ,k]
 .have dQ:=Gr (Z:=mx) QU (mf:=fnOf 1 1 (a0 (ae aG (I 0) (af (.int 0))))) (l:=mN (Q:=e8) l (a,.t [.str (a7 a),.int n])) (λx b=>by
   rcases(F0 (Q:=e8)).mp b with⟨b,_⟩|rfl
   .exact EX (h x b)
   .exact EX ⟨f,n,q,rfl⟩) (r:=.mv ((jD (Q:=e8) l a).map (·.2)++[.t [.str (a7 a),.int n]])) (by
    show some _=some _;unfold mN;rw[ane];rfl) (F1 _ c.nodup) (by have:=PT (Q:=e8) l (a,.t [.str (a7 a),.int n]);omega)
  rw[if_neg q];unfold kj;simp[q,bf,j,i,dQ,k]
def ahU(c d le aW f t:D)(b:b0 f=.v f)(a:b0 t=.v t):z7 [.t [c,d,le,aW],f,t]=pure (.v (.t [c,d,.t [f,t],aW])):=by
 simp[z7,Jk,b,a]
def GS(c d le aW s:D)(hs:b0 s=.v s):tY [.t [c,d,le,aW],s]=pure (.v (.t [c,d,le,s])):=by
 simp[tY,Jn,hs]
def ng(x:D)(ds:List D):d1 (x::ds) 0=some x:=kx 0 rfl
def agJ:hv.lookup ("put":Str)=some ("do_put":Str):=by
 unfold hv;simp only[al0,beq_self_eq_true]
def Vv:h6.lookup ("do_put":Str)=some wC:=by
 unfold h6;simp only[al0,beq_self_eq_true]
def adG{s a r:D}(hs:b0 s=.v s)(b:b0 a=.v a)(h:wC [s,a,.t (.str "put"::ds)]=pure (.v r)):e' [s,a,.t (.str "put"::ds)]=pure (.v r):=by
 simp only[e',ni,nj];simp[hs,b,ng,agJ,Vv,h]
def agF:hv.lookup ("add":Str)=some ("do_add":Str):=by
 unfold hv;simp only[al0,beq_self_eq_true,abx]
def Vr:h6.lookup ("do_add":Str)=some wz:=by
 unfold h6;simp only[al0,beq_self_eq_true,aby]
def ady{s a r:D}(hs:b0 s=.v s)(b:b0 a=.v a)(h:wz [s,a,.t (.str "add"::ds)]=pure (.v r)):e' [s,a,.t (.str "add"::ds)]=pure (.v r):=by
 simp only[e',ni,nj];simp[hs,b,ng,agF,Vr,h]
def agM:hv.lookup ("swap":Str)=some ("do_swap":Str):=by
 unfold hv;simp only[al0,beq_self_eq_true,acH,acG]
def Vy:h6.lookup ("do_swap":Str)=some tP:=by
 unfold h6;simp only[al0,beq_self_eq_true,ab4,ab3]
def adK{s a r:D}(hs:b0 s=.v s)(b:b0 a=.v a)(h:tP [s,a,.t (.str "swap"::ds)]=pure (.v r)):e' [s,a,.t (.str "swap"::ds)]=pure (.v r):=by
 simp only[e',ni,nj];simp[hs,b,ng,agM,Vy,h]
def agN:hv.lookup ("take":Str)=some ("do_take":Str):=by
 unfold hv;simp only[al0,beq_self_eq_true,acJ,acI,acK]
def Vz:h6.lookup ("do_take":Str)=some tQ:=by
 unfold h6;simp only[al0,beq_self_eq_true,ab6,ab5,ab7]
def adL{s a r:D}(hs:b0 s=.v s)(b:b0 a=.v a)(h:tQ [s,a,.t (.str "take"::ds)]=pure (.v r)):e' [s,a,.t (.str "take"::ds)]=pure (.v r):=by
 simp only[e',ni,nj];simp[hs,b,ng,agN,Vz,h]
def agK:hv.lookup ("renew":Str)=some ("do_renew":Str):=by
 unfold hv;simp only[al0,beq_self_eq_true,acw,acv,acx,acy]
def Vw:h6.lookup ("do_renew":Str)=some tN:=by
 unfold h6;simp only[al0,beq_self_eq_true,abU,abT,abV,abW]
def adH{s a r:D}(hs:b0 s=.v s)(b:b0 a=.v a)(h:tN [s,a,.t (.str "renew"::ds)]=pure (.v r)):e' [s,a,.t (.str "renew"::ds)]=pure (.v r):=by
 simp only[e',ni,nj];simp[hs,b,ng,agK,Vw,h]
def agH:hv.lookup ("free":Str)=some ("do_free":Str):=by
 unfold hv;simp only[al0,beq_self_eq_true,aci,ach,ack,acm,acj]
def Vt:h6.lookup ("do_free":Str)=some tM:=by
 unfold h6;simp only[al0,beq_self_eq_true,abI,abH,abK,abL,abJ]
def adD{s a r:D}(hs:b0 s=.v s)(b:b0 a=.v a)(h:tM [s,a,.t (.str "free"::ds)]=pure (.v r)):e' [s,a,.t (.str "free"::ds)]=pure (.v r):=by
 simp only[e',ni,nj];simp[hs,b,ng,agH,Vt,h]
def agL:hv.lookup ("sure":Str)=some ("do_sure":Str):=by
 unfold hv;simp only[al0,beq_self_eq_true,acC,acA,acE,acF,acD,acB]
def Vx:h6.lookup ("do_sure":Str)=some tO:=by
 unfold h6;simp only[al0,beq_self_eq_true,abZ,abX,ab1,ab2,ab0,abY]
def adJ{s a r:D}(hs:b0 s=.v s)(b:b0 a=.v a)(h:tO [s,a,.t (.str "sure"::ds)]=pure (.v r)):e' [s,a,.t (.str "sure"::ds)]=pure (.v r):=by
 simp only[e',ni,nj];simp[hs,b,ng,agL,Vx,h]
def agI:hv.lookup ("move":Str)=some ("do_move":Str):=by
 unfold hv;simp only[al0,beq_self_eq_true,acp,acn,acs,acu,acq,aco,acr]
def Vu:h6.lookup ("do_move":Str)=some wB:=by
 unfold h6;simp only[al0,beq_self_eq_true,abO,abM,abR,abS,abP,abN,abQ]
def adE{s a r:D}(hs:b0 s=.v s)(b:b0 a=.v a)(h:wB [s,a,.t (.str "move"::ds)]=pure (.v r)):e' [s,a,.t (.str "move"::ds)]=pure (.v r):=by
 simp only[e',ni,nj];simp[hs,b,ng,agI,Vu,h]
def agG:hv.lookup ("end":Str)=some ("do_end":Str):=by
 unfold hv;simp only[al0,beq_self_eq_true,acb,ab8,acf,acg,acd,ab9,ace,aca]
def Vs:h6.lookup ("do_end":Str)=some wA:=by
 unfold h6;simp only[al0,beq_self_eq_true,abC,abz,abF,abG,abD,abA,abE,abB]
def adB{s a r:D}(hs:b0 s=.v s)(b:b0 a=.v a)(h:wA [s,a,.t (.str "end"::ds)]=pure (.v r)):e' [s,a,.t (.str "end"::ds)]=pure (.v r):=by
 simp only[e',ni,nj];simp[hs,b,ng,agG,Vs,h]
section
variable{l:sJ}(h:∀x∈l,l3 x)(aB:lq e8 l)(hl:l.length<63)(d le aW:D){a:List Nat}(ao:l9 a)(n i:Int)
include h aB hl ao
theorem adR:e' [.t [.t (l.map (·.2)),d,le,aW],.int i,.t [.str "put",.str (a7 a),.int n]]=pure (.v (.t [.t [.t ((k4 l a n).map (·.2)),d,le,aW],.int (lA (fm (Q:=e8) l a))])):=
 adG rfl rfl (by
  have av:=Be h aB hl d le aW ao n;have aE:=CO h d le aW ao;simp[wC,H9,av,aE])
theorem adN:e' [.t [.t (l.map (·.2)),d,le,aW],.int i,.t [.str "add",.str (a7 a),.int n]]=pure (.v (.t [.t [.t ((k4 l a (lA (fm (Q:=e8) l a)+n)).map (·.2)),d,le,aW],.int (lA (fm (Q:=e8) l a)+n)])):=
 ady rfl rfl (by
  have av:=Be h aB hl d le aW ao (lA (fm (Q:=e8) l a)+n);have aE:=CO h d le aW ao;simp[wz,H5,H6,av,aE])
theorem adU(o:Int):e' [.t [.t (l.map (·.2)),d,le,aW],.int i,.t [.str "swap",.str (a7 a),.int o,.int n]]=pure (.v (if lA (fm (Q:=e8) l a)=o then .t [.t [.t ((k4 l a n).map (·.2)),d,le,aW],.int 1]else .t [.t [.t (l.map (·.2)),d,le,aW],.int 0])):=
 adK rfl rfl (by
  have av:=Be h aB hl d le aW ao n;have aE:=CO h d le aW ao
  by_cases q:lA (fm (Q:=e8) l a)=o
  .rw[if_pos q]
   simp[tP,Ck,Cm,av,aE,q]
  .rw[if_neg q]
   simp[tP,Ck,Cm,av,aE,q])
theorem adT(f g:Int)(t:D)(b:t.bY 63=true):e' [.t [.t (l.map (·.2)),d,.t [.int f,t],aW],.int i,.t [.str "sure",.int g,.str (a7 a),.int n]]=pure (.v (if(f==g&&eo t (.int i))=true then .t [.t [.t ((k4 l a n).map (·.2)),d,.t [.int f,t],aW],.int 1]else .t [.t [.t (l.map (·.2)),d,.t [.int f,t],aW],.int 0])):=
 adJ rfl rfl (by
  have av:=Be h aB hl d (.t [.int f,t]) aW ao n;have ne:dX (.v (.t [.int f,t])) (.v (.t [.int g,.int i]))=pure (.v (.ax (!(f==g&&eo t (.int i))))):=by
   rw[sW (x:=.v (.t [.int f,t])) (y:=.v (.t [.int g,.int i])) (kG.mpr (by simp only[ams];exact⟨rfl,b,λ_ h=>nomatch h⟩)) rfl];simp[eo,mL]
  cases q:(f==g&&eo t (.int i))with
  |true=>
   rw[q]at ne;simp[tO,Ci,Cj,jR,nh,av,ne]
  |false=>
   rw[q]at ne;simp[tO,Ci,Cj,jR,nh,av,ne])
end
section
variable(c d le aW:D)(i:Int)
def adQ(z:D)(hz:b0 z=.v z):e' [.t [c,d,le,aW],.int i,.t [.str "move",z]]=pure (.v (.t [.t [c,d,le,z],.int 1])):=
 adE rfl rfl (by simp[wB,H8,GS c d le aW z hz])
def adO:e' [.t [c,d,le,aW],.int i,.t [.str "end"]]=pure (.v (.t [.t [c,d,le,.str "over"],.int 1])):=
 adB rfl rfl (by simp[wA,H7,GS c d le aW (.str "over") rfl])
variable(f g:Int)(t:D)(bB:t.bY 63=true)
def Fx:tW [.t [c,d,.t [.int f,t],aW]]=pure (.v (.t [.t [c,d,.t [.int f,t],aW],.t [.int 0,.int f,t]])):=by
 simp[tW,I_,I',jR,nh]
def EZ(u:D)(a:b0 u=.v u):tU [.t [c,d,.t [.int f,t],aW],.int g,u]=pure (.v (.t [.t [c,d,.t [.int (g+1),u],aW],.t [.int 1,.int (g+1),u]])):=by
 simp[tU,IX,ahU c d (.t [.int f,t]) aW (.int (g+1)) u rfl a,a]
def adV:e' [.t [c,d,.t [.int f,t],aW],.int i,.t [.str "take",.int g]]=pure (.v (if f=g then .t [.t [c,d,.t [.int (g+1),.int i],aW],.t [.int 1,.int (g+1),.int i]]else .t [.t [c,d,.t [.int f,t],aW],.t [.int 0,.int f,t]])):=
 adL rfl rfl (by
  have av:=EZ c d aW f g t (.int i) rfl;have aE:=Fx c d aW f t
  by_cases q:f=g
  .rw[if_pos q]
   simp[tQ,Cn,Co,jR,nh,av,aE,q];rw[q]at av;simp[av]
  .rw[if_neg q]
   simp[tQ,Cn,Co,jR,nh,av,aE,q])
include bB
theorem OZ:dX (.v (.t [.int f,t])) (.v (.t [.int g,.int i]))=pure (.v (.ax (!(f==g&&eo t (.int i))))):=by
 rw[sW (x:=.v (.t [.int f,t])) (y:=.v (.t [.int g,.int i])) (kG.mpr (by simp only[ams];exact⟨rfl,bB,λ_ h=>nomatch h⟩)) rfl];simp[eo,mL]
theorem adS:e' [.t [c,d,.t [.int f,t],aW],.int i,.t [.str "renew",.int g]]=pure (.v (if(f==g&&eo t (.int i))=true then .t [.t [c,d,.t [.int (g+1),.int i],aW],.t [.int 1,.int (g+1),.int i]]else .t [.t [c,d,.t [.int f,t],aW],.t [.int 0,.int f,t]])):=
 adH rfl rfl (by
  have av:=EZ c d aW f g t (.int i) rfl;have aE:=Fx c d aW f t;have ne:=OZ i f g t bB
  cases q:(f==g&&eo t (.int i))with
  |true=>
   rw[q]at ne;simp[tN,Cf,Cg,jR,nh,av,aE,ne]
  |false=>
   rw[q]at ne;simp[tN,Cf,Cg,jR,nh,av,aE,ne])
theorem adP:e' [.t [c,d,.t [.int f,t],aW],.int i,.t [.str "free",.int g]]=pure (.v (if(f==g&&eo t (.int i))=true then .t [.t [c,d,.t [.int (g+1),.aH],aW],.t [.int 1,.int (g+1),.aH]]else .t [.t [c,d,.t [.int f,t],aW],.t [.int 0,.int f,t]])):=
 adD rfl rfl (by
  have av:=EZ c d aW f g t .aH rfl;have aE:=Fx c d aW f t;have ne:=OZ i f g t bB
  cases q:(f==g&&eo t (.int i))with
  |true=>
   rw[q]at ne;simp[tM,Cd,Ce,jR,nh,av,aE,ne]
  |false=>
   rw[q]at ne;simp[tM,Cd,Ce,jR,nh,av,aE,ne])
end
def qZ(x:Int×D):Prop:=∃(n:Int)(z:D),x.2=.t [.int x.1,.int n,z]
def qZ.p7{x:Int×D}(h:qZ x):pQ x:=by obtain⟨n,z,e⟩:=h;exact⟨_,_,e⟩
def r2:Option D->Int
 |some (.t [_,.int n,_])=>n|_=>0
def Om{l:List (Int×D)}(h:∀x∈l,qZ x)(a:Int):aG (.v ((fm (Q:=fs.κ.toKeyOrd) l a).getD (.t [.int a,.int 0,.aH]))) (.v (.int 1))=pure (.v (.int (r2 (fm (Q:=fs.κ.toKeyOrd) l a)))):=by
 cases q:fm (Q:=fs.κ.toKeyOrd) l a with
 |none=>simp[r2]|some d=>
  obtain⟨n,z,e⟩:=h _ (vC q);have e:d=.t [.int a,.int n,z]:=e;subst e;simp[r2]
def v7(c d le aW:D):mC [.t [c,d,le,aW]]=(do i1 (.v aW) (.v .aH)):=by
 simp[mC,IG,o6,Cx]
section
variable{l:List (Int×D)}(h:∀x∈l,qZ x)(c le aW:D)(a n:Int)
include h
theorem LR(ds:D)(hd:b0 ds=.v ds)(q:ds=.aH\/(∃xs,ds=.t xs)/\(aW=.str "over"\/(∃b,aW=.t b)\/aW=.aH/\n<=r2 (fm (Q:=fs.κ.toKeyOrd) l a))) :
  nN [.t [c,.t (l.map (·.2)),le,aW],.int a,.int n,ds]=pure (.v (.t [c,.t (l.map (·.2)),le,aW])):=by
 have av:=C6 (λx d=>(h x d).p7) c le aW a;have aE:=Om h a;simp only[nN,Cp,Cq,Cr];rcases q with rfl|⟨⟨xs,rfl⟩,rfl|⟨b,rfl⟩|⟨rfl,q⟩⟩
 .simp
 .simp[v7]
 .simp[v7]
 .simp[v7,av,aE,q]
theorem UQ(xs:List D)(q:r2 (fm (Q:=fs.κ.toKeyOrd) l a)<n)(hl:l.length<63)(e:(l.map (·.1)).Nodup){c' le' sh' v:D}
  (d:e' [.t [c,.t (l.map (·.2)),le,.aH],.int a,.t xs]=pure (.v (.t [.t [c',.t (l.map (·.2)),le',sh'],v]))) (f:b0 v=.v v) :
  nN [.t [c,.t (l.map (·.2)),le,.aH],.int a,.int n,.t xs]=pure (.v (.t [c',.t ((kj (Q:=fs.κ.toKeyOrd) l (a,.t [.int a,.int n,v])).map (·.2)),le',sh'])):=by
 have av:=C6 (λx b=>(h x b).p7) c le .aH a;have aE:=Om h a;have cX:=ahT (λx b=>(h x b).p7) e hl c' le' sh' a (.int n) v rfl f;have g:¬n<=r2 (fm (Q:=fs.κ.toKeyOrd) l a):=by omega
 simp only[nN,Cp,Cq,Cr];simp[v7,av,aE,g,d,cX]
end
def ac1{l:List (Int×D)}(h:∀x∈l,qZ x)(a n:Int)(v:D):∀x∈kj (Q:=fs.κ.toKeyOrd) l (a,.t [.int a,.int n,v]),qZ x:=λx b=>by
 rcases(uo (Q:=fs.κ.toKeyOrd)).mp b with⟨b,_⟩|rfl
 .exact h x b
 .exact⟨n,v,rfl⟩
end dI
namespace dI
open PySem PySem.Spec aA aC iN
def Good(r:a9):Prop:=r.wf/\r.deep<=4/\r.names.length<=12
end dI
namespace dI
open PySem PySem.Spec aA aC iN fX i7
def pH(i:Int):mD [.int i]=pure (.v (.ax true)):=by kernel_rfl
def GR(xs:List D):mD [.t xs]=pure (.v (.ax false)):=by kernel_rfl
def DP(m k:Nat):qs [ba m,ba k]=pure (.v (.ax (cC m k))):=by
 have e:=TF m k;simp only[qs,Ij,g0];simp[e]
def wN(a:List Nat)(h:∀k∈a,k<=1000):lK [.l (a.map ba)]=pure (.v (ba (maskOf a))):=by
 obtain⟨U',e,s2,rfl⟩:=vB (b:=λd U=>ES (U.set 2 (.v d))) (ds:=a.map ba) (U:=[.b4 (a.map ba),.v (.int 0),.e])
  (λi U=>∃s2,U=[.b4 (a.map ba),.v (ba (maskOf (a.take i))),s2]) ⟨_,rfl⟩ (λi d U hd ⟨s2,f⟩=>by
   subst f;obtain⟨k,c,rfl⟩:=z8 hd;have g:=h k (amh c);refine⟨_,.inl (?_:_=pure (fG.bu [.b4 (a.map ba),.v (ba (maskOf (a.take (i+1)))),.v (ba k)])),_,rfl⟩;rw[take_snoc c,Fi,g0 (_ ||| _),<-FO];have eF:(k:Int)<=1000000:=by omega
   simp only[ES,g0];simp[eF])
 rw[alM,ao1]at e;simp only[lK,IY,IZ,I0];simp[e]
def EH(h:m<64):tR [ba m]=pure (.fr ((fq m).map ba)):=by
 have b:=bits_le m h;have c:gn (aU (bh qs (aa (I 1) (aa (I 0) ai)))) (I 0) [.e,.v (ba m)] ((ame (bits m)).map ba)=pure (((ame (bits m)).filter (cC m)).map ba):=
  ot ba (cC m) ba _ (λk _=>by simp[DP]) λk _ _=>by simp
 have a:-4611686018427387904<=((bits m:Nat):Int)/\((bits m:Nat):Int)<4611686018427387904:=by omega
 have z:bits m<alP:=fU (by omega);rw[ZY];simp only[tR,IH];simp only[g0 m]at c ⊢;simp[Zv,a,Gb,z,c]
def aa9(h:m<64):z3 [ba m]=pure (.v (.l ((within (fq m)).map ba))):=by
 have a:=EH h;have w:=EG h;obtain⟨U',e,s2,rfl⟩:=vB (b:=λd U=>ET (U.set 2 (.v d))) (ds:=(fq m).map ba) (U:=[.v (ba m),.v (.l [.int 0]),.e])
  (λi U=>∃s2,U=[.v (ba m),.v (.l ((within ((fq m).take i)).map ba)),s2]) ⟨_,rfl⟩ (λi d U hd ⟨s2,q⟩=>by
   subst q;obtain⟨k,a,rfl⟩:=z8 hd;have u:k<6:=((Fm h).mp (amh a)).1;refine⟨_,.inl (?_:_=pure (fG.bu [.v (ba m),.v (.l ((within ((fq m).take (i+1))).map ba)),.v (ba k)])),_,rfl⟩;rw[take_snoc a,Q9,ane,anM];have mo:lK [.l [ba k]]=pure (.v (ba (2 ^ k))):=by
    have:=wN [k] (by intro j n;rw[amb.mp n];omega)
    rwa[OK]at this
   have g:=Q8 ((fq m).take i);have t:((fq m).take i).length<=6:=by rw[amV];omega
   have f:2 ^ ((fq m).take i).length<=2 ^ 6:=aph (by decide) t;generalize within ((fq m).take i)=ws at g;have p:ws.length<=64:=by rw[g];exact f
   have c:gn eM (ae ew (I 0) (bh lK (aa (dW (aa (I 1) ai)) ai))) [.e,.v (ba k)] (ws.map ba)=pure (ws.map (ba∘λx=>x+2 ^ k)):=
    rh ba _ ws λx _=>by
     simp[mo];rw[g0 x,g0 (2 ^ k)];simp[g0]
   have s:ws.length<alP:=fU (by omega);have r:ws.length+ws.length<=alP:=anr (fU (by omega));simp only[ET];simp[c,s,r])
 rw[alM,ao1]at e;simp only[z3,I1,I2,I3];simp only[g0 m]at e a ⊢;simp[a,e]
theorem OR:∀(n:Nat)(r:a9),r.deep<n->r.names.length<=1000->mF n [enc r]=pure (.fr (r.names.map ba))
 |0,r,h,_=>absurd h (am5 _)|n+1,.kp k,h,_=>by
  simp only[mF,yr,sY,a9.names];simp[pH,g0]
 |n+1,.ch k ps,h,hl=>by
  simp only[a9.deep]at h;simp only[a9.names]at hl ⊢;have dl:=p6 (ps:=ps) (n:=n) (by omega);rw[ru];obtain⟨U',e,s2,rfl⟩:=vB (b:=λd U=>wc (mF n) (U.set 2 (.v d))) (ds:=ps.map enc) (U:=[.v (.t [.int (k:Nat),.t (ps.map enc)]),.en false [],.e])
   (λi U=>∃s2,U=[.v (.t [.int (k:Nat),.t (ps.map enc)]),.en false ((a9.eL (ps.take i)).map ba),s2]) ⟨_,rfl⟩ (λi d U hd ⟨s2,f⟩=>by
    subst f;obtain⟨r,a,rfl⟩:=z8 hd;have j:=amh a;refine⟨_,.inl (?_:_=pure (fG.bu [.v (.t [.int (k:Nat),.t (ps.map enc)]),.en false ((a9.eL (ps.take (i+1))).map ba),.v (enc r)])),_,rfl⟩;have g:=take_snoc a;have le:(a9.eL (ps.take (i+1))).length<=1000:=by
     have:a9.eL ps=a9.eL (ps.take (i+1))++a9.eL (ps.drop (i+1)):=by rw[<-wW,List.take_append_drop]
     rw[this,alN]at hl;omega
    rw[g,wW]at le ⊢;rw[show a9.eL [r]=r.names from am2 _]at le ⊢;rw[alN]at le;have c:=OR n r (dl r j) (by omega);have z:(a9.eL (ps.take i)).length+r.names.length<=alP:=anr (fU (by omega));simp only[wc];simp[c,z])
  rw[alM,ao1]at e;simp only[mF,yr,I7,I8,I9];simp[GR,e]
def named_eq{r:a9}(hw:r.wf)(hd:r.deep<12)(hl:r.names.length<=1000):tV [enc r]=pure (.v (ba (maskOf r.names))):=by
 have a:=OR 12 r hd hl;have b:=wN r.names λk c=>by have:=qv r hw k c;omega
 simp only[tV,I6];simp[a,b]
theorem yW(m:Nat):∀(n:Nat)(r:a9),r.deep<n->r.wf->ji n [enc r,ba m]=pure (.v (.ax (r.fills (cC m))))
 |0,r,h,_=>absurd h (am5 _)|n+1,.kp k,h,hw=>by
  have b:=DP m k;simp only[ji,yq,sY,a9.fills];simp only[g0]at b ⊢;simp[pH,b]
 |n+1,.ch k ps,h,hw=>by
  simp only[a9.deep]at h;simp only[a9.wf]at hw;have dl:=p6 (ps:=ps) (n:=n) (by omega);have d:=uQ.mp hw.2.2.2;rw[ru];have c:gn (aU (bh (ji n) (aa (I 0) (aa (I 1) ai)))) (I 0) [.e,.v (ba m)] (ps.map enc)=pure ((ps.filter (a9.fills (cC m))).map enc):=
   ot enc (a9.fills (cC m)) enc ps (λr a=>by simp[yW m n r (dl r a) (d r a)]) λr _ _=>by simp
  have z:ps.length<alP:=fU (by omega);have e:decide (((k:Nat):Int)<=(a9.cnt (cC m) ps:Nat))=decide (k<=a9.cnt (cC m) ps):=decide_eq_decide.mpr (by omega);simp only[ji,yq,Ib,a9.fills];simp only[g0 m]at c ⊢;simp[GR,c,z,CR,e]
def ZD(h:m<64)(a:List Nat):wG [ba m,.l (a.map ba)]=pure (.v (.ax (tp a m))):=by
 have b:=EH h;have q:=EG h;have fa:(a.map ba).all D.flat=true:=by rw[List.all_map];exact amv.mpr λ_ _=>rfl
 have c:gn eM (ae (kW false) (ae mI (I 1) (bh lK (aa (dW (aa (I 0) ai)) ai))) (I 2)) [.e,.v (ba m),.b4 (a.map ba)] ((fq m).map ba)=pure ((fq m).map λk=>D.ax (a.contains (m-2 ^ k))):=
  rh ba _ (fq m) fun k b=>by
   obtain⟨f,g⟩:=(Fm h).mp b;have mo:lK [.l [ba k]]=pure (.v (ba (2 ^ k))):=by
    have:=wN [k] (by intro j i;rw[amb.mp i];omega)
    rwa[OK]at this
   have ov:=(LV h f g).1;have p:(m:Int)-((2 ^ k:Nat):Int)=((m-2 ^ k:Nat):Int):=by
    by_cases z:2 ^ k<=m
    .omega
    .exfalso
     have all:∀m:_root_.Fin 64,∀k:_root_.Fin 6,cC m.val k.val=true->2 ^ k.val<=m.val:=by decide +kernel
     exact z (all ⟨m,h⟩ ⟨k,f⟩ g)
   have key:kW false (.v (ba (m-2 ^ k))) (.b4 (a.map ba))=pure (.v (.ax (a.contains (m-2 ^ k)))):=by
    show(if(ba (m-2 ^ k)).flat=true/\(a.map ba).all D.flat=true then pure (R.v (D.ax (if false=true then !inD (ba (m-2 ^ k)) (a.map ba)else inD (ba (m-2 ^ k)) (a.map ba))))else bad)=_;rw[if_pos ⟨rfl,fa⟩,if_neg alR,NC]
   have d:mI (.v (ba m)) (.v (ba (2 ^ k)))=pure (.v (ba (m-2 ^ k))):=by
    show pure (R.v (D.int ((m:Int)-((2 ^ k:Nat):Int))))=_;rw[p];rfl
   simp[mo,d,key]
 have z:(fq m).length<alP:=fU (by omega);have n:((fq m).map λk=>a.contains (m-2 ^ k)).any id=(fq m).any λk=>a.contains (m-2 ^ k):=by rw[List.any_map];rfl
 have bm:=yw (λk=>a.contains (m-2 ^ k)) (fq m);unfold tp;rw[<-n];simp only[wG,IB];simp only[g0 m]at c b ⊢;simp only[List.contains_eq_mem]at c bm ⊢;simp[b,c,z,bm]
def Oq{r:a9}(hw:r.wf)(hd:r.deep<12)(hl:r.names.length<=1000):wK [enc r]=pure (.fr ((least r).map ba)):=by
 have c:=named_eq hw hd hl;have a:=z_ r hw;have d:=aa9 a;have k:(within (fq (maskOf r.names))).length<=64:=by
  rw[Q8];have:=EG a;show _<=2 ^ 6;exact aph (by decide) this
 have bf:gn (aU (bh (ji 12) (aa (I 1) (aa (I 0) ai)))) (I 0) [.e,.v (enc r)] ((within (fq (maskOf r.names))).map ba)=pure ((filling r (maskOf r.names)).map ba):=
  ot ba (λm=>r.fills (cC m)) ba _ (λm _=>by simp[yW m 12 r hd hw]) λm _ _=>by simp
 have b:∀x∈filling r (maskOf r.names),x<64:=λx f=>((z' a).mp f).1
 have g:(filling r (maskOf r.names)).length<=64:=amq (anw _ _) k;have ae:gn (aU (bh wG (aa (I 0) (aa (I 1) ai)))) (I 0) [.e,.v (.l ((filling r (maskOf r.names)).map ba))] ((filling r (maskOf r.names)).map ba)=pure ((least r).map ba):=
  ot ba (tp (filling r (maskOf r.names))) ba _ (λm j=>by simp[ZD (b m j)]) λm _ _=>by simp
 have i:(within (fq (maskOf r.names))).length<alP:=fU (by omega);have h:(filling r (maskOf r.names)).length<alP:=fU (by omega);simp only[wK,IV,IW];simp[c,d,bf,i,ae,h]
end dI
namespace i7
open fX iN
def sZ(a k:a9):Nat:=maskOf a.names ||| maskOf k.names
def aa7(xs:List Nat):∀ys:List Nat,maskOf (xs++ys)=maskOf xs ||| maskOf ys:=by
 intro ys;have:∀n,∀ys:List Nat,ys.length=n->maskOf (xs++ys)=maskOf xs ||| maskOf ys:=by
  intro n
  induction n with
  |zero=>intro ys h;rw[an9.mp h,am2];exact(Nat.or_zero _).symm|succ n a=>
   intro ys h;rcases List.eq_nil_or_concat ys with rfl|⟨l,k,rfl⟩
   .cases h
   .rw[List.concat_eq_append]at h ⊢
    rw[alN,am0]at h;rw[<-aol,aC.Fi,a l (by omega),aC.Fi,Nat.or_assoc]
 exact this _ _ rfl
def Ma{a k:a9}(b:a.wf)(c:k.wf):sZ a k=kU λj=>(a.names++k.names).contains j:=by
 unfold sZ;rw[<-aa7,z9];intro n d;rcases amy.mp d with h|h
 .exact qv a b n h
 .exact qv k c n h
def Mb{a k:a9}(b:a.wf)(c:k.wf):sZ a k<64:=by rw[Ma b c];exact Fo _
end i7
namespace dI
open PySem PySem.Spec aA aC iN fX i7
def iB(a k:a9):D:=.t [enc a,enc k]
def abd(b:Good a)(c:Good k):z4 [iB a k]=pure (.v (ba (sZ a k))):=by
 have d:=named_eq (r:=a) b.1 (by have:=b.2.1;omega) (by have:=b.2.2;omega);have e:=named_eq (r:=k) c.1 (by have:=c.2.1;omega) (by have:=c.2.2;omega);unfold iB;simp only[z4,I4];simp only[g0]at d e ⊢;simp[d,e,FO,sZ]
def Zq(j:Nat)(a:List Nat):kW false (.v (ba j)) (.v (.l (a.map ba)))=pure (.v (.ax (a.contains j))):=by
 have fa:(a.map ba).all D.flat=true:=by rw[List.all_map];exact amv.mpr λ_ _=>rfl
 show(if(ba j).flat=true/\(a.map ba).all D.flat=true then pure (R.v (D.ax (if false=true then !inD (ba j) (a.map ba)else inD (ba j) (a.map ba))))else bad)=_;rw[if_pos ⟨rfl,fa⟩,if_neg alR,NC]
def Z0:∀m:Nat,m<64->fq m=(ame 6).filter (cC m):=by decide +kernel
def ZZ{a k:a9}(b:a.wf)(c:k.wf):fq (sZ a k)=(ame 6).filter λj=>(a.names++k.names).contains j:=by
 rw[Z0 _ (Mb b c),Ma b c];exact List.filter_congr λj d=>Ac _ j (amz.mp d)
def abe{a k:a9}(b:Good a)(c:Good k):mE [iB a k]=pure (.fr (((ame 6).filter λj=>(a.names++k.names).contains j).map ba)):=by
 have m:=abd b c;have e:=EH (Mb b.1 c.1);rw[ZZ b.1 c.1]at e;have aW:b0 (iB a k)=.v (iB a k):=rfl;simp only[mE,I5];simp[aW,m,e]
end dI
namespace dI
open PySem PySem.Spec aA aC fX iN i7
abbrev dU:=Int×Int
abbrev dD(s:dU):D:=.t [.int s.1,.int s.2]
structure fe where
 k:Nat
 s:dU
 w:D
abbrev dP(g:fe):D:=.t [ba g.k,dD g.s,g.w]
def V_(ps:List fe)(h:∀p∈ps,p.k<6)(hl:ps.length<=1000):o2 [.l (ps.map dP)]=pure (.v (ba (maskOf (ps.map (·.k))))):=by
 have c:gn eM (ae aG (I 0) (af (.int 0))) [.e] (ps.map dP)=pure (ps.map (ba∘λp=>p.k)):=rh dP _ ps λp _=>by simp[dP]
 have z:ps.length<alP:=fU (by omega);have m:=wN (ps.map (·.k)) (λk b=>by obtain⟨p,a,rfl⟩:=amd.mp b;have:=h p a;omega);rw[anM]at m;simp only[o2,Ii];simp[c,z,m]
def L_(s t:dU):oEq (.v (dD s)) (.v (dD t))=pure (.v (.ax (decide (s=t)))):=by
 rw[rq (x:=.v (dD s)) (y:=.v (dD t)) rfl rfl]
 congr 3
 obtain⟨a,b⟩:=s;obtain⟨c,d⟩:=t;rw[ano];simp[eo,R.arg,mL]
def acz(s t:dU):dX (.v (dD s)) (.v (dD t))=pure (.v (.ax (!decide (s=t)))):=by
 rw[sW (x:=.v (dD s)) (y:=.v (dD t)) rfl rfl]
 congr 4
 obtain⟨a,b⟩:=s;obtain⟨c,d⟩:=t;rw[ano];simp[eo,R.arg,mL]
def R5(ps:List fe)(a:fe)(hl:(a::ps).length<=1000):wx [.l ((a::ps).map dP)]=pure (.v (.ax ((a::ps).all λp=>decide (p.s=a.s)))):=by
 have c:gn eM (ae oEq (ae aG (I 0) (af (.int 1))) (ae aG (ae aG (I 1) (af (.int 0))) (af (.int 1)))) [.e,.b4 ((a::ps).map dP)] ((a::ps).map dP)=pure ((a::ps).map λp=>D.ax (decide (p.s=a.s))):=
  rh dP _ _ λp _=>by
   have e:=L_ p.s a.s;simp[dP,e]
 have z:(a::ps).length<alP:=fU (by omega);have b:=yw (λp:fe=>decide (p.s=a.s)) (a::ps);generalize d:a::ps=o at *;simp only[wx,H2];simp[c,z,b]
def yk(s t:dU):Bool:=decide (t.1<s.1)||decide (s.1=t.1)&&decide (t.2<s.2)
def aaB(s t:dU):qn [s.1,s.2] [t.1,t.2]=yk s t:=by
 unfold qn yk;rw[Ov,Ov]
 by_cases bq:s.1=t.1
 .rw[if_pos bq,bq]
  by_cases bO:s.2=t.2
  .rw[if_pos bO,bO]
   simp[ig]
  .rw[if_neg bO];simp
 .rw[if_neg bq]
  simp[bq]
def wU(b p:fe):fe:=if yk p.s b.s=true then p else b
def jB(p:fe)(ps:List fe):fe:=ps.foldl wU p
abbrev kb:bj:=fnOf 1 1 (a0 (ae aG (I 0) (af (.int 1))))
def N2(p:fe):mw kb (dP p)=some [p.s.1,p.s.2]:=by
 have e:kb [dP p]=pure (.v (dD p.s)):=by simp[kb,dP]
 unfold mw;rw[e];rfl
theorem Fj:∀(ps:List fe)(b:fe),kd kb (dP b) [b.s.1,b.s.2] (ps.map dP)=some (dP (jB b ps))
 |[],b=>rfl|p::ps,b=>by
  rw[alZ];unfold jB;rw[List.foldl_cons];show(match mw kb (dP p)with|some eK=>if qn eK [b.s.1,b.s.2]=true then kd kb (dP p) eK (ps.map dP)else kd kb (dP b) [b.s.1,b.s.2] (ps.map dP)|none=>none)=_;rw[N2];show(if qn [p.s.1,p.s.2] [b.s.1,b.s.2]=true then kd kb (dP p) [p.s.1,p.s.2] (ps.map dP)else kd kb (dP b) [b.s.1,b.s.2] (ps.map dP))=_;rw[aaB];unfold wU
  by_cases q:yk p.s b.s=true
  .rw[if_pos q,if_pos q];exact Fj ps p
  .rw[if_neg q,if_neg q];exact Fj ps b
def zd(op:D)(g:fe):D:=.t [dD g.s,if g.s=(0,0)then op else g.w]
def YE(p:fe)(ps:List fe)(op:D)(c:b0 op=.v op)(hl:(p::ps).length<64):zY [.l ((p::ps).map dP),op]=pure (.v (zd op (jB p ps))):=by
 have e:wO kb ((p::ps).map dP)=some (dP (jB p ps)):=by
  rw[alZ];show(match mw kb (dP p)with|some k=>kd kb (dP p) k (ps.map dP)|none=>none)=_;rw[N2];exact Fj ps p
 generalize jB p ps=b at *;generalize p::ps=o at *;have a:=L_ b.s (0,0);have z:(o.map dP).length<64:=by rw[alM];exact hl
 have d:yT kb (.b4 (o.map dP))=pure (.v (dP b)):=by
  unfold yT;show(match wO kb (o.map dP)with|some r=>if(o.map dP).length<64 then(pure (R.v r):M R)else bad|none=>bad)=_;rw[e];dsimp only;rw[if_pos z]
 unfold zd;simp only[zY,Cs,Im,Io]
 by_cases q:b.s=(0,0)
 .rw[q]at a
  simp at a;simp[c,d,dP,q,a]
 .simp[q]at a
  simp[c,d,dP,q,a]
end dI
namespace dI
open PySem PySem.Spec aA aC
def h5{n N:Nat}{b:aL}{ds:List D}(h:ds.length=n)(e:b (ds.map b0++amm (N-n) .e)=pure (.cp (.v d))):fnOf n N b ds=pure (.v d):=by
 rw[yO,if_pos h,e];rfl
def ph{a b:aL}(e:a U=pure (.bu U')):bE a b U=b U':=by rw[bE,e];rfl
def Gl{a b:aL}{r:R}(e:a U=pure (.cp r)):bE a b U=pure (.cp r):=by rw[bE,e];rfl
def tm{t:aK->M Bool}{a b:aL}(e:t U=pure true):b7 t a b U=a U:=by rw[b7,e];rfl
def oN{t:aK->M Bool}{a b:aL}(e:t U=pure false):b7 t a b U=b U:=by rw[b7,e];rfl
def adv{a b:aK->M Bool}(h:a U=pure true):f_ a b U=pure true:=by show(a U >>= _)=_;rw[h];rfl
def w_{a b:aK->M Bool}(h:a U=pure false):f_ a b U=b U:=by show(a U >>= _)=_;rw[h];rfl
def Ai{a:aK->M Bool}(h:a U=pure true):ef a U=pure false:=by show(a U >>= _)=_;rw[h];rfl
def iR{m:bt}(h:m U=pure (.v (.ax b))):aU m U=pure b:=by show(m U >>= _)=_;rw[h];rfl
def Hy{a b:aK->M Bool}(h:a U=pure true):g6 a b U=b U:=by show(a U >>= _)=_;rw[h];rfl
def R9{a b:aK->M Bool}(h:a U=pure false):g6 a b U=pure false:=by show(a U >>= _)=_;rw[h];rfl
def fj{f:R->R->M R}{a b:bt}{r:M R}(e:f x y=r)(av:a U=pure x)(aE:b U=pure y):ae f a b U=r:=by
 show(a U >>= _)=_;rw[av];show(b U >>= _)=_;rw[aE];exact e
def kn{m:bt}{U:aK}(e:m U=pure (.v d)):b8 i m U=pure (.bu (U.set i (.v d))):=by show(m U >>= _)=_;rw[e];rfl
def jl{m:bt}(e:m U=pure (.v d)):a0 m U=pure (.cp (.v d)):=by show(m U >>= _)=_;rw[e];rfl
def call_of{mf:bj}{ms:c0}{rs:List R}{r:M R}(av:ms U=pure rs)(e:mf (rs.map R.arg)=r):bh mf ms U=r:=by show(ms U >>= _)=_;rw[av];exact e
def nk{f:List R->M R}{ms:c0}{r:M R}(e:f rs=r)(av:ms U=pure rs):cA f ms U=r:=by show(ms U >>= _)=_;rw[av];exact e
def cons_of{m:bt}{ms:c0}(e:m U=pure x)(av:ms U=pure xs):aa m ms U=pure (x::xs):=by show(m U >>= _)=_;rw[e];show(ms U >>= _)=_;rw[av];rfl
def afJ{m:bt}{U:aK}{r:R}(e:m U=pure r)(h:r.dat=pure d):b8 i m U=pure (.bu (U.set i (.v d))):=by show(m U >>= _)=_;rw[e];show(r.dat >>= _)=_;rw[h];rfl
def CM{xs ys:List D}(h:xs.length+ys.length<=alP):o' (.fr xs) (.fr ys)=pure (.fr (xs++ys)):=if_pos h
def adX{U:aK}:nq i (dW ai) U=pure (.bu (U.set i (.en false []))):=rfl
def Mp{it:fH}{U U':aK}(av:it U=pure ds)(e:kD (λd U=>b (U.set i (.v d))) ds U=pure (.bu U')):ky i it b U=pure (.bu U'):=by
 show(it U >>= _)=_;rw[av];exact e
def sk{a b:bt}(av:a U=pure (.v x))(aE:b U=pure (.v y)):bL (aa a (aa b ai)) U=pure (.v (.t [x,y])):=by
 show(aa a (aa b ai) U >>= _)=_;rw[cons_of av (cons_of aE rfl)];rfl
def yJ{it:fH}{ds xs:List D}(av:it U=pure ds)(z:ds.length<alP)(e:gn t el (hL n cap U) ds=pure xs):eA n cap it t el U=pure (.fr xs):=by
 show(it U >>= _)=_;rw[av];show(hK (ds.length<alP) >>= _)=_;unfold hK;rw[if_pos z];show(gn t el (hL n cap U) ds >>= _)=_;rw[e];rfl
def UK(e:m=pure (.v d)):(m >>= R.dat)=pure d:=by rw[e];rfl
def Dt{n N:Nat}{b:aL}{ds xs:List D}(h:ds.length=n)(e:b (ds.map b0++amm (N-n) .e)=pure (.cp (.fr xs))):fnOf n N b ds=pure (.fr xs):=by
 rw[yO,if_pos h,e];rfl
def wR{a b:Int}(h:0<b):oMod (.v (.int a)) (.v (.int b))=pure (.v (.int (a % b))):=if_pos h
def Df{a b:Int}:oEq (.v (.int a)) (.v (.int b))=pure (.v (.ax (decide (a=b)))):=rfl
def ak0{i:Int}{v:D}(e:d1 xs i=some v):aG (.v (.l xs)) (.v (.int i))=pure (.v v):=by
 show(match d1 xs i with|some d=>pure (R.v d)|none=>bad)=_;rw[e]
def ZI{i:Int}{v:D}(e:d1 xs i=some v):aG (.fr xs) (.v (.int i))=pure (.v v):=by
 show(match d1 xs i with|some d=>pure (R.v d)|none=>bad)=_;rw[e]
def OB{ms:c0}{ds:List D}(e:ms U=pure rs)(h:kz rs=pure ds)(z:ds.length<=1000):dW ms U=pure (.fr ds):=by
 show(ms U >>= _)=_;rw[e];show(kz rs >>= _)=_;rw[h];show(hK (ds.length<=1000) >>= _)=_;unfold hK;rw[if_pos z];rfl
def abl{a b:Int}(h:iJ a b):nT (.v (.int a)) (.v (.int b))=pure (.v (.int (a*b))):=if_pos h
def aF{α:Type}(S:bI)(m:M α)(a:α):Prop:=m.run S=.ok a S
def bQ{α:Type}(S:bI)(m:N α)(a:α)(b:bI):Prop:=m.run S=.ok a b
section
variable{α β:Type}{S S1 aY:bI}{U U':aK}
def aF.of(h:m=pure a):aF S m a:=by rw[h];rfl
theorem aF.bind{f:α->M β}(h:aF S m a)(d:aF S (f a) b):aF S (m >>= f) b:=by
 show(match m.run S with|.ok a S1=>(f a).run S1|.exc c S1=>.exc c S1|.bad=>.bad)=_;rw[show m.run S=.ok a S from h];exact d
def bQ.bind{f:α->N β}(h:bQ S m a S1)(d:bQ S1 (f a) b aY):bQ S (m >>= f) b aY:=by
 show(match m.run S with|.ok a S1=>(f a).run S1|.exc c S1=>.exc c S1|.bad=>.bad)=_;rw[show m.run S=.ok a S1 from h];exact d
def aF.to{m:M α}(h:aF S m a):bQ S m.up a S:=h
def EC{p:Prop}[Decidable p](h:p):aF S (hK p) ():=.of (if_pos h)
def cL{f:R->R->M R}{a b:bt}{x y r:R}(e:f x y=pure r)(c:aF S (a U) x)(d:aF S (b U) y):aF S (ae f a b U) r:=c.bind (d.bind (.of e))
def cI:aF S (ai U) []:=.of rfl
def bT{m:bt}{ms:c0}(h:aF S (m U) x)(a:aF S (ms U) xs):aF S (aa m ms U) (x::xs):=h.bind (a.bind (.of rfl))
def eJ{mf:bj}{ms:c0}{rs:List R}{r:R}(h:aF S (ms U) rs)(e:aF S (mf (rs.map R.arg)) r):aF S (bh mf ms U) r:=h.bind e
def v'{f:List R->M R}{ms:c0}{r:R}(e:f rs=pure r)(h:aF S (ms U) rs):aF S (cA f ms U) r:=h.bind (.of e)
def oT{ms:c0}{ds:List D}(h:aF S (ms U) rs)(e:kz rs=pure ds)(z:ds.length<=1000):aF S (bL ms U) (.v (.t ds)):=h.bind ((aF.of e).bind ((EC z).bind (.of rfl)))
def cH{m:bt}(h:aF S (m U) (.v (.ax b))):aF S (aU m U) b:=h.bind (.of rfl)
def EF{a b:aK->M Bool}(h:aF S (a U) true):aF S (f_ a b U) true:=h.bind (.of rfl)
def nI{a b:aK->M Bool}(h:aF S (a U) false)(c:aF S (b U) x):aF S (f_ a b U) x:=h.bind c
def jd{a b:aK->M Bool}(h:aF S (a U) true)(c:aF S (b U) x):aF S (g6 a b U) x:=h.bind c
def oR{a b:aK->M Bool}(h:aF S (a U) false):aF S (g6 a b U) false:=h.bind (.of rfl)
def je{a:aK->M Bool}(h:aF S (a U) x):aF S (ef a U) (!x):=h.bind (.of rfl)
def ED{it:fH}{ds xs:List D}(h:aF S (it U) ds)(z:ds.length<alP)(e:aF S (gn t el (hL n cap U) ds) xs):aF S (eA n cap it t el U) (.fr xs):=h.bind ((EC z).bind (e.bind (.of rfl)))
theorem zC{α:Type}{el:bt}(g:α->D)(f:α->D):∀as:List α,(∀a∈as,aF S (el (U.set 0 (.v (g a)))) (.v (f a)))->aF S (gn eM el U (as.map g)) (as.map f)
 |[],_=>.of rfl|a::as,h=>(aF.of (S:=S) (m:=(pure true:M Bool)) rfl).bind ((h a (al2 ..)).bind ((aF.of (m:=R.dat (.v (f a))) rfl).bind ((zC g f as λx b=>h x (alW _ b)).bind (.of rfl))))
def NV{m:bt}{r:R}(h:aF S (m U) r)(e:r.ft=some ds):aF S (nF m U) ds:=h.bind (by rw[e];exact .of rfl)
def i0{m:bt}{r:R}(h:aF S (m U) r)(e:r.dat=pure d):aF S (b8 i m U) (.bu (U.set i (.v d))):=h.bind ((aF.of e).bind (.of rfl))
def iD{m:bt}(h:aF S (m U) (.v d)):aF S (a0 m U) (.cp (.v d)):=h.bind (.of rfl)
def tu{m:bt}(h:aF S (m U) (.fr xs)):aF S (a0 m U) (.cp (.fr xs)):=h.bind (.of rfl)
def qj{t:aK->M Bool}{a b:aL}(h:aF S (t U) true)(c:aF S (a U) o):aF S (b7 t a b U) o:=h.bind c
def qi{t:aK->M Bool}{a b:aL}(h:aF S (t U) false)(c:aF S (b U) o):aF S (b7 t a b U) o:=h.bind c
def ql{a b:aL}(h:aF S (a U) (.bu U'))(c:aF S (b U') o):aF S (bE a b U) o:=h.bind c
def zD{a b:aL}{r:R}(h:aF S (a U) (.cp r)):aF S (bE a b U) (.cp r):=h.bind (.of rfl)
def jO{n N:Nat}{b:aL}{ds:List D}(h:ds.length=n)(e:aF S (b (ds.map b0++amm (N-n) .e)) (.cp (.v d))):aF S (fnOf n N b ds) (.v d):=by
 rw[yO,if_pos h];exact e.bind (.of rfl)
def oS(h:S[i]? = some o):aF S (hU (.v (.ref i))) o:=(show aF S MC S from rfl).bind (by rw[h];exact .of rfl)
def nH{m:bt}(h:S[i]? = some (.l xs))(a:aF S (m U) (.v (.ref i))):aF S (gS m U) (.mv xs):=a.bind ((oS h).bind (.of rfl))
def f5{mf:bj}{mo:bt}{ms:c0}{aS:List (Str×D)}{rs:List R}{r:R}(h:S[i]? = some (.a8 c aS))(a:aF S (mo U) (.v (.ref i)))(d:aS.lookup m=none)(b:aF S (ms U) rs)(e:aF S (mf (.ref i::rs.map R.arg)) r):aF S (cP c m mf mo ms U) r:=a.bind ((oS h).bind (by show aF S (if c=c/\aS.lookup m=none then _ else _) _;rw[if_pos ⟨rfl,d⟩];exact b.bind e))
def NU{m:bt}{aS:List (Str×D)}(h:S[i]? = some (.a8 c aS))(a:aF S (m U) (.v (.ref i)))(e:aS.lookup f=some d):aF S (bf (bU c f) m U) (.v d):=a.bind ((oS h).bind (by show aF S (if c=c then _ else _) _;rw[if_pos rfl,e];exact .of rfl))
def dO{a b:bX}(h:bQ S (a U) (.bu U') S1)(c:bQ S1 (b U') o aY):bQ S (bw a b U) o aY:=h.bind c
def Bo{a b:bX}{r:R}(h:bQ S (a U) (.cp r) S1):bQ S (bw a b U) (.cp r) S1:=h.bind rfl
def xO{t:aK->N Bool}{a b:bX}(h:bQ S (t U) true S1)(c:bQ S1 (a U) o aY):bQ S (fO t a b U) o aY:=h.bind c
def Bm{t:aK->N Bool}{a b:bX}(h:bQ S (t U) false S1)(c:bQ S1 (b U) o aY):bQ S (fO t a b U) o aY:=h.bind c
def Rf{t:aK->N Bool}{a b:bX}(h:bQ S (t U) false S1)(c:bQ S1 (b U) o aY):bQ S (bw (fO t a (b5 bS)) b U) o aY:=dO (Bm h rfl) c
def xR{t:aK->M Bool}{b:bX}(h:aF S (t U) false)(c:bQ S (b U) o aY):bQ S (bw (b5 (b7 t a bS)) b U) o aY:=dO (qi h (.of rfl)).to c
def xQ{m:eD}(h:bQ S (m U) (.fr xs) S1):bQ S (jX m U) (.cp (.fr xs)) S1:=h.bind rfl
def l0{m:eD}{r:R}(h:bQ S (m U) r S1):bQ S (fN m U) (.bu U) S1:=h.bind rfl
def sy{m:eD}{r:R}(h:bQ S (m U) r S1)(e:r.dat=pure d):bQ S (n8 i m U) (.bu (U.set i (.v d))) S1:=h.bind ((aF.of e).to.bind rfl)
def x_call{mf:dV}{ms:c0}{rs:List R}{r:R}(h:aF S (ms U) rs)(hs:rs.all R.hu=true)(e:bQ S (mf (rs.map R.arg)) r S1):bQ S (n6 mf (dR ms) U) r S1:=(aF.to h).bind (by rw[if_pos hs];exact e)
def k7{mf:dV}{mo:bt}{ms:hG}{aS:List (Str×D)}{rs:List R}{r:R}(h:S[i]? = some (.a8 c aS))(a:aF S (mo U) (.v (.ref i)))(d:aS.lookup m=none)(b:bQ S (ms U) rs S)(hs:rs.all R.hu=true)(e:bQ S (mf (.ref i::rs.map R.arg)) r S1):bQ S (dS c m mf mo ms U) r S1:=a.to.bind ((oS h).to.bind (by show bQ S (if c=c/\aS.lookup m=none then _ else _) _ _;rw[if_pos ⟨rfl,d⟩];exact b.bind (by rw[if_pos hs];exact e)))
def xP{mf:dV}{ms:c0}{rs:List R}(h:aF S (ms U) rs)(hs:rs.all R.hu=true)(e:bQ (S++[.a8 c []]) (mf (.ref S.length::rs.map R.arg)) (.v .aH) S1):bQ S (lY c mf (dR ms) U) (.v (.ref S.length)) S1:=(aF.to h).bind (by
 rw[if_pos hs];exact bQ.bind (m:=y5) (a:=S) (S1:=S) rfl (bQ.bind (m:=putN _) (a:=()) (S1:=S++[gc.a8 c []]) rfl (bQ.bind e rfl)))
def GZ{n N:Nat}{b:bX}{ds:List D}(h:ds.length=n)(e:bQ S (b (ds.map b0++amm (N-n) .e)) (.cp (.v d)) S1):bQ S (fnX n N b ds) (.v d) S1:=by
 unfold fnX;rw[if_pos h];exact e.bind rfl
def uS{n N:Nat}{b:bX}{ds xs:List D}(h:ds.length=n)(e:bQ S (b (ds.map b0++amm (N-n) .e)) (.cp (.fr xs)) S1):bQ S (fnX n N b ds) (.fr xs) S1:=by
 unfold fnX;rw[if_pos h];exact e.bind rfl
def Bk{n N:Nat}{b:bX}{ds:List D}(h:ds.length=n)(e:bQ S (b (ds.map b0++amm (N-n) .e)) (.bu U') S1):bQ S (fnX n N b ds) (.v .aH) S1:=by
 unfold fnX;rw[if_pos h];exact e.bind rfl
def x_at{mo:bt}{mv:eD}{aS:List (Str×D)}{r:R}(b:bQ S (mv U) r S1)(e:r.dat=pure d)(a:aF S1 (mo U) (.v (.ref i)))(h:S1[i]? = some (.a8 c aS))(hl:aS.length<1000):bQ S (dN c f mo mv U) (.bu U) (S1.set i (.a8 c (ij f d aS))):=b.bind ((aF.of e).to.bind (a.to.bind ((oS h).to.bind (by
 show bQ S1 (if c=c/\aS.length<1000 then _ else _) _ _;rw[if_pos ⟨rfl,hl⟩];rfl))))
def GY{mo:bt}{ms:c0}{xs:List D}(b:aF S (mo U) (.v (.ref i)))(c:aF S (ms U) [.v d])(h:S[i]? = some (.l xs))(z:xs.length<alP):bQ S (n7 k2 mo ms U) (.bu U) (S.set i (.l (xs++[d]))):=b.to.bind (c.to.bind ((oS h).to.bind ((aF.to (a:=(R.v .aH,xs++[d])) (.of (by show(hK (xs.length<alP) >>= _)=_;rw[JM z];rfl))).bind rfl)))
def Rd:bQ S (lZ (dy (dW ai)) U) (.v (.ref S.length)) (S++[.l []]):=rfl
def Bl{it:fH}(h:aF S (it U) ds)(e:bQ S (k6 (λd U=>b (U.set i (.v d))) ds U) o S1):bQ S (qQ i it b U) o S1:=(aF.to h).bind e
def Rc{b:D->bX}(h:bQ S (b d U) (.bu U') S1)(a:bQ S1 (k6 b ds U') o aY):bQ S (k6 b (d::ds) U) o aY:=h.bind a
def Fr(W:List Nat)(S a:bI):Prop:=∀j o,j∉W->S[j]? = some o->a[j]? = some o
def Fr.set(h:i∈W):Fr W S (S.set i o):=λj b a e=>by
 rw[alU (λq:i=j=>a (q▸h))];exact e
def Fr.app:Fr W S (S++l):=λj o _ e=>by
 rw[al8 (alK.mp e).1];exact e
def Fr.refl:Fr W S S:=λ_ _ _ e=>e
def Fr.trans(h:Fr W S S1)(b:Fr W S1 aY):Fr W S aY:=λj o a e=>b j o a (h j o a e)
def get_set(h:S[i]? = some o):(S.set i C)[i]? = some C:=by
 rw[al9 (alK.mp h).1]
def DE:(S++[o])[S.length]? = some o:=by rw[al6 (alQ _),an4];rfl
end
end dI
namespace dI
open PySem PySem.Spec aA aC iN fX i7
section
variable{t:aK->M Bool}{a b:aL}{U U':aK}{r:R}
def fR{p:Prop}[Decidable p](h:p):(pure (decide p):M Bool)=pure true:=by rw[decide_eq_true h]
def hM{p:Prop}[Decidable p](h:¬p):(pure (decide p):M Bool)=pure false:=by rw[decide_eq_false h]
def fD(e:t U=pure false)(h:b U=q):bE (b7 t a bS) b U=q:=(ph (oN e)).trans h
def st(e:t U=pure true)(h:a U=pure (.cp r)):bE (b7 t a bS) b U=pure (.cp r):=Gl ((tm e).trans h)
def cR(e:a U=pure (.bu U'))(h:b U'=q):bE a b U=q:=(ph e).trans h
def s6{α c:Type}{P:α->Prop}{A B:c}{f:α->c}(e:A=B)(h:∃x,B=f x/\P x):∃x,A=f x/\P x:=e▸h
def and_1{x y:bt}(e:x U=pure (.v (.ax true))):j4 x y U=y U:=by show(x U >>= _)=_;rw[e];rfl
def wd{l:List Nat}(h:l.length<=1000):nx [.v (.str (a7 l))]=pure (.v (.int (l.length:Nat))):=by
 show(if(a7 l).length<=alP then pure (R.v (.int ((a7 l).length:Nat)))else bad)=_;rw[if_pos (by rw[pA,ama];omega),pA]
def yG{x y:List Nat}(h:x.length+y.length<=1000):pa (.v (.str (a7 x))) (.v (.str (a7 y)))=pure (.v (.str (a7 (x++y)))):=by
 show(if(a7 x).length+(a7 y).length<=alP then pure (R.v (.str (a7 x++a7 y)))else bad)=_;rw[if_pos (by rw[pA,pA,ama];omega),ag6]
def afj{m:bt}(e:m U=pure (.fr xs)):a0 m U=pure (.cp (.fr xs)):=by show(m U >>= _)=_;rw[e];rfl
end
structure bG where
 me:Int
 cm:Int
 h:D
 op:D
 bK:Bool
 dg:Int
 st:dU
 wi:Int
 dz:D
 bP:Str
 cS:D
 bM:List fe
 nJ:Nat
 dE:D
def bG.aS(a:bG)(g:Nat):List (Str×D):=[("me",.int a.me),("epoch",.int a.cm),("hall",a.h),("opening",a.op),("over_known",.ax a.bK),("greatest_round",.int a.dg),("last_stamp",dD a.st),("wishes",.int a.wi),("deed",a.dz),("standing",.str a.bP),("last_outcome",a.cS),("grants",.ref g),("kept_mask",ba a.nJ),("told_slate",a.dE)]
def ku(me cm:Int)(s:dU)(k:Nat):D:=.t [.str "ask",.int me,ba k,.int cm,dD s,.t []]
def qH(me cm:Int)(s:dU)(l:D)(k:Nat):D:=.t [.str "tell",.int me,ba k,.int cm,dD s,l]
def CC:D:=.t [.t [],.t [],.t [.int 0,.aH],.aH]
def t8(me:Int)(h:D):bG:=⟨me,0,h,CC,false,0,(0,0),0,.aH,"calm",.aH,[],0,.aH⟩
structure dt(S:bI)(i g:Nat)(a:bG):Prop where
 a8:S[i]? = some (.a8 "Asker" (a.aS g))
 ls:S[g]? = some (.l (a.bM.map dP))
structure ej(S aq:bI)(i g g':Nat)(b:bG):Prop where
 at':dt aq i g' b
 fr:Fr [i,g] S aq
 nw:g'=g\/S.length<=g'
 len:S.length<=aq.length
def dT(S:bI)(i g:Nat)(m:N fG)(b:fG)(c:bG):Prop:=∃a g',bQ S m b a/\ej S a i g g' c
def bG.Do(a:bG)(mf:dV)(ds ys:List D)(b:bG):Prop:=∀(S:bI)(i g:Nat),dt S i g a->∃c g',bQ S (mf (.ref i::ds)) (.fr ys) c/\ej S c i g g' b
section
variable{S S1 aY:bI}{U U':aK}{i g g1 g2 k:Nat}{a b c:bG}{f:Str}{d:D}{mv:bt}{r:R}{bd:bX}{aJ:fG}
def kS(h:S[i]? = some o):i<S.length:=(alK.mp h).1
def dt.ne(h:dt S i g a):i≠g:=λe=>by have:=h.a8;rw[e,h.ls]at this;cases this
def ej.refl(h:dt S i g a):ej S S i g g a:=⟨h,.refl,.inl rfl,alQ _⟩
def ej.trans(h:ej S S1 i g g1 b)(m:ej S1 aY i g1 g2 c):ej S aY i g g2 c:=by
 refine⟨m.at',λj o l e=>m.fr j o ?_ (h.fr j o l e),?_,amq h.len m.len⟩
 .have:=kS e
  simp only[alY,amw,or_false,not_or]at l ⊢;rcases h.nw with q|q
  .rw[q];exact l
  .exact⟨l.1,by omega⟩
 .rcases m.nw with q|q
  .rw[q];exact h.nw
  .exact .inr (amq h.len q)
def c3(h:dt S i g a)(j:I k U=pure (.v (.ref i)))(e:(a.aS g).lookup f=some d):aF S (bf (bU "Asker" f) (I k) U) (.v d):=NU h.a8 (.of j) e
def EM:(a.aS g).length<1000:=by show 14<1000;omega
theorem iW(h:dt S i g a)(b:bG)(l:I k U=pure (.v (.ref i)))(m:aF S (mv U) r)(p:r.dat=pure d)(e:ij f d (a.aS g)=b.aS g)(n:b.bM=a.bM)(q:∀S1,dt S1 i g b->dT S1 i g (bd U) aJ c):dT S i g (bw (dN "Asker" f (I k) (dy mv)) bd U) aJ c:=by
 have j:dt (S.set i (.a8 "Asker" (ij f d (a.aS g)))) i g b:=⟨by rw[get_set h.a8,e],by rw[alU h.ne,n];exact h.ls⟩;obtain⟨aY,g2,t,s⟩:=q _ j;exact⟨aY,g2,dO (x_at m.to p (.of l) h.a8 EM) t,ej.trans ⟨j,.set (by simp),.inl rfl,by rw[amr];exact alQ _⟩ s⟩
theorem V3(h:dt S i g a)(b:bG)(p:I k U=pure (.v (.ref i)))(e:∀n,ij ("grants":Str) (D.ref n) (a.aS g)=b.aS n)(u:b.bM=[])(q:∀S1 g1,dt S1 i g1 b->dT S1 i g1 (bd U) aJ c):dT S i g (bw (dN "Asker" "grants" (I k) (lZ (dy (dW ai)))) bd U) aJ c:=by
 have m:(S++[gc.l []])[i]? = some (.a8 "Asker" (a.aS g)):=Fr.app (W:=[]) _ _ (amw) h.a8;have j:dt ((S++[gc.l []]).set i (.a8 "Asker" (ij ("grants":Str) (D.ref S.length) (a.aS g)))) i S.length b:=⟨by rw[get_set m,e],by rw[alU (amo (kS h.a8)),DE,u];rfl⟩;obtain⟨aY,g2,t,s⟩:=q _ _ j;exact⟨aY,g2,dO (x_at Rd rfl (.of p) m EM) t,ej.trans ⟨j,Fr.app.trans (.set (by simp)),.inr (alQ _),by rw[amr,alN];omega⟩ s⟩
theorem MG{ms:c0}(h:dt S i g a)(b:bG)(m:I k U=pure (.v (.ref i)))(n:aF S (ms U) [.v (dP x)])(e:b.aS g=a.aS g)(p:b.bM=a.bM++[x])(z:a.bM.length<1000)(q:∀S1,dt S1 i g b->dT S1 i g (bd U) aJ c):dT S i g (bw (n7 k2 (bf (bU "Asker" "grants") (I k)) ms) bd U) aJ c:=by
 have j:dt (S.set g (.l (a.bM.map dP++[dP x]))) i g b:=⟨by rw[alU h.ne.symm,e];exact h.a8,by rw[get_set h.ls,p,ane];rfl⟩;obtain⟨aY,g2,t,s⟩:=q _ j;exact⟨aY,g2,dO (GY (c3 h m rfl) n h.ls (by rw[alM];exact fU (by omega))) t,ej.trans ⟨j,.set (by simp),.inl rfl,by rw[amr];exact alQ _⟩ s⟩
def B0(h:dt S i g a)(e:I k U=pure (.v (.ref i))):aF S (gS (bf (bU "Asker" "grants") (I k)) U) (.mv (a.bM.map dP)):=nH h.ls (c3 h e rfl)
def nA{m:aL}(h:dt S i g a)(e:aF S (m U) aJ):dT S i g (b5 m U) aJ a:=⟨S,g,e,.refl h⟩
theorem hP{t:aK->M Bool}(e:aF S (t U) false)(q:dT S i g (bd U) aJ c):dT S i g (bw (b5 (b7 t m bS)) bd U) aJ c:=by
 obtain⟨aY,g2,t,s⟩:=q;exact⟨aY,g2,xR e t,s⟩
theorem lD{t:aK->M Bool}(e:aF S (t U) false)(q:dT S i g (bd U) aJ c):dT S i g (bw (fO (fW t) m (b5 bS)) bd U) aJ c:=by
 obtain⟨aY,g2,t,s⟩:=q;exact⟨aY,g2,Rf e t,s⟩
def rD{t:aK->M Bool}{m:aL}{r:R}(h:dt S i g a)(e:aF S (t U) true)(aE:aF S (m U) (.cp r)):dT S i g (bw (b5 (b7 t m bS)) bd U) (.cp r) a:=⟨S,g,Bo (qj e aE).to,.refl h⟩
theorem vD{t:aK->M Bool}{m:bX}{r:R}(e:aF S (t U) true)(q:dT S i g (m U) (.cp r) c):dT S i g (bw (fO (fW t) m (b5 bS)) bd U) (.cp r) c:=by
 obtain⟨aY,g2,t,s⟩:=q;exact⟨aY,g2,Bo (xO e t),s⟩
theorem y6{m:aL}(e:aF S (m U) (.bu U'))(q:dT S i g (bd U') aJ c):dT S i g (bw (b5 m) bd U) aJ c:=by
 obtain⟨aY,g2,t,s⟩:=q;exact⟨aY,g2,dO (aF.to e) t,s⟩
theorem rC{ms:hG}{rs:List R}(h:dt S i g a)(q:a.Do mf (rs.map R.arg) ys c)(j:I k U=pure (.v (.ref i)))(l:(a.aS g).lookup m=none)(e:bQ S (ms U) rs S)(hs:rs.all R.hu=true):dT S i g (jX (dS "Asker" m mf (I k) ms) U) (.cp (.fr ys)) c:=by
 obtain⟨aY,g2,t,s⟩:=q _ _ _ h;exact⟨aY,g2,xQ (k7 h.a8 (.of j) l e hs t),s⟩
theorem g_{n N:Nat}{bd:bX}{ds ys:List D}(h:ds.length+1=n)(q:∀S i g,dt S i g a->dT S i g (bd (.v (.ref i)::ds.map b0++amm (N-n) .e)) (.cp (.fr ys)) c):a.Do (fnX n N bd) ds ys c:=λS i g cD=>by
 obtain⟨aY,g2,t,s⟩:=q S i g cD;exact⟨aY,g2,uS h t,s⟩
end
def bG.asks(a:bG):bG:={ a with dg:=a.dg+1,st:=(a.dg+1,a.me),bP:="asking",bM:=[] }
def B6{a:bG}{ms:List Nat}(b:mE [a.h]=pure (.fr (ms.map ba)))(hl:ms.length<=6) :
  a.Do wk [] (ms.map (ku a.me a.cm (a.dg+1,a.me))) a.asks:=g_ rfl λS i g h=>
 iW h { a with dg:=a.dg+1 } rfl (cL rfl (c3 h rfl rfl) (.of rfl)) rfl rfl rfl λS h=>
 iW h { a with dg:=a.dg+1,st:=(a.dg+1,a.me) } rfl (oT (bT (c3 h rfl rfl) (bT (c3 h rfl rfl) cI)) rfl (amE rfl)) rfl rfl rfl λS h=>
 iW h { a with dg:=a.dg+1,st:=(a.dg+1,a.me),bP:="asking" } rfl (.of rfl) rfl rfl rfl λS h=>
 V3 h a.asks rfl (λ_=>rfl) rfl λS g h=>
 nA h (tu (ED (NV (eJ (bT (c3 h rfl rfl) cI) (.of b)) rfl) (by rw[alM];exact fU (by omega))
  (zC ba (ku a.me a.cm (a.dg+1,a.me)) ms λk _=>eJ (bT (c3 h rfl rfl) (bT (.of rfl) (bT (c3 h rfl rfl) (bT (c3 h rfl rfl) cI)))) (.of rfl))))
def Ra{S:bI}{mv:bt}{aS:List (Str×D)}{a:bX}(h:S[i]? = some (.a8 c aS))(e:mv U=pure (.v d))(b:I 0 U=pure (.v (.ref i)))(hl:aS.length<1000)(q:bQ (S.set i (.a8 c (ij f d aS))) (a U) o C):bQ S (bw (dN c f (I 0) (dy mv)) a U) o C:=dO (x_at (aF.of e).to rfl (.of b) h hl) q
def mz{n:Nat}(h:n.ble 999=true):n<1000:=Nat.lt_succ_of_le (amE h)
def Zt(S:bI)(me:Int)(h:D)(cD:b0 h=.v h):∃b,bQ (S++[.a8 "Asker" []]) (tD [.ref S.length,.int me,h]) (.v .aH) b/\dt b S.length (S.length+1) (t8 me h)/\b.length=S.length+2/\Fr [] S b:=by
 have ne:S.length+1≠S.length:=by omega
 have c:∀{o a:gc},(S++[o])++[a]=S++[o,a]:=λ{o a}=>by rw[aol];rfl
 have st:∀{o a:gc}{l:bI},(S++o::l).set S.length a=S++a::l:=λ{o a l}=>by rw[List.set_append_right _ _ (alQ _),an4];rfl
 have gt:∀{o:gc}{l:bI},(S++o::l)[S.length]? = some o:=λ{o l}=>by rw[al6 (alQ _),an4];rfl
 refine⟨S++[.a8 "Asker" ((t8 me h).aS (S.length+1)),.l []],Bk (U':=[.v (.ref S.length),.v (.int me),.v h]) rfl ?_,⟨gt,?_⟩,by rw[alN];rfl,.app⟩
 .show bQ _ (HN [.v (.ref S.length),.v (.int me),b0 h]) _ _
  rw[cD]
  repeat' (refine Ra gt (by rfl) rfl (mz rfl) ?_;rw[st])
  refine dO (x_at Rd rfl (.of rfl) (by rw[c];exact gt) (mz rfl)) ?_;rw[c,st,alN];refine Ra gt (by rfl) rfl (mz rfl) ?_;rw[st];have:=x_at (S:=S++[gc.a8 "Asker" [("me",D.int me),("epoch",.int 0),("hall",h),("opening",CC),("over_known",.ax false),("greatest_round",.int 0),("last_stamp",dD (0,0)),("wishes",.int 0),("deed",.aH),("standing",.str "calm"),("last_outcome",.aH),("grants",.ref (S.length+1)),("kept_mask",ba 0)],.l []]) (f:="told_slate") (mv:=dy (af .aH)) (U:=[.v (.ref S.length),.v (.int me),.v h]) (mo:=I 0) (i:=S.length) (d:=.aH) (r:=.v .aH) rfl rfl (.of rfl) gt (mz rfl);rw[st]at this;exact this
 .rw[al6 (by omega),Nat.add_sub_cancel_left];rfl
def jo(b:al5 x=true)(a:al5 y=true):oEq (.v (.str x)) (.v (.str y))=pure (.v (.ax (x==y))):=rq (x:=.v (.str x)) (y:=.v (.str y)) b a
def af3(b:al5 x=true)(a:al5 y=true):dX (.v (.str x)) (.v (.str y))=pure (.v (.ax (!(x==y)))):=sW (x:=.v (.str x)) (y:=.v (.str y)) b a
def Pe:al5 "calm"=true:=by decide +kernel
def Pd:al5 "asking"=true:=by decide +kernel
def Pg:al5 "telling"=true:=by decide +kernel
def w8:al5 "late"=true:=by decide +kernel
def bG.j2(a:bG):Prop:=a.bP="calm"\/a.bP="asking"\/a.bP="telling"
def uB{a:bG}(h:a.j2):al5 a.bP=true:=by rcases h with h|h|h<;>rw[h]<;>decide +kernel
def calm_eq{a:bG}(h:a.j2):oEq (.v (.str a.bP)) (.v (.str "calm"))=pure (.v (.ax (a.bP == "calm"))):=jo (uB h) Pe
def yF{a:bG}(h:a.j2):dX (.v (.str a.bP)) (.v (.str "calm"))=pure (.v (.ax (!(a.bP == "calm")))):=af3 (uB h) Pe
structure n_(h:D)(ms:List Nat)(fa fk:Nat->Bool):Prop where
 mem:mE [h]=pure (.fr (ms.map ba))
 len:ms.length<=6
 lt:∀k∈ms,k<6
 ne:ms≠[]
 ex:∃x y,h=.t [x,y]/\b0 x=.v x/\b0 y=.v y/\(∀m:Nat,ji 12 [x,ba m]=pure (.v (.ax (fa m))))/\∀m:Nat,ji 12 [y,ba m]=pure (.v (.ax (fk m)))
def bG.tells(a:bG)(t:D):bG:={ a with bP:="telling",nJ:=0,dE:=t }
def bG.ends(a:bG)(o:D):bG:={ a with bP:="calm",cS:=o }
def bG.u1(a:bG)(mf:dV)(ds:List D)(b:bG):Prop:=∀(S:bI)(i g:Nat),dt S i g a->∃c g',bQ S (mf (.ref i::ds)) (.v .aH) c/\ej S c i g g' b
section
variable{S S1 aY:bI}{U U':aK}{i g k:Nat}{a b c:bG}{f:Str}{d:D}{mv:bt}{r:R}{bd:bX}{aJ:fG}
def aeZ(h:dt S i g a)(b:bG)(j:I k U=pure (.v (.ref i)))(l:aF S (mv U) r)(n:r.dat=pure d)(e:ij f d (a.aS g)=b.aS g)(m:b.bM=a.bM):dT S i g (dN "Asker" f (I k) (dy mv) U) (.bu U) b:=
 ⟨_,g,x_at l.to n (.of j) h.a8 EM,⟨by rw[get_set h.a8,e],by rw[alU h.ne,m];exact h.ls⟩,.set (by simp),.inl rfl,by rw[amr];exact alQ _⟩
theorem tb{t:aK->M Bool}{m n:bX}(e:aF S (t U) true)(q:dT S i g (m U) aJ c):dT S i g (fO (fW t) m n U) aJ c:=by
 obtain⟨aY,h,t,s⟩:=q;exact⟨aY,h,xO (aF.to e) t,s⟩
theorem qb{t:aK->M Bool}{m n:bX}(e:aF S (t U) false)(q:dT S i g (n U) aJ c):dT S i g (fO (fW t) m n U) aJ c:=by
 obtain⟨aY,h,t,s⟩:=q;exact⟨aY,h,Bm (aF.to e) t,s⟩
theorem sU{ms:hG}{rs:List R}(h:dt S i g a)(q:a.u1 mf (rs.map R.arg) c)(j:I k U=pure (.v (.ref i)))(l:(a.aS g).lookup m=none)(e:bQ S (ms U) rs S)(hs:rs.all R.hu=true):dT S i g (fN (dS "Asker" m mf (I k) ms) U) (.bu U) c:=by
 obtain⟨aY,n,t,s⟩:=q _ _ _ h;exact⟨aY,n,l0 (k7 h.a8 (.of j) l e hs t),s⟩
theorem DJ{m:bX}(q:dT S i g (m U) (.bu U') b)(p:∀S1 e,dt S1 i e b->dT S1 i e (bd U') aJ c):dT S i g (bw m bd U) aJ c:=by
 obtain⟨S1,e,n,h⟩:=q;obtain⟨aY,l,j,s2⟩:=p S1 e h.at';exact⟨aY,l,dO n j,h.trans s2⟩
theorem C7{n N:Nat}{bd:bX}{ds:List D}(h:ds.length+1=n)(q:∀S i g,dt S i g a->∃U',dT S i g (bd (.v (.ref i)::ds.map b0++amm (N-n) .e)) (.bu U') c):a.u1 (fnX n N bd) ds c:=λS i g cD=>by
 obtain⟨U',aY,j,t,s⟩:=q S i g cD;exact⟨aY,j,Bk h t,s⟩
end
def yR{a:bG}(b:b0 o=.v o):a.u1 qq [o] (a.ends o):=C7 rfl λS i g h=>by
 show ∃U',dT S i g (HR [.v (.ref i),b0 o]) (.bu U') _;rw[b];exact⟨_,iW h { a with bP:="calm" } rfl (.of rfl) rfl rfl rfl λS h=>aeZ h (a.ends o) rfl (.of rfl) rfl rfl rfl⟩
def gA:D->Bool
 |.aH=>true|_=>false
def Fw(d:D):i1 (.v d) (.v .aH)=pure (.v (.ax (!gA d))):=by cases d<;>rfl
def zw(d:D):jS (.v d) (.v .aH)=pure (.v (.ax (gA d))):=by cases d<;>rfl
def jH(k:Nat)(a e:Int)(s kp:dU)(w:D):D:=.t [.str "grant",ba k,.int a,.int e,dD s,.t [dD kp,w]]
def gZ(k:Nat)(a e:Int)(s:dU):D:=.t [.str "kept",ba k,.int a,.int e,dD s,.t []]
def tA(k:Nat)(a e:Int)(s p:dU):D:=.t [.str "late",ba k,.int a,.int e,dD s,.t [dD p]]
def bG.got(a:bG)(k:Nat)(kp:dU)(w:D):bG:={ a with bM:=a.bM++[⟨k,kp,w⟩] }
section
variable{a:bG}{ms:List Nat}{fa fk:Nat->Bool}(H:n_ a.h ms fa fk){k:Nat}{me e:Int}{s kp:dU}{w:D}(aQ:∀g∈a.bM,g.k<6)(hl:a.bM.length<60)(au:k<6)
def DK{a:bG}{S:bI}{i g:Nat}(h:dt S i g a)(aQ:∀g∈a.bM,g.k<6)(hl:a.bM.length<=1000)(U:aK):aF S (bh o2 (aa (gS (bf (bU "Asker" "grants") (I 0))) ai) (.v (.ref i)::U)) (.v (ba (maskOf (a.bM.map (·.k))))):=
 eJ (bT (B0 h rfl) cI) (.of (V_ a.bM aQ hl))
def afH{a:bG}(H:n_ a.h ms fa fk){S:bI}{i g:Nat}(h:dt S i g a)(d:a.bM=p::ps)(aQ:∀g∈a.bM,g.k<6)(hl:a.bM.length<=1000){z:Bool}(hw:b0 w=.v w)(hz:mC [w]=pure (.v (.ax z))) :
  aF S (wm [.ref i,w]) (.v (.ax (!z&&(a.bM.all λg=>decide (g.s=p.s))&&fk (maskOf (a.bM.map (·.k)))))):=by
 obtain⟨x,y,j,m,l,_,f⟩:=H.ex;have c:=R5 ps p (by rw[<-d];exact hl);rw[<-d]at c;have al:aF S (aU (bh wx (aa (gS (bf (bU "Asker" "grants") (I 0))) ai)) [.v (.ref i),.v w]) (a.bM.all λg=>decide (g.s=p.s)):=cH (eJ (bT (B0 h rfl) cI) (.of c));refine jO rfl ?_;show aF S (HW [.v (.ref i),b0 w]) _;rw[hw];generalize(a.bM.all λg=>decide (g.s=p.s))=o at *;have b:aF S (aU (bh mC (aa (I 1) ai)) [.v (.ref i),.v w]) z:=.of (iR (call_of (rs:=[.v w]) rfl hz))
 cases z with
 |true=>exact zD (qj (EF b) (iD (.of rfl)))|false=>
  cases o with
  |false=>exact zD (qj (nI b (je al)) (iD (.of rfl)))| true=>exact ql (qi (nI b (je al)) (.of rfl)) (iD (eJ (bT (cL (x:=.v (.t [x,y])) (r:=.v y) rfl (c3 h rfl (by show some a.h=_;rw[j])) (.of rfl)) (bT (DK h aQ hl _) cI)) (.of (f _))))
def bG.yg(a:bG)(w:D)(b:Bool):Prop:=∀S i g,dt S i g a->aF S (wm [.ref i,w]) (.v (.ax b))
def V5{a:bG}{s:dU}(hd:a.dz=.aH)(hs:a.yg w true):a.Do tF [.t [dD s,w]] [] (a.ends (.t [.str "saw",.t [.int a.cm,dD s,w]])):=g_ rfl λS i g h=>
 vD (jd (cH (cL (by rw[zw,hd];rfl) (c3 (d:=a.dz) h rfl rfl) (.of rfl))) (cH (f5 h.a8 (.of rfl) rfl (bT (x:=.v w) (.of rfl) cI) (hs S i g h))))<|
  DJ (sU (rs:=[.v (.t [.str "saw",.t [.int a.cm,dD s,w]])]) h (yR rfl) rfl rfl (aF.to (bT (oT (bT (.of rfl) (bT (oT (bT (c3 h rfl rfl) (bT (.of rfl) (bT (.of rfl) cI))) rfl (amE rfl)) cI)) rfl (amE rfl)) cI)) rfl) λS g h=>nA h (.of rfl)
theorem V6{a:bG}{ms:List Nat}{s:dU}{w:D}(d:mE [a.h]=pure (.fr (ms.map ba)))(hl:ms.length<=6)(hd:gA a.dz=false\/a.yg w false){t:D}
  (c:nN [w,.int a.me,.int a.wi,a.dz]=pure (.v t)) :
  a.Do tF [.t [dD s,w]] (ms.map (qH a.me a.cm a.st (.t [dD s,.int a.wi,a.dz,t]))) (a.tells t):=g_ rfl λS i g h=>by
 have f:aF S (g6 (aU (ae jS (bf (bU "Asker" "deed") (I 0)) (af .aH))) (aU (cP "Asker" "sees_at_once" wm (I 0) (aa (ae aG (I 1) (af (.int 1))) ai))) [.v (.ref i),.v (.t [dD s,w]),.e]) false:=by
  have b:aF S (aU (ae jS (bf (bU "Asker" "deed") (I 0)) (af .aH)) [.v (.ref i),.v (.t [dD s,w]),.e]) (gA a.dz):=cH (cL (zw a.dz) (c3 h rfl rfl) (.of rfl))
  cases q:gA a.dz with
  |false=>rw[q]at b;exact oR b|true=>
   rw[q]at b;rcases hd with z|z
   .rw[q]at z;cases z
   .exact jd b (cH (f5 h.a8 (.of rfl) rfl (bT (x:=.v w) (.of rfl) cI) (z S i g h)))
 exact lD f<|
  iW h { a with bP:="telling" } rfl (.of rfl) rfl rfl rfl λS h=>
  iW h { a with bP:="telling",nJ:=0 } rfl (.of rfl) rfl rfl rfl λS h=>
  iW h (a.tells t) rfl (eJ (bT (.of rfl) (bT (c3 h rfl rfl) (bT (c3 h rfl rfl) (bT (c3 h rfl rfl) cI)))) (.of c)) rfl rfl rfl λS h=>
  y6 (i0 (oT (bT (.of rfl) (bT (c3 h rfl rfl) (bT (c3 h rfl rfl) (bT (c3 h rfl rfl) cI)))) rfl (amE rfl)) rfl)<|
  nA h (tu (ED (NV (eJ (bT (c3 h rfl rfl) cI) (.of d)) rfl) (by rw[alM];exact fU (by omega))
   (zC ba (qH a.me a.cm a.st (.t [dD s,.int a.wi,a.dz,t])) ms λk _=>eJ (bT (c3 h rfl rfl) (bT (.of rfl) (bT (c3 h rfl rfl) (bT (c3 h rfl rfl) (bT (.of rfl) cI))))) (.of rfl))))
include aQ hl
theorem D4{S:bI}(h:dt S i g a):aF S (aU (bh qs (aa (bh o2 (aa (gS (bf (bU "Asker" "grants") (I 0))) ai)) (aa (ae aG (I 1) (af (.int 1))) ai))) [.v (.ref i),.v (jH k me e s kp w)]) (cC (maskOf (a.bM.map (·.k))) k):=
 cH (eJ (bT (DK h aQ (by omega) _) (bT (.of rfl) cI)) (.of (DP _ k)))
theorem Yl(q:cC (maskOf (a.bM.map (·.k))) k=true):a.Do tG [jH k me e s kp w] [] a:=g_ rfl λS i g h=>
 rD h (by have:=D4 (k:=k) (me:=me) (e:=e) (s:=s) (kp:=kp) (w:=w) aQ hl h;rw[q]at this;exact this) (.of rfl)
include H au
theorem MH{S:bI}(h:dt S i g (a.got k kp w)):aF S (ef (aU (bh (ji 12) (aa (ae aG (bf (bU "Asker" "hall") (I 0)) (af (.int 0))) (aa (bh o2 (aa (gS (bf (bU "Asker" "grants") (I 0))) ai)) ai)))) [.v (.ref i),.v (jH k me e s kp w)]) (!fa (maskOf ((a.got k kp w).bM.map (·.k)))):=by
 obtain⟨x,y,d,_,_,b,_⟩:=H.ex;have c:=DK h (λg h=>by
  rcases amy.mp h with h|h
  .exact aQ g h
  .rw[amb.mp h];exact au) (by show(a.bM++[_]).length<=1000;rw[alN];show _+1<=_;omega) [.v (jH k me e s kp w)]
 exact je (cH (eJ (bT (cL (x:=.v (.t [x,y])) (r:=.v x) rfl (c3 h rfl (by show some a.h=_;rw[d])) (.of rfl)) (bT c cI)) (.of (b _))))
theorem Yh(q:cC (maskOf (a.bM.map (·.k))) k=false)(bO:fa (maskOf ((a.got k kp w).bM.map (·.k)))=false):a.Do tG [jH k me e s kp w] [] (a.got k kp w):=g_ rfl λS i g h=>
 hP (by have:=D4 (k:=k) (me:=me) (e:=e) (s:=s) (kp:=kp) (w:=w) aQ hl h;rw[q]at this;exact this)<|
 MG h (a.got k kp w) rfl (bT (x:=.v (dP ⟨k,kp,w⟩)) (.of rfl) cI) rfl rfl (by omega) λS h=>
 rD h (by have:=MH (me:=me) (e:=e) (s:=s) H aQ hl au h;rw[bO]at this;exact this) (.of rfl)
theorem Yk{Y:List D}{t:bG}{p:fe}{ps:List fe}(b:(a.got k kp w).bM=p::ps)(c:b0 a.op=.v a.op)(q:cC (maskOf (a.bM.map (·.k))) k=false)(bO:fa (maskOf ((a.got k kp w).bM.map (·.k)))=true)
  (go:(a.got k kp w).Do tF [zd a.op (jB p ps)] Y t):a.Do tG [jH k me e s kp w] Y t:=by
 have hi:=YE p ps a.op c (by rw[<-b];show(a.bM++[_]).length<64;rw[alN];show _+1 < _;omega);rw[<-b]at hi;exact g_ rfl λS i g h=>
  hP (by have:=D4 (k:=k) (me:=me) (e:=e) (s:=s) (kp:=kp) (w:=w) aQ hl h;rw[q]at this;exact this)<|
  MG h (a.got k kp w) rfl (bT (x:=.v (dP ⟨k,kp,w⟩)) (.of rfl) cI) rfl rfl (by omega) λS h=>
  hP (by have:=MH (me:=me) (e:=e) (s:=s) H aQ hl au h;rw[bO]at this;exact this)<|
  rC (rs:=[.v (zd a.op (jB p ps))]) h go rfl rfl (aF.to (bT (eJ (bT (B0 h rfl) (bT (c3 h rfl rfl) cI)) (.of hi)) cI)) rfl
end
structure Told(dE:D)(me n:Int)(dk aW:D)(bK:Bool):Prop where
 p7:∃x,qr [dE,.int me]=pure (.v (.t [x,.int n,dk]))
 dQ:o6 [dE]=pure (.v aW)
 is:mC [dE]=pure (.v (.ax (!gA aW)))
 jE:oEq (.v aW) (.v (.str "over"))=pure (.v (.ax bK))
 ss:b0 aW=.v aW
def bG.gh(a:bG)(n:Int)(dk aW:D)(bK:Bool):bG:=
 if(!gA a.dz)=true then(if n=a.wi then a.ends (.t [.str "did",dk])else a)
 else if(gA aW)=true then a.ends (.t [.str "saw",.t [.int a.cm,dD a.st,a.dE]])
 else if bK=true then a.ends (.t [.str "saw",.t [.int a.cm,.aH,a.dE]])else a
def U1{a:bG}{n:Int}{dk aW:D}(t:Told a.dE a.me n dk aW bK):a.u1 E6 [] (a.gh n dk aW bK):=C7 rfl λS i g h=>by
 obtain⟨⟨x,l⟩,k,p,s,_⟩:=t;have q:aF S (aU (ae i1 (bf (bU "Asker" "deed") (I 0)) (af .aH)) [.v (.ref i),.v a.dE,.e]) (!gA a.dz):=cH (cL (Fw a.dz) (c3 h rfl rfl) (.of rfl));have is:aF S (ef (aU (bh mC (aa (I 1) ai))) [.v (.ref i),.v a.dE,.e]) (!!gA aW):=je (cH (eJ (rs:=[.v a.dE]) (.of rfl) (.of p)));have dQ:aF S (aU (ae oEq (bh o6 (aa (I 1) ai)) (af (.str "over"))) [.v (.ref i),.v a.dE,.e]) bK:=cH (cL s (eJ (rs:=[.v a.dE]) (.of rfl) (.of k)) (.of rfl));unfold bG.gh;have st:∀{o c},dT S i g (HQ [.v (.ref i),.v a.dE,.e]) o c->dT S i g (HP [.v (.ref i),.e,.e]) o c:=λq=>y6 (i0 (r:=.v a.dE) (c3 h rfl rfl) rfl) q
 cases e:gA a.dz with
 |false=>
  rw[e]at q;rw[if_pos (by rfl)];have p7:∀{m:bX}{o c},dT S i g (m [.v (.ref i),.v a.dE,.v (.t [x,.int n,dk])]) o c->dT S i g (bw (b5 (b8 2 (bh qr (aa (I 1) (aa (bf (bU "Asker" "me") (I 0)) ai))))) m [.v (.ref i),.v a.dE,.e]) o c:=λq=>y6 (i0 (r:=.v (.t [x,.int n,dk])) (eJ (rs:=[.v a.dE,.v (.int a.me)]) (bT (.of rfl) (bT (c3 h rfl rfl) cI)) (.of l)) rfl) q
  have eq:aF S (aU (ae oEq (ae aG (I 2) (af (.int 1))) (bf (bU "Asker" "wishes") (I 0))) [.v (.ref i),.v a.dE,.v (.t [x,.int n,dk])]) (decide (n=a.wi)):=cH (cL Df (.of rfl) (c3 (d:=.int a.wi) h rfl rfl))
  by_cases c:n=a.wi
  .rw[if_pos c]
   rw[decide_eq_true c]at eq;exact⟨_,st<|tb q<|p7<|tb eq<|sU (rs:=[.v (.t [.str "did",dk])]) h (yR rfl) rfl rfl (aF.to (.of rfl)) rfl⟩
  .rw[if_neg c]
   rw[decide_eq_false c]at eq;exact⟨_,st<|tb q<|p7<|qb eq<|nA h (.of rfl)⟩
 |true=>
  rw[e]at q;rw[if_neg (by simp)];have f:∀{b:bt}{w:D},aF S (b [.v (.ref i),.v a.dE,.e]) (.v w)->dT S i g (fN (dS "Asker" "end_wish" qq (I 0) (dR (aa (bL (aa (af (.str "saw")) (aa (bL (aa (bf (bU "Asker" "epoch") (I 0)) (aa b (aa (I 1) ai)))) ai))) ai))) [.v (.ref i),.v a.dE,.e]) (.bu [.v (.ref i),.v a.dE,.e]) (a.ends (.t [.str "saw",.t [.int a.cm,w,a.dE]])):=λ{b w} j=>
   sU (rs:=[.v (.t [.str "saw",.t [.int a.cm,w,a.dE]])]) h (yR rfl) rfl rfl (aF.to (bT (oT (bT (.of rfl) (bT (oT (bT (c3 h rfl rfl) (bT j (bT (.of rfl) cI))) rfl (amE rfl)) cI)) rfl (amE rfl)) cI)) rfl
  cases aE:gA aW with
  |true=>
   rw[aE]at is;rw[if_pos rfl];exact⟨_,st<|qb q<|tb is<|f (c3 h rfl rfl)⟩
  |false=>
   rw[aE]at is;rw[if_neg alR]
   cases bK with
   |true=>rw[if_pos rfl];exact⟨_,st<|qb q<|qb is<|tb dQ<|f (.of rfl)⟩|false=>rw[if_neg alR];exact⟨_,st<|qb q<|qb is<|qb dQ<|nA h (.of rfl)⟩
def bG.rS(a:bG):bG:=if(a.bP == "calm")=true then{ a with bK:=true }else{ a with bK:=true,bP:="calm",cS:=.t [.str "over",.aH] }
def aaw{a:bG}(hs:a.j2):a.u1 E8 [] a.rS:=C7 rfl λS i g h=>by
 have ne:∀{S},dt S i g { a with bK:=true }->aF S (aU (ae dX (bf (bU "Asker" "standing") (I 0)) (af (.str "calm"))) [.v (.ref i)]) (!(a.bP == "calm")):=λh=>cH (cL (yF hs) (c3 (d:=.str a.bP) h rfl rfl) (.of rfl))
 unfold bG.rS
 by_cases c:(a.bP == "calm")=true
 .rw[if_pos c]
  exact⟨_,iW h { a with bK:=true } rfl (.of rfl) rfl rfl rfl λS h=>qb (by have:=ne h;rw[c]at this;exact this) (nA h (.of rfl))⟩
 .rw[if_neg c]
  exact⟨_,iW h { a with bK:=true } rfl (.of rfl) rfl rfl rfl λS h=>tb (by have:=ne h;rw[show(a.bP == "calm")=false by simpa using c]at this;exact this) (sU (rs:=[.v (.t [.str "over",.aH])]) h (yR rfl) rfl rfl (aF.to (.of rfl)) rfl)⟩
def bG.over(a:bG)(h o:D):bG:={ a with cm:=a.cm+1,h:=h,op:=o }
section
variable{a:bG}(hs:a.j2){cD o:D}(hl:b0 cD=.v cD)(aZ:tX [a.dE]=pure (.v o))
include hl aZ
theorem Pq{S:bI}(h:dt S i g a)(p:∀S1,dt S1 i g (a.over cD o)->dT S1 i g (HT [.v (.ref i),.v cD]) C c):dT S i g (HS [.v (.ref i),b0 cD]) C c:=by
 rw[hl];exact iW h { a with cm:=a.cm+1 } rfl (cL rfl (c3 h rfl rfl) (.of rfl)) rfl rfl rfl λS h=>
  iW h { a with cm:=a.cm+1,h:=cD } rfl (.of rfl) rfl rfl rfl λS h=>
  iW h (a.over cD o) rfl (eJ (rs:=[.v a.dE]) (bT (c3 h rfl rfl) cI) (.of aZ)) rfl rfl rfl p
include hs
theorem V7(c:a.bP="calm"):a.Do rW [cD] [] (a.over cD o):=g_ rfl λS i g h=>Pq hl aZ h λS h=>
 rD h (cH (cL (by rw[calm_eq hs,c,beq_self_eq_true]) (c3 (d:=.str a.bP) h rfl rfl) (.of rfl))) (.of rfl)
theorem V8(c:a.bP≠"calm"){ms:List Nat}(e:mE [cD]=pure (.fr (ms.map ba)))(b:ms.length<=6):a.Do rW [cD] (ms.map (ku a.me (a.cm+1) (a.dg+1,a.me))) (a.over cD o).asks:=g_ rfl λS i g h=>Pq hl aZ h λS h=>
 hP (cH (cL (by rw[calm_eq hs,show(a.bP == "calm")=false by simpa using c]) (c3 (d:=.str a.bP) h rfl rfl) (.of rfl)))<|rC (rs:=[]) h (B6 (a:=a.over cD o) e b) rfl rfl rfl rfl
end
def vv(a:bG)(n:Int)(dk aW:D)(bK:Bool):(∃o,(o=.t [.str "did",dk]\/∃x y z,o=.t [.str "saw",.t [.int x,y,a.dE]]/\(y=.aH\/y=dD z))/\a.gh n dk aW bK=a.ends o)\/a.gh n dk aW bK=a:=by
 unfold bG.gh;split
 .split
  .exact .inl ⟨_,.inl rfl,rfl⟩
  .exact .inr rfl
 .split
  .exact .inl ⟨_,.inr ⟨_,_,a.st,rfl,.inr rfl⟩,rfl⟩
  .split
   .exact .inl ⟨_,.inr ⟨_,_,a.st,rfl,.inl rfl⟩,rfl⟩
   .exact .inr rfl
def L8(a:bG)(n:Int)(dk aW:D)(bK:Bool):(a.gh n dk aW bK).dE=a.dE:=by rcases vv a n dk aW bK with⟨o,_,e⟩|e<;>rw[e]<;>rfl
def U3(a:bG)(n:Int)(dk aW:D)(bK:Bool):(a.gh n dk aW bK).cm=a.cm:=by rcases vv a n dk aW bK with⟨o,_,e⟩|e<;>rw[e]<;>rfl
def Dd(a:bG)(n:Int)(dk aW:D)(bK:Bool):(a.gh n dk aW bK).wi=a.wi:=by rcases vv a n dk aW bK with⟨o,_,e⟩|e<;>rw[e]<;>rfl
def U5{a:bG}(h:a.j2)(n:Int)(dk aW:D)(bK:Bool):(a.gh n dk aW bK).j2:=by
 rcases vv a n dk aW bK with⟨o,_,e⟩|e<;>rw[e]
 .exact .inl rfl
 .exact h
def or_eq(m n:Nat):ub (.v (ba m)) (.v (ba n))=pure (.v (ba (m ||| n))):=by
 rw[g0,g0,g0,<-FO];rfl
def bG.gz(a:bG)(k:Nat):bG:={ a with nJ:=a.nJ ||| maskOf [k] }
section
variable{a:bG}{ms:List Nat}{fa fk:Nat->Bool}(H:n_ a.h ms fa fk){k:Nat}{me e:Int}{s:dU}(au:k<6)
include H au
theorem NX{S:bI}(h:dt S i g (a.gz k)):aF S (ef (aU (bh (ji 12) (aa (ae aG (bf (bU "Asker" "hall") (I 0)) (af (.int 1))) (aa (bf (bU "Asker" "kept_mask") (I 0)) ai)))) [.v (.ref i),.v (gZ k me e s),s2]) (!fk (a.gz k).nJ):=by
 obtain⟨x,y,c,_,_,_,b⟩:=H.ex;exact je (cH (eJ (bT (cL (x:=.v (.t [x,y])) (r:=.v y) rfl (c3 h rfl (by show some a.h=_;rw[c])) (.of rfl)) (bT (c3 h rfl rfl) cI)) (.of (b _))))
theorem NY{S:bI}(h:dt S i g a)(p:∀S1,dt S1 i g (a.gz k)->dT S1 i g (HU [.v (.ref i),.v (gZ k me e s),.e]) o c):dT S i g (Cb [.v (.ref i),.v (gZ k me e s),.e]) o c:=
 iW h (a.gz k) rfl (cL (or_eq a.nJ (maskOf [k])) (c3 h rfl rfl) (eJ (rs:=[.fr [ba k]]) (.of (cons_of (OB (cons_of (fj rfl rfl rfl) rfl) rfl (amE rfl)) rfl)) (.of (wN [k] λj b=>by rw[amb.mp b];omega)))) rfl rfl rfl p
theorem Ym(q:fk (a.gz k).nJ=false):a.Do rX [gZ k me e s] [] (a.gz k):=g_ rfl λS i g h=>
 NY H au h λS h=>rD h (by have:=NX (me:=me) (e:=e) (s:=s) (s2:=.e) H au h;rw[q]at this;exact this) (.of rfl)
variable{n:Int}{dk aW:D}{bK:Bool}(t:Told a.dE a.me n dk aW bK)(q:fk (a.gz k).nJ=true)
include t q
theorem EI{S:bI}(h:dt S i g a)(p:∀S1 b,dt S1 i b ((a.gz k).gh n dk aW bK)->dT S1 i b (Cc [.v (.ref i),.v (gZ k me e s),.v aW]) o c):dT S i g (Cb [.v (.ref i),.v (gZ k me e s),.e]) o c:=
 NY H au h λS h=>hP (by have:=NX (me:=me) (e:=e) (s:=s) (s2:=.e) H au h;rw[q]at this;exact this)<|
 DJ (U':=[.v (.ref i),.v (gZ k me e s),.e]) (sU (rs:=[]) h (U1 t) rfl rfl rfl rfl) λS g h=>
 y6 (i0 (r:=.v aW) (eJ (rs:=[.v a.dE]) (bT (c3 h rfl (by show some ((a.gz k).gh n dk aW bK).dE=_;rw[L8];rfl)) cI) (.of t.dQ)) rfl) (p S g h)
theorem Yp(b:gA aW=true):a.Do rX [gZ k me e s] [] ((a.gz k).gh n dk aW bK):=g_ rfl λS i g h=>EI H au t q h λS g h=>
 rD h (cH (cL ((zw aW).trans (by rw[b])) (.of rfl) (.of rfl))) (.of rfl)
variable(az:gA aW=false)
include az
theorem NZ{S:bI}(p:dT S i g (HV [.v (.ref i),.v (gZ k me e s),.v aW]) o c):dT S i g (Cc [.v (.ref i),.v (gZ k me e s),.v aW]) o c:=
 hP (cH (cL ((zw aW).trans (by rw[az])) (.of rfl) (.of rfl))) p
theorem Yq(hs:a.j2)(b:bK=true):a.Do rX [gZ k me e s] [] ((a.gz k).gh n dk aW bK).rS:=g_ rfl λS i g h=>EI H au t q h λS g h=>NZ H au t q az<|
 vD (cH (cL (t.jE.trans (by rw[b])) (.of rfl) (.of rfl)))<|DJ (U':=[.v (.ref i),.v (gZ k me e s),.v aW]) (sU (rs:=[]) h (aaw (U5 (a:=a.gz k) hs _ _ _ _)) rfl rfl rfl rfl) λS g h=>nA h (.of rfl)
theorem M5(b:bK=false)(lo:((a.gz k).gh n dk aW bK).Do rW [aW] Y c):a.Do rX [gZ k me e s] Y c:=g_ rfl λS i g h=>EI H au t q h λS g h=>NZ H au t q az<|
 lD (cH (cL (t.jE.trans (by rw[b])) (.of rfl) (.of rfl)))<|rC (rs:=[.v aW]) h lo rfl rfl (aF.to (.of rfl)) rfl
end
def Zr(j:Nat)(a:List Nat):kW false (.v (ba j)) (.fr (a.map ba))=pure (.v (.ax (a.contains j))):=Zq j a
def OX{a b:Int}:dX (.v (.int a)) (.v (.int b))=pure (.v (.ax (!decide (a=b)))):=rfl
def bG.now(a:bG)(ms:List Nat)(k:Nat)(e:Int)(s:dU):Bool:=decide (e=a.cm)&&decide (s=a.st)&&ms.contains k
def ZC{a:bG}{S:bI}(h:dt S i g a)(H:n_ a.h ms fa fk)(w c:D)(k:Nat)(b e:Int)(s:dU):aF S (zU [.ref i,.t [w,ba k,.int b,.int e,dD s,c]]) (.v (.ax (a.now ms k e s))):=by
 refine jO rfl ?_;have d:aF S (aU (ae dX (ae aG (I 1) (af (.int 3))) (bf (bU "Asker" "epoch") (I 0))) [.v (.ref i),.v (.t [w,ba k,.int b,.int e,dD s,c])]) (!decide (e=a.cm)):=cH (cL OX (.of rfl) (c3 h rfl rfl));have f:aF S (aU (ae dX (ae aG (I 1) (af (.int 4))) (bf (bU "Asker" "last_stamp") (I 0))) [.v (.ref i),.v (.t [w,ba k,.int b,.int e,dD s,c])]) (!decide (s=a.st)):=cH (cL (acz s a.st) (.of rfl) (c3 h rfl rfl));unfold bG.now;generalize decide (e=a.cm)=o at *;generalize decide (s=a.st)=C at *
 cases o with
 |false=>exact zD (qj (EF d) (.of rfl))|true=>
  cases C with
  |false=>exact zD (qj (nI d f) (.of rfl))|true=>exact ql (qi (nI d f) (.of rfl)) (iD (cL (Zr k ms) (.of rfl) (eJ (bT (c3 h rfl rfl) cI) (.of H.mem))))
def ue:al5 "grant"=true:=by decide +kernel
def Pf:al5 "kept"=true:=by decide +kernel
def aaJ:oEq (.v (.str "late")) (.v (.str "late"))=pure (.v (.ax true)):=by rw[jo w8 w8,beq_self_eq_true]
def DI:oEq (.v (.str "grant")) (.v (.str "late"))=pure (.v (.ax false)):=by rw[jo ue w8];rfl
def ME:oEq (.v (.str "grant")) (.v (.str "grant"))=pure (.v (.ax true)):=by rw[jo ue ue,beq_self_eq_true]
def V1:oEq (.v (.str "grant")) (.v (.str "kept"))=pure (.v (.ax false)):=by rw[jo ue Pf];rfl
def bG.zM(a:bG)(r:Int):bG:={ a with dg:=if r > a.dg then r else a.dg }
section
variable{a:bG}{ms:List Nat}{fa fk:Nat->Bool}{S:bI}{i g:Nat}(H:n_ a.h ms fa fk){k:Nat}{e:Int}{s kp:dU}{w:D}
def ui(h:dt S i g a)(x b:D)(k:Nat)(e:Int)(s:dU):aF S (aU (ae dX (ae aG (I 1) (af (.int 2))) (bf (bU "Asker" "me") (I 0))) [.v (.ref i),.v (.t [x,ba k,.int a.me,.int e,dD s,b])]) false:=
 cH (cL (OX.trans (by rw[decide_eq_true rfl];rfl)) (.of rfl) (c3 (d:=.int a.me) h rfl rfl))
theorem Yr(p:dU):a.Do kc [tA k a.me e s p] [] (a.zM p.1):=g_ rfl λS i g h=>
 hP (ui h (.str "late") (.t [dD p]) k e s)<|vD (cH (cL aaJ (.of rfl) (.of rfl)))<|
 iW h (a.zM p.1) rfl (v' (r:=.v (.int (a.zM p.1).dg)) rfl (bT (c3 h rfl rfl) (bT (.of rfl) cI))) rfl rfl rfl λS h=>nA h (.of rfl)
include H
theorem w1(h:dt S i g a)(x c:D)(k:Nat)(b e:Int)(s:dU):aF S (ef (aU (cP "Asker" "is_for_now" zU (I 0) (aa (I 1) ai))) [.v (.ref i),.v (.t [x,ba k,.int b,.int e,dD s,c])]) (!a.now ms k e s):=
 je (cH (f5 h.a8 (.of rfl) rfl (bT (.of rfl) cI) (ZC h H x c k b e s)))
theorem M6(x b:D)(c:oEq (.v x) (.v (.str "late"))=pure (.v (.ax false)))(q:a.now ms k e s=false):a.Do kc [.t [x,ba k,.int a.me,.int e,dD s,b]] [] a:=g_ rfl λS i g h=>
 hP (ui h x b k e s)<|lD (cH (cL c (.of rfl) (.of rfl)))<|rD h (by have:=w1 H h x b k a.me e s;rw[q]at this;exact this) (.of rfl)
variable(hs:a.j2)
include hs
theorem DU(q:a.now ms k e s=true)(c:a.bP="asking")(g:a.Do tG [jH k a.me e s kp w] Y t):a.Do kc [jH k a.me e s kp w] Y t:=g_ rfl λS i j h=>
 hP (ui h (.str "grant") (.t [dD kp,w]) k e s)<|lD (cH (cL DI (.of rfl) (.of rfl)))<|
 hP (by have:=w1 H h (.str "grant") (.t [dD kp,w]) k a.me e s;rw[q]at this;exact this)<|
 vD (jd (cH (cL ME (.of rfl) (.of rfl))) (cH (cL (by rw[jo (uB hs) Pd,c,beq_self_eq_true]) (c3 h rfl rfl) (.of rfl))))<|
 rC (rs:=[.v (jH k a.me e s kp w)]) h g rfl rfl (aF.to (.of rfl)) rfl
theorem Yi(q:a.now ms k e s=true)(c:a.bP≠"asking"):a.Do kc [jH k a.me e s kp w] [] a:=g_ rfl λS i j h=>
 hP (ui h (.str "grant") (.t [dD kp,w]) k e s)<|lD (cH (cL DI (.of rfl) (.of rfl)))<|
 hP (by have:=w1 H h (.str "grant") (.t [dD kp,w]) k a.me e s;rw[q]at this;exact this)<|
 lD (jd (cH (cL ME (.of rfl) (.of rfl))) (cH (cL (by rw[jo (uB hs) Pd,show(a.bP == "asking")=false by simpa using c]) (c3 h rfl rfl) (.of rfl))))<|
 lD (oR (cH (cL V1 (.of rfl) (.of rfl))))<|nA h (.of rfl)
end
section
variable{a:bG}{ms:List Nat}(hm:mE [a.h]=pure (.fr (ms.map ba)))(hl:ms.length<=6)
include hm hl
theorem TA(hs:a.j2)(c:a.bP≠"calm"):a.Do tE [] (ms.map (ku a.me a.cm (a.dg+1,a.me))) a.asks:=g_ rfl λS i g h=>
 hP (cH (cL (by rw[calm_eq hs,show(a.bP == "calm")=false by simpa using c]) (c3 h rfl rfl) (.of rfl)))<|rC (rs:=[]) h (B6 hm hl) rfl rfl rfl rfl
def bG.q'(a:bG)(d:D):bG:={ a with wi:=a.wi+1,dz:=d,cS:=.aH }
theorem Tv(hs:a.bP="calm")(c:a.bK=false)(hd:b0 d=.v d)(b:d=.aH\/nO [d]=pure (.v (.ax true))):a.Do zT [d] (ms.map (ku a.me a.cm (a.dg+1,a.me))) (a.q' d).asks:=g_ rfl λS i g h=>by
 show dT S i g (HO [.v (.ref i),b0 d]) _ _;rw[hd];have nn:aF S (aU (ae i1 (I 1) (af .aH)) [.v (.ref i),.v d]) (!gA d):=cH (cL (Fw d) (.of rfl) (.of rfl));have e:aF S (g6 (aU (ae i1 (I 1) (af .aH))) (ef (aU (bh nO (aa (I 1) ai)))) [.v (.ref i),.v d]) false:=by
  rcases b with rfl|b
  .exact oR nn
  .cases q:gA d with
   |true=>rw[q]at nn;exact oR nn|false=>rw[q]at nn;exact jd nn (je (cH (eJ (bT (x:=.v d) (.of rfl) cI) (.of b))))
 exact hP e<|
  hP (cH (c3 h rfl (by show some (D.ax a.bK)=_;rw[c])))<|
  hP (cH (cL (by rw[yF (a:=a) (.inl hs),hs,beq_self_eq_true];rfl) (c3 h rfl rfl) (.of rfl)))<|
  iW h { a with wi:=a.wi+1 } rfl (cL rfl (c3 h rfl rfl) (.of rfl)) rfl rfl rfl λS h=>
  iW h { a with wi:=a.wi+1,dz:=d } rfl (.of rfl) rfl rfl rfl λS h=>
  iW h (a.q' d) rfl (.of rfl) rfl rfl rfl λS h=>
  rC (rs:=[]) h (B6 (a:=a.q' d) hm hl) rfl rfl rfl rfl
end
def Tw{a:bG}(c:a.bP="calm"):a.Do tE [] [] a:=g_ rfl λS i g h=>
 rD h (cH (cL (by rw[calm_eq (.inl c),c,beq_self_eq_true]) (c3 (d:=.str a.bP) h rfl rfl) (.of rfl))) (.of rfl)
def Ar:al5 "kept"=true:=by decide +kernel
def EL:oEq (.v (.str "kept")) (.v (.str "late"))=pure (.v (.ax false)):=by rw[jo Ar w8];rfl
def N7:oEq (.v (.str "kept")) (.v (.str "grant"))=pure (.v (.ax false)):=by rw[jo Ar ue];rfl
def N8:oEq (.v (.str "kept")) (.v (.str "kept"))=pure (.v (.ax true)):=by rw[jo Ar Ar,beq_self_eq_true]
section
variable{a:bG}{ms:List Nat}{fa fk:Nat->Bool}(H:n_ a.h ms fa fk)(hs:a.j2){k:Nat}{e:Int}{s:dU}
include H hs
theorem vQ(q:a.now ms k e s=true)(c:a.bP="telling")(g:a.Do rX [gZ k a.me e s] Y t):a.Do kc [gZ k a.me e s] Y t:=g_ rfl λS i j h=>
 hP (ui h (.str "kept") (.t []) k e s)<|lD (cH (cL EL (.of rfl) (.of rfl)))<|
 hP (by have:=w1 H h (.str "kept") (.t []) k a.me e s;rw[q]at this;exact this)<|
 lD (oR (cH (cL N7 (.of rfl) (.of rfl))))<|
 vD (jd (cH (cL N8 (.of rfl) (.of rfl))) (cH (cL (by rw[jo (uB hs) Pg,c,beq_self_eq_true]) (c3 h rfl rfl) (.of rfl))))<|
 rC (rs:=[.v (gZ k a.me e s)]) h g rfl rfl (aF.to (.of rfl)) rfl
theorem Yn(q:a.now ms k e s=true)(c:a.bP≠"telling"):a.Do kc [gZ k a.me e s] [] a:=g_ rfl λS i j h=>
 hP (ui h (.str "kept") (.t []) k e s)<|lD (cH (cL EL (.of rfl) (.of rfl)))<|
 hP (by have:=w1 H h (.str "kept") (.t []) k a.me e s;rw[q]at this;exact this)<|
 lD (oR (cH (cL N7 (.of rfl) (.of rfl))))<|
 lD (jd (cH (cL N8 (.of rfl) (.of rfl))) (cH (cL (by rw[jo (uB hs) Pg,show(a.bP == "telling")=false by simpa using c]) (c3 h rfl rfl) (.of rfl))))<|
 nA h (.of rfl)
end
structure cv where
 as:List bG
 bs:List D
 ls:List D
 rs:List D
structure hD where
 a:Nat
 b:Nat
 l:Nat
 r:Nat
 q:List (Nat×Nat)
def hD.has(p:hD)(i y:Nat):Prop:=y=i\/y∈[p.a,p.b,p.l,p.r]\/∃x∈p.q,y=x.1\/y=x.2
def hD.aS(p:hD):List (Str×D):=[("askers",.ref p.a),("books",.ref p.b),("letters",.ref p.l),("rows",.ref p.r)]
structure dF(S:bI)(i:Nat)(p:hD)(h:cv):Prop where
 a8:S[i]? = some (.a8 "House" p.aS)
 al:S[p.a]? = some (.l (p.q.map λx=>.ref x.1))
 bs:S[p.b]? = some (.l h.bs)
 ls:S[p.l]? = some (.l h.ls)
 rs:S[p.r]? = some (.l h.rs)
 len:p.q.length=h.as.length
 as:∀(k:Nat)(x:Nat×Nat)(a:bG),p.q[k]? = some x->h.as[k]? = some a->dt S x.1 x.2 a
 nl:[p.a,p.b,p.l,p.r].Nodup
 t9:∀x∈p.q,x.2∉[p.a,p.b,p.l,p.r]
 fC:∀(j k:Nat)(x y:Nat×Nat),p.q[j]? = some x->p.q[k]? = some y->j≠k->x.1≠y.1/\x.2≠y.2
structure jZ(S aq:bI)(i:Nat)(p gK:hD)(h:cv):Prop where
 at':dF aq i gK h
 fr:∀j o,¬p.has i j->S[j]? = some o->aq[j]? = some o
 nw:∀x,gK.has i x->p.has i x\/S.length<=x
 len:S.length<=aq.length
def RR(S:bI)(i:Nat)(p:hD)(m:N fG)(b:fG)(h:cv):Prop:=∃a c,bQ S m b a/\jZ S a i p c h
def cv.Do(h:cv)(mf:dV)(ds:List D)(r:R)(h':cv):Prop:=∀(S:bI)(i:Nat)(p:hD),dF S i p h->∃a b,bQ S (mf (.ref i::ds)) r a/\jZ S a i p b h'
def cv.put(h:cv)(k:Nat)(a:bG):cv:={ h with as:=h.as.set k a }
def cv.wr(h:cv)(L:List D):cv:={ h with ls:=h.ls++L }
def cv.row(h:cv)(r:D):cv:={ h with rs:=h.rs++[r] }
def cv.bk(h:cv)(k:Nat)(b:D):cv:={ h with bs:=h.bs.set k b }
def t7{S:bI}{x y:Nat}{o b:gc}(a:S[x]? = some o)(c:S[y]? = some b)(n:o≠b):x≠y:=λe=>n (by rw[e,c]at a;exact(amf a).symm)
section
variable{S S1 aY:bI}{i k:Nat}{p p1 cj:hD}{h ag ah:cv}{x:Nat×Nat}{a b:bG}{U:aK}
def jZ.refl(H:dF S i p h):jZ S S i p p h:=⟨H,λ_ _ _ e=>e,λ_ h=>.inl h,alQ _⟩
theorem jZ.trans(s:jZ S S1 i p p1 ag)(t:jZ S1 aY i p1 cj ah):jZ S aY i p cj ah:=
 ⟨t.at',λj o c e=>t.fr j o (λz=>(s.nw j z).elim c λz=>by have:=kS e;omega) (s.fr j o c e),λx z=>(t.nw x z).elim (s.nw x) λz=>.inr (amq s.len z),amq s.len t.len⟩
theorem dF.lt(H:dF S i p h)(d:p.has i y):y<S.length:=by
 rcases d with rfl|z|⟨x,o,z⟩
 .exact kS H.a8
 .simp only[alY,amw,or_false]at z
  rcases z with rfl|rfl|rfl|rfl
  .exact kS H.al
  .exact kS H.bs
  .exact kS H.ls
  .exact kS H.rs
 .obtain⟨k,c⟩:=aos.mp o
  have hl:=(alK.mp c).1;have A:=H.as k x _ c (al1 (by rw[<-H.len];exact hl));rcases z with rfl|rfl
  .exact kS A.a8
  .exact kS A.ls
def dF.ex(H:dF S i p h)(e:h.as[k]? = some a):∃x,p.q[k]? = some x/\dt S x.1 x.2 a:=by
 have hl:k<p.q.length:=by rw[H.len];exact(alK.mp e).1
 exact⟨_,al1 hl,H.as k _ a (al1 hl) e⟩
def dF.step(H:dF S i p h)(t:p.q[k]? = some x)(N:h.as[k]? = some a)(s:ej S S1 x.1 x.2 g' b):jZ S S1 i p { p with q:=p.q.set k (x.1,g') } (h.put k b):=by
 have A:=H.as k x a t N;have I:=(alK.mp t).1;have u:=amh t;have keep:∀y o,S[y]? = some o->y≠x.1->y≠x.2->S1[y]? = some o:=λy o e d f=>s.fr y o (by simp[d,f]) e
 have K:∀y xs,y∈[p.a,p.b,p.l,p.r]->S[y]? = some (.l xs)->S1[y]? = some (.l xs):=λy xs F e=>keep y _ e (t7 e A.a8 (by intro z;cases z)) λz=>H.t9 x u (z▸F)
 have bq:(p.q.set k (x.1,g')).map (λx=>aC.D.ref x.1)=p.q.map λx=>aC.D.ref x.1:=by
  rw[List.map_set];refine List.ext_getElem? λj=>?_
  by_cases c:k=j
  .subst c
   rw[al9 (by rw[alM];exact I),al4,t];rfl
  .rw[alU c]
 have L:g'∉[p.a,p.b,p.l,p.r]:=by
  rcases s.nw with z|z
  .rw[z];exact H.t9 x u
  .intro O
   have:=H.lt (.inr (.inl O));omega
 refine⟨⟨keep i _ H.a8 (t7 H.a8 A.a8 (by intro z;injection z with z _;exact absurd z (by decide))) (t7 H.a8 A.ls (by intro z;cases z)),by rw[bq];exact K _ _ (by simp) H.al,K _ _ (by simp) H.bs,K _ _ (by simp) H.ls,K _ _ (by simp) H.rs,by rw[amr];unfold cv.put;rw[amr];exact H.len,λj y c g E=>?_,H.nl,λy F=>?_,λj l y z n el ne=>?_⟩,
  λj o M e=>s.fr j o (by
   simp only[alY,amw,or_false,not_or];exact⟨λz=>M (.inr (.inr ⟨x,u,.inl z⟩)),λz=>M (.inr (.inr ⟨x,u,.inr z⟩))⟩) e,λy F=>?_,s.len⟩
 .have g:(p.q.set k (x.1,g'))[j]? = some y:=g
  have E:(h.as.set k b)[j]? = some c:=E
  by_cases q:k=j
  .subst q
   rw[al9 I]at g;rw[al9 (alK.mp N).1]at E;cases g;cases E;exact s.at'
  .rw[alU q]at g E
   have B:=H.as j y c g E;obtain⟨d,f⟩:=H.fC j k y x g t (anH q);exact⟨keep _ _ B.a8 d (t7 B.a8 A.ls (by intro z;cases z)),keep _ _ B.ls (t7 B.ls A.a8 (by intro z;cases z)) f⟩
 .rcases aoB F with z|rfl
  .exact H.t9 y z
  .exact L
 .have n:(p.q.set k (x.1,g'))[j]? = some y:=n
  have el:(p.q.set k (x.1,g'))[l]? = some z:=el;have G:∀m w,k≠m->p.q[m]? = some w->x.1≠w.1/\g'≠w.2:=λm w Q P=>by
   obtain⟨d,f⟩:=H.fC k m x w t P Q;refine⟨d,?_⟩;rcases s.nw with z|z
   .rw[z];exact f
   .intro O
    have:=H.lt (.inr (.inr ⟨w,amh P,.inr rfl⟩));omega
  by_cases bf:k=j
  .subst bf
   rw[al9 I]at n;rw[alU ne]at el;cases n;exact G l z ne el
  .rw[alU bf]at n
   by_cases ae:k=l
   .subst ae
    rw[al9 I]at el;cases el;obtain⟨d,f⟩:=G j y (anH ne) n;exact⟨d.symm,f.symm⟩
   .rw[alU ae]at el
    exact H.fC j l y z n el ne
 .rcases F with z|z|⟨w,hw,z⟩
  .exact .inl (.inl z)
  .exact .inl (.inr (.inl z))
  .rcases aoB hw with v|rfl
   .exact .inl (.inr (.inr ⟨w,v,z⟩))
   .rcases z with z|z
    .exact .inl (.inr (.inr ⟨x,u,.inl z⟩))
    .rcases s.nw with v|v
     .exact .inl (.inr (.inr ⟨x,u,.inr (z.trans v)⟩))
     .exact .inr (by rw[z];exact v)
theorem dF.FZ{h':cv}(H:dF S i p h)(d:c∈[p.b,p.l,p.r])(g:h'.as=h.as)(av:(S.set c o)[p.b]? = some (.l h'.bs))(aE:(S.set c o)[p.l]? = some (.l h'.ls))(cX:(S.set c o)[p.r]? = some (.l h'.rs)):jZ S (S.set c o) i p p h':=by
 have hl:∃xs,S[c]? = some (.l xs):=by
  simp only[alY,amw,or_false]at d;rcases d with rfl|rfl|rfl
  .exact⟨_,H.bs⟩
  .exact⟨_,H.ls⟩
  .exact⟨_,H.rs⟩
 obtain⟨xs,hl⟩:=hl;have m:c∈[p.a,p.b,p.l,p.r]:=alW _ d;have nb:∀{y:Nat}{cl:Str}{aS:List (Str×aC.D)},S[y]? = some (gc.a8 cl aS)->(S.set c o)[y]? = some (gc.a8 cl aS):=λe=>by rw[alU (t7 hl e (by intro z;cases z))];exact e
 have na:c≠p.a:=λz=>(amK.mp H.nl).1 (z▸d)
 refine⟨⟨nb H.a8,by rw[alU na];exact H.al,av,aE,cX,by rw[g];exact H.len,λk x a f he=>?_,H.nl,H.t9,H.fC⟩,λj q n e=>?_,λ_ z=>.inl z,by rw[amr];exact alQ _⟩
 .rw[g]at he
  have A:=H.as k x a f he;exact⟨nb A.a8,by rw[alU λz:c=x.2=>H.t9 x (amh f) (z▸m)];exact A.ls⟩
 .rw[alU λz:c=j=>n (z▸.inr (.inl m))];exact e
def dF.ns(H:dF S i p h):p.b≠p.l/\p.b≠p.r/\p.l≠p.r:=by
 have:=H.nl;simp only[amK,alY,amw,or_false,not_or]at this;exact⟨this.2.1.1,this.2.1.2,this.2.2.1⟩
def dF.wr(H:dF S i p h)(L:List D):jZ S (S.set p.l (.l (h.ls++L))) i p p (h.wr L):=by
 obtain⟨c,e,d⟩:=H.ns;exact H.FZ (by simp) rfl (by rw[alU c.symm];exact H.bs) (get_set H.ls) (by rw[alU d];exact H.rs)
def dF.row(H:dF S i p h)(r:D):jZ S (S.set p.r (.l (h.rs++[r]))) i p p (h.row r):=by
 obtain⟨e,c,d⟩:=H.ns;exact H.FZ (by simp) rfl (by rw[alU c.symm];exact H.bs) (by rw[alU d.symm];exact H.ls) (get_set H.rs)
def dF.bk(H:dF S i p h)(j:Nat)(b:D):jZ S (S.set p.b (.l (h.bs.set j b))) i p p (h.bk j b):=by
 obtain⟨c,d,e⟩:=H.ns;exact H.FZ (by simp) rfl (get_set H.bs) (by rw[alU c];exact H.ls) (by rw[alU d];exact H.rs)
def EA{f g:R->R->M R}{a b c:bt}{x y w r:R}(ag:aF S (a U) x)(ah:aF S (b U) y)(e:f x y=pure (.v (.ax true)))(d:aF S (c U) w)(aE:g y w=pure r):aF S (fA f g a b c U) r:=
 ag.bind (ah.bind ((aF.of e).bind ((aF.of (m:=R.sj (.v (.ax true))) (a:=true) rfl).bind (d.bind (.of aE)))))
def EE{n N:Nat}{b:aL}{ds xs:List D}(h:ds.length=n)(e:aF S (b (ds.map b0++amm (N-n) .e)) (.cp (.fr xs))):aF S (fnOf n N b ds) (.fr xs):=by
 rw[yO,if_pos h];exact e.bind (.of rfl)
def v9{i:Int}{v:D}(e:d1 xs i=some v):aG (.mv xs) (.v (.int i))=pure (.v v):=by
 show(match d1 xs i with|some d=>pure (R.v d)|none=>bad)=_;rw[e]
def ZV{ms:c0}{a b:Int}(h:aF S (ms U) [.v (.int a),.v (.int b)])(e:we [.v (.int a),.v (.int b)]=pure (.fr ys)):aF S (yA ms U) (.fr ys):=h.bind (.of e)
theorem aid{mo:bt}{ms:c0}{xs ys:List D}{r:R}(ag:aF S (mo U) (.v (.ref i)))(ah:aF S (ms U) [r])(c:r.ft=some ys)(h:S[i]? = some (.l xs))(z:xs.length+ys.length<=alP):bQ S (n7 xF mo ms U) (.bu U) (S.set i (.l (xs++ys))):=
 ag.to.bind (ah.to.bind ((oS h).to.bind ((aF.to (a:=(R.v .aH,xs++ys)) (.of (by show(match r.ft with|some ys=>_|none=>_)=_;rw[c];show(hK (xs.length+ys.length<=alP) >>= _)=_;rw[JM z];rfl))).bind rfl)))
def aie{mo mk:bt}{mv:eD}{xs:List D}{r:R}{d:D}{j:Nat}(c:bQ S (mv U) r S1)(e:r.dat=pure d)(ag:aF S1 (mo U) (.v (.ref i)))(ah:aF S1 (mk U) (.v (.int j)))(h:S1[i]? = some (.l xs))(f:j<xs.length):bQ S (Bh mo mk mv U) (.bu U) (S1.set i (.l (xs.set j d))):=
 c.bind ((aF.of e).to.bind (ag.to.bind (ah.to.bind ((oS h).to.bind (by show bQ S1 (if 0<=(j:Int)/\(j:Int)<xs.length then _ else _) _ _;rw[if_pos ⟨by omega,by omega⟩];rfl)))))
def G0{mf:dV}{mo:bt}{ms:hG}{aS:List (Str×D)}{rs:List R}{r:R}(h:S[i]? = some (.a8 c aS))(ag:aF S (mo U) (.v (.ref i)))(d:aS.lookup m=none)(ah:bQ S (ms U) rs S1)(hs:rs.all R.hu=true)(e:bQ S1 (mf (.ref i::rs.map R.arg)) r aY):bQ S (dS c m mf mo ms U) r aY:=ag.to.bind ((oS h).to.bind (by show bQ S (if c=c/\aS.lookup m=none then _ else _) _ _;rw[if_pos ⟨rfl,d⟩];exact ah.bind (by rw[if_pos hs];exact e)))
def Bn{m:eD}{r:R}(h:bQ S (m U) r S1):bQ S (sx m ai U) [r] S1:=h.bind rfl
def kN(H:dF S i p h)(c:I k U=pure (.v (.ref i)))(e:p.aS.lookup f=some d):aF S (bf (bU "House" f) (I k) U) (.v d):=NU H.a8 (.of c) e
def aa5(H:dF S i p h):aF S (kT [.ref i]) (.v (.int h.ls.length)):=jO rfl (iD (v' rfl (bT (nH H.ls (kN H rfl rfl)) cI)))
def qk(H:dF S i p h)(c:I k U=pure (.v (.ref i))):aF S (cP "House" "many" kT (I k) ai U) (.v (.int h.ls.length)):=f5 H.a8 (.of c) rfl cI (aa5 H)
def Ou(H:dF S i p h)(e:h.ls[k]? = some d):aF S (tI [.ref i,.int k]) (.v d):=by
 have c:=(alK.mp e).1;exact jO rfl (ql (qi (nI (je (cH (eJ (rs:=[.v (.int k)]) (.of rfl) (.of (pH _))))) (je (cH (EA (y:=.v (.int k)) (.of rfl) (.of rfl) (by show pure (R.v (.ax (decide ((0:Int)<=k))))=_;rw[decide_eq_true (by omega)]) (qk H rfl) (r:=.v (.ax true)) (by show pure (R.v (.ax (decide ((k:Int)<h.ls.length))))=_;rw[decide_eq_true (by omega)]))))) (.of rfl))
  (iD (cL (v9 (kx k e)) (nH H.ls (kN H rfl rfl)) (.of rfl))))
def Sf(H:dF S i p h)(e:p.q[k]? = some x):aF S (oY [.ref i,.int k]) (.v (.ref x.1)):=by
 have c:=(alK.mp e).1;exact jO rfl (ql (qi (nI (je (cH (eJ (rs:=[.v (.int k)]) (.of rfl) (.of (pH _))))) (je (cH (EA (y:=.v (.int k)) (.of rfl) (.of rfl) (by show pure (R.v (.ax (decide ((0:Int)<=k))))=_;rw[decide_eq_true (by omega)]) (v' rfl (bT (nH H.al (kN H rfl rfl)) cI)) (r:=.v (.ax true)) (by show pure (R.v (.ax (decide ((k:Int)<((p.q.map λx=>aC.D.ref x.1).length:Nat)))))=_;rw[alM,decide_eq_true (by omega)]))))) (.of rfl))
  (iD (cL (v9 (kx k (by rw[al4,e];rfl))) (nH H.al (kN H rfl rfl)) (.of rfl))))
def ts(H:dF S i p h)(e:p.q[k]? = some x)(c:I j U=pure (.v (.ref i)))(hl:I l U=pure (.v (.int k))):aF S (cP "House" "asker_of" oY (I j) (aa (I l) ai) U) (.v (.ref x.1)):=f5 H.a8 (.of c) rfl (bT (.of hl) cI) (Sf H e)
def Pp(A:dt S j g a):aF S (zW [.ref j]) (.v a.cS):=jO rfl (iD (c3 A rfl rfl))
def O7(A:dt S j g a):aF S (zV [.ref j]) (.v (.int a.wi)):=jO rfl (iD (c3 A rfl rfl))
def Gu(A:dt S j g a):aF S (tH [.ref j]) (.v (.str a.bP)):=jO rfl (iD (c3 A rfl rfl))
def aeE(A:dt S j g a):aF S (E9 [.ref j]) (.v (.t [.int a.cm,a.h,a.op])):=jO rfl (iD (oT (bT (c3 A rfl rfl) (bT (c3 A rfl rfl) (bT (c3 A rfl rfl) cI))) rfl (amE rfl)))
def aab(A:dt S j g a):aF S (E7 [.ref j]) (.v (.ax a.bK)):=jO rfl (iD (c3 A rfl rfl))
def wa{mf:bj}{r:R}(A:dt S j g a)(c:I l U=pure (.v (.ref j)))(d:(a.aS g).lookup m=none)(e:aF S (mf [.ref j]) r):aF S (cP "Asker" m mf (I l) ai U) r:=f5 A.a8 (.of c) d cI e
theorem Nl(H:dF S i p h)(e:h.as[k]? = some a):aF S (wu [.ref i,.int k]) (.v (.str a.bP)):=by
 obtain⟨x,ex,A⟩:=H.ex e;exact jO rfl (iD (f5 A.a8 (ts H ex rfl rfl) rfl cI (Gu A)))
theorem Nk(H:dF S i p h)(e:h.as[k]? = some a):aF S (tJ [.ref i,.int k]) (.v (.t [.int a.cm,a.h,a.op])):=by
 obtain⟨x,ex,A⟩:=H.ex e;exact jO rfl (iD (f5 A.a8 (ts H ex rfl rfl) rfl cI (aeE A)))
theorem Nj(H:dF S i p h)(e:h.as[k]? = some a):aF S (wt [.ref i,.int k]) (.v (.ax a.bK)):=by
 obtain⟨x,ex,A⟩:=H.ex e;exact jO rfl (iD (f5 A.a8 (ts H ex rfl rfl) rfl cI (aab A)))
end
variable{S:bI}{i:Nat}{p:hD}{h:cv}
def D2(H:dF S i p h):aF S (wq [.ref i]) (.fr h.rs):=EE rfl (tu (v' rfl (bT (nH H.rs (kN H rfl rfl)) cI)))
end dI
namespace dI
open PySem PySem.Spec aA aC iN fX i7
variable{S:bI}{i k:Nat}{p:hD}{h:cv}
def sd(H:dF S i p h):aF S (oZ [.ref i]) (.fr h.ls):=EE rfl (tu (v' rfl (bT (nH H.ls (kN H rfl rfl)) cI)))
def TN(H:dF S i p h)(e:h.bs[k]? = some d):aF S (E_ [.ref i,.int k]) (.v d):=jO rfl (iD (cL (v9 (kx k e)) (nH H.bs (kN H rfl rfl)) (.of rfl)))
end dI
namespace dI
open PySem PySem.Spec aA aC iN fX i7
section
variable{h h':cv}{k:Nat}{a b:bG}{Y:List D}{d:D}
def Bf(h:cv)(L:List D)(hz:h.ls.length+L.length<=1000000):h.Do tK [.l L] (.fr (ec h.ls.length L.length)) (h.wr L):=λS i p H=>by
 have W:=H.wr L;have j:(1000000:Int)<2 ^ 62:=by decide
 have g:1000000<=2 ^ 24:=by decide
 have c:∀n,n<=1000000->n<=alP:=λn m=>by rw[ama];omega
 have f:we [.v (.int (h.ls.length:Nat)),.v (.int ((h.wr L).ls.length:Nat))]=pure (.fr (ec h.ls.length L.length)):=by
  have e:(h.wr L).ls.length=h.ls.length+L.length:=alN;rw[UW,e,show(((h.ls.length+L.length:Nat):Int)-(h.ls.length:Nat)).toNat=L.length by omega,if_pos ⟨⟨by omega,by omega,by omega,by omega⟩,by omega,c _ (by omega)⟩];rfl
 exact⟨_,p,uS rfl<|dO (aF.to (i0 (qk H rfl) rfl))<|dO (aid (kN H rfl rfl) (bT (x:=.b4 L) (.of rfl) cI) rfl H.ls (c _ hz))<|aF.to (tu (ZV (bT (.of rfl) (bT (qk W.at' rfl) cI)) f)),W⟩
def Tx(e:h.as[k]? = some a)(g:a.Do tE [] Y b)(hz:h.ls.length+Y.length<=1000000):h.Do zX [.int k] (.fr (ec h.ls.length Y.length)) ((h.put k b).wr Y):=λS i p H=>by
 obtain⟨x,ex,A⟩:=H.ex e;obtain⟨S1,n,m,l⟩:=g S x.1 x.2 A;have c:=H.step ex e l;obtain⟨f,cj,j,s2⟩:=Bf (h.put k b) Y hz S1 i _ c.at';exact⟨f,cj,uS rfl (xQ (G0 (rs:=[.fr Y]) H.a8 (.of rfl) rfl (Bn (k7 (rs:=[]) A.a8 (ts H ex rfl rfl) rfl rfl rfl m)) rfl j)),c.trans s2⟩
def Y0(e:h.as[k]? = some a)(hd:b0 d=.v d)(g:a.Do zT [d] Y b)(hz:h.ls.length+Y.length<=1000000)(r:h.rs.length<=100000) :
  h.Do mA [.int k,d] (.fr (ec h.ls.length Y.length)) (((h.put k b).row (.t [.str "begin",.int k,.int b.wi,d,.int h.ls.length])).wr Y):=λS i p H=>by
 obtain⟨x,ex,A⟩:=H.ex e;obtain⟨S1,s,n,j⟩:=g S x.1 x.2 A;have c:=H.step ex e j;have f:=c.at'.row (.t [.str "begin",.int k,.int b.wi,d,.int h.ls.length]);obtain⟨cN,m,q,s3⟩:=Bf ((h.put k b).row _) Y hz _ i _ f.at';refine⟨cN,m,uS rfl ?_,(c.trans f).trans s3⟩;show bQ S (HY [.v (.ref i),.v (.int k),b0 d,.e,.e]) _ _;rw[hd];refine dO (U':=[.v (.ref i),.v (.int k),.v d,.v (.ref x.1),.e]) (aF.to (i0 (ts H ex rfl rfl) rfl)) ?_;refine dO (U':=[.v (.ref i),.v (.int k),.v d,.v (.ref x.1),.v (.l Y)]) (sy (k7 (rs:=[.v d]) A.a8 (.of rfl) rfl (aF.to (.of rfl)) rfl n) rfl) ?_;refine dO (GY (kN c.at' rfl rfl) (bT (oT (bT (.of rfl) (bT (.of rfl) (bT (wa j.at' rfl rfl (O7 j.at')) (bT (x:=.v d) (.of rfl) (bT (qk c.at' rfl) cI))))) rfl (amE rfl)) cI) c.at'.rs (by show h.rs.length < _;rw[ama];omega)) ?_;exact xQ (k7 (rs:=[.v (.l Y)]) f.at'.a8 (.of rfl) rfl (aF.to (.of rfl)) rfl q)
theorem agV{w x f b c y e s:D}(l:h.bs[k]? = some b)(g:mB [b,.t [w,x,.int k,e,s,f]]=pure (.v (.t [c,y]))) :
  h.Do wo [.t [w,x,.int k,e,s,f]] (.fr [y]) (h.bk k c):=λS i p H=>
 ⟨_,p,uS rfl<|dO (U':=[.v (.ref i),.v (.t [w,x,.int k,e,s,f]),.v (.t [c,y])]) (aF.to (i0 (eJ (rs:=[.v b,.v (.t [w,x,.int k,e,s,f])]) (bT (cL (v9 (kx k l)) (nH H.bs (kN H rfl rfl)) (.of rfl)) (bT (.of rfl) cI)) (.of g)) rfl))<|
  dO (aie (j:=k) (aF.to (a:=.v c) (.of rfl)) rfl (kN H rfl rfl) (.of rfl) H.bs (alK.mp l).1) (aF.to (.of rfl)),H.bk k c⟩
def agT{w x f e s:D}(n:h.as[k]? = some a)(hs:a.j2)(F:b.j2)(g:a.Do kc [.t [w,x,.int k,e,s,f]] Y b)(G:h.rs.length<=100000) :
  h.Do rZ [.t [w,x,.int k,e,s,f]] (.v (.l Y)) (if(!(a.bP == "calm")&&(b.bP == "calm"))=true then(h.put k b).row (.t [.str "end",.int k,.int b.wi,b.cS,.int h.ls.length])else h.put k b):=λS i p H=>by
 obtain⟨q,ex,A⟩:=H.ex n;obtain⟨S1,K,E,r⟩:=g S q.1 q.2 A;have j:=H.step ex n r;have B:=r.at';have pre:∀{m:bI},bQ S1 (H0 [.v (.ref i),.v (.t [w,x,.int k,e,s,f]),.v (.ref q.1),.v (.str a.bP),.v (.l Y)]) (.cp (.v (.l Y))) m->bQ S (rZ [.ref i,.t [w,x,.int k,e,s,f]]) (.v (.l Y)) m:=λt=>by
  refine GZ rfl ?_;refine dO (U':=[.v (.ref i),.v (.t [w,x,.int k,e,s,f]),.v (.ref q.1),.e,.e]) (aF.to (i0 (cL (v9 (kx k (by rw[al4,ex];rfl))) (nH H.al (kN H rfl rfl)) (.of rfl)) rfl)) ?_;refine dO (U':=[.v (.ref i),.v (.t [w,x,.int k,e,s,f]),.v (.ref q.1),.v (.str a.bP),.e]) (aF.to (i0 (wa A rfl rfl (Gu A)) rfl)) ?_;exact dO (U':=[.v (.ref i),.v (.t [w,x,.int k,e,s,f]),.v (.ref q.1),.v (.str a.bP),.v (.l Y)]) (sy (k7 (rs:=[.v (.t [w,x,.int k,e,s,f])]) A.a8 (.of rfl) rfl (aF.to (.of rfl)) rfl E) rfl) t
 have bf:aF S1 (aU (ae dX (I 3) (af (.str "calm"))) [.v (.ref i),.v (.t [w,x,.int k,e,s,f]),.v (.ref q.1),.v (.str a.bP),.v (.l Y)]) (!(a.bP == "calm")):=cH (cL (yF hs) (.of rfl) (.of rfl));have ae:aF S1 (aU (ae oEq (cP "Asker" "stand" tH (I 2) ai) (af (.str "calm"))) [.v (.ref i),.v (.t [w,x,.int k,e,s,f]),.v (.ref q.1),.v (.str a.bP),.v (.l Y)]) (b.bP == "calm"):=cH (cL (calm_eq F) (wa B rfl rfl (Gu B)) (.of rfl));have no:(!(a.bP == "calm")&&(b.bP == "calm"))=false->∃m y,bQ S (rZ [.ref i,.t [w,x,.int k,e,s,f]]) (.v (.l Y)) m/\jZ S m i p y (h.put k b):=λz=>by
  refine⟨_,_,pre (dO (Bm (aF.to (a:=false) ?_) rfl) (aF.to (.of rfl))),j⟩
  cases av:(!(a.bP == "calm"))with
  |false=>rw[av]at bf;exact oR bf|true=>rw[av]at bf z;rw[Bool.true_and]at z;rw[z]at ae;exact jd bf ae
 by_cases c:(!(a.bP == "calm")&&(b.bP == "calm"))=true
 .rw[if_pos c]
  rw[amc]at c;rw[c.1]at bf;rw[c.2]at ae;have u:=j.at'.row (.t [.str "end",.int k,.int b.wi,b.cS,.int h.ls.length]);exact⟨_,_,pre (dO (xO (aF.to (jd bf ae)) (GY (kN j.at' rfl rfl) (bT (oT (bT (.of rfl) (bT (.of rfl) (bT (wa B rfl rfl (O7 B)) (bT (wa B rfl rfl (Pp B)) (bT (qk j.at' rfl) cI))))) rfl (amE rfl)) cI) j.at'.rs (by show h.rs.length < _;rw[ama];omega))) (aF.to (.of rfl))),j.trans u⟩
 .rw[if_neg c]
  exact no (by simpa using c)
def JA{S c:bI}(H:dF S i p h)(e:h.ls[k]? = some d)(t:bQ S (HZ [.v (.ref i),.v (.int k),.v d]) (.cp (.fr Z)) c):bQ S (nM [.ref i,.int k]) (.fr Z) c:=
 uS rfl (dO (U':=[.v (.ref i),.v (.int k),.v d]) (aF.to (i0 (f5 H.a8 (.of rfl) rfl (bT (x:=.v (.int k)) (.of rfl) cI) (Ou H e)) rfl)) t)
def TQ(e:h.ls[k]? = some d)(q:o1 [d]=pure (.v (.ax true)))(g:h.Do wo [d] (.fr Y) h')(hl:h'.ls=h.ls)(hz:h.ls.length+Y.length<=1000000):h.Do nM [.int k] (.fr (ec h.ls.length Y.length)) (h'.wr Y):=λS i p H=>by
 obtain⟨S1,p1,l,c⟩:=g S i p H;have w:=Bf h' Y (by rw[hl];exact hz);rw[hl]at w;obtain⟨f,cj,j,s2⟩:=w S1 i p1 c.at';exact⟨f,cj,JA H e (Bo (xO (aF.to (cH (eJ (rs:=[.v d]) (.of rfl) (.of q)))) (xQ (G0 (rs:=[.fr Y]) H.a8 (.of rfl) rfl (Bn (k7 (rs:=[.v d]) H.a8 (.of rfl) rfl (aF.to (.of rfl)) rfl l)) rfl j)))),c.trans s2⟩
def TP(e:h.ls[k]? = some d)(q:o1 [d]=pure (.v (.ax false)))(g:h.Do rZ [d] (.v (.l Y)) h')(hl:h'.ls=h.ls)(hz:h.ls.length+Y.length<=1000000):h.Do nM [.int k] (.fr (ec h.ls.length Y.length)) (h'.wr Y):=λS i p H=>by
 obtain⟨S1,p1,m,c⟩:=g S i p H;have w:=Bf h' Y (by rw[hl];exact hz);rw[hl]at w;obtain⟨f,cj,j,s2⟩:=w S1 i p1 c.at';exact⟨f,cj,JA H e (Rf (aF.to (cH (eJ (rs:=[.v d]) (.of rfl) (.of q)))) (xQ (G0 (rs:=[.v (.l Y)]) H.a8 (.of rfl) rfl (Bn (k7 (rs:=[.v d]) H.a8 (.of rfl) rfl (aF.to (.of rfl)) rfl m)) rfl j))),c.trans s2⟩
end
def kf(n:Nat)(a:D):cv:=⟨(ame n).map λ(i:Nat)=>t8 (i:Int) a,amm 6 (.t []),[],[]⟩
def kk(T n:Nat):List (Nat×Nat):=(ame n).map λj=>(T+2*j,T+2*j+1)
def xf(e:(kk T n)[k]? = some x):k<n/\x=(T+2*k,T+2*k+1):=by
 unfold kk at e;rw[al4]at e
 by_cases a:k<n
 .rw[anp a]at e;cases e;exact⟨a,rfl⟩
 .rw[aot (by simpa using a)]at e;cases e
theorem ON(cD:b0 hall=.v hall):∀(n m:Nat)(T:bI),∃a,bQ T (Bp (lY "Asker" tD (dR (aa (I 0) (aa (I 1) ai)))) [.e,.v hall] ((List.range' m n).map λ(i:Nat)=>D.int (i:Int))) ((kk T.length n).map λx=>.ref x.1) a/\Fr [] T a/\a.length=T.length+2*n/\
  ∀j,j<n->dt a (T.length+2*j) (T.length+2*j+1) (t8 ((m+j:Nat):Int) hall)
 |0,m,T=>⟨T,rfl,.refl,rfl,λj d=>absurd d (am5 _)⟩
 |n+1,m,T=>by
  obtain⟨c,k,A,f,h⟩:=Zt T (m:Int) hall cD;obtain⟨l,g,b,p,B⟩:=ON cD n (m+1) c;have mk:bQ T (lY "Asker" tD (dR (aa (I 0) (aa (I 1) ai))) [.v (.int m),.v hall]) (.v (.ref T.length)) c:=xP (rs:=[.v (.int m),.v hall]) (.of rfl) rfl k;have eq:kk T.length (n+1)=(T.length,T.length+1)::kk c.length n:=by
   unfold kk;rw[List.range_succ_eq_map,alZ,anM,f];refine List.cons_eq_cons.mpr ⟨rfl,apl λj _=>?_⟩;show(T.length+2*(j+1),T.length+2*(j+1)+1)=_;rw[show T.length+2*(j+1)=T.length+2+2*j by omega]
  refine⟨l,?_,h.trans b,by omega,λj d=>?_⟩
  .rw[eq,List.range'_succ]
   exact mk.bind (g.bind rfl)
  .cases j with
   |zero=>exact⟨b _ _ amw A.a8,b _ _ amw A.ls⟩|succ j=>
    have:=B j (by omega);rw[f,show m+1+j=m+(j+1)by omega,show T.length+2+2*j=T.length+2*(j+1)by omega]at this;exact this
def AB{σ a:bI}{aS:List (Str×D)}{m:eD}(h:bQ σ (m U) (.fr xs) a)(hi:a[i]? = some (.a8 "House" aS))(d:I 0 U=pure (.v (.ref i)))(hl:aS.length<1000):∃b,bQ σ (dN "House" f (I 0) (lZ m) U) (.bu U) b/\b[i]? = some (.a8 "House" (ij f (.ref a.length) aS))/\b[a.length]? = some (.l xs)/\(∀y o,y≠i->a[y]? = some o->b[y]? = some o)/\b.length=a.length+1:=by
 have c:(a++[gc.l xs])[i]? = some (.a8 "House" aS):=Fr.app (W:=[]) _ _ amw hi;have g:bQ σ (lZ m U) (.v (.ref a.length)) (a++[gc.l xs]):=bQ.bind h (show bQ a (do let S <-y5;putN (S++[gc.l xs]);pure (R.v (D.ref S.length))) _ _ from rfl);refine⟨_,x_at g rfl (.of d) c hl,get_set c,?_,λy o j e=>?_,by rw[amr,alN];rfl⟩
 .rw[alU (amo (kS hi)),DE]
 .rw[alU (anH j)]
  exact Fr.app (W:=[]) _ _ amw e
def Y3(S:bI){n:Nat}(ag:1<=n)(gj:n<=6){b:D}(cD:b0 b=.v b)(q:o3 [b]=pure (.v (.ax true))):∃d p,bQ (S++[.a8 "House" []]) (rY [.ref S.length,b,.int n]) (.v .aH) d/\dF d S.length p (kf n b)/\Fr [] S d/\S.length<=d.length/\∀y,p.has S.length y->S.length<=y:=by
 have zu:(S++[gc.a8 "House" []])[S.length]? = some (.a8 "House" []):=DE;have rR:(S++[gc.a8 "House" []]).length=S.length+1:=by rw[alN];rfl
 obtain⟨h,G,N,C,A⟩:=ON cD n 0 (S++[.a8 "House" []]);rw[rR]at G C A;have bf:bQ (S++[gc.a8 "House" []]) (xM 1 [1] (gY (aa (I 2) ai)) (lY "Asker" tD (dR (aa (I 0) (aa (I 1) ai)))) [.v (.ref S.length),.v b,.v (.int n)]) (.fr ((kk (S.length+1) n).map λx=>.ref x.1)) h:=by
  have xh:-4611686018427387904<=(n:Int)/\(n:Int)<4611686018427387904:=by omega
  have oy:((List.range' 0 n).map λ(i:Nat)=>D.int (i:Int))=ec 0 n:=by
   rw[<-List.range_eq_range'];exact apl λi _=>by rw[Int.zero_add]
  rw[oy]at G;refine bQ.bind (a:=ec 0 n) (aF.to (.of (by simp[xh]))) ?_;rw[if_pos (by rw[mP,ama];omega)];exact G.bind rfl
 obtain⟨F,J,fp,a2,d7,cg⟩:=AB (f:="askers") bf (N _ _ amw zu) rfl (mz rfl);have fA:aF F (eA 1 [] (gY (aa (af (.int 6)) ai)) eM (bL ai) [.v (.ref S.length),.v b,.v (.int n)]) (.fr (amm 6 (.t []))):=.of (yJ (ds:=ec 0 6) rfl (by rw[mP,ama];omega) rfl);obtain⟨u,t3,P,fI,O,Ob⟩:=AB (f:="books") (m:=dy (eA 1 [] (gY (aa (af (.int 6)) ai)) eM (bL ai))) fA.to fp rfl (mz rfl);obtain⟨K,xy,T,iQ,H,Z⟩:=AB (σ:=u) (U:=[.v (.ref S.length),.v b,.v (.int n)]) (f:="letters") (m:=dy (dW ai)) (xs:=[]) rfl P rfl (mz rfl);obtain⟨L,Q,V,jz,s,Y⟩:=AB (σ:=K) (U:=[.v (.ref S.length),.v b,.v (.int n)]) (f:="rows") (m:=dy (dW ai)) (xs:=[]) rfl T rfl (mz rfl);have up:∀y o,y≠S.length->h[y]? = some o->L[y]? = some o:=λy o l e=>s y o l (H y o l (O y o l (d7 y o l e)))
 have E:h.length≠S.length:=by omega
 have M:F.length≠S.length:=by omega
 have ke:u.length≠S.length:=by omega
 refine⟨L,⟨h.length,F.length,u.length,K.length,kk (S.length+1) n⟩,Bk (U':=[.v (.ref S.length),.v b,.v (.int n)]) rfl ?_,⟨V,s _ _ E (H _ _ E (O _ _ E a2)),s _ _ M (H _ _ M fI),s _ _ ke iQ,jz,?_,λk x a ex g=>?_,?_,λx w=>?_,λj k x y fS hb ne=>?_⟩,λj o a' e=>up j o (by have:=kS e;omega) (N _ _ amw (Fr.app (W:=[]) _ _ amw e)),by omega,λy X=>?_⟩
 .show bQ _ (HX [.v (.ref S.length),b0 b,.v (.int n)]) _ _
  rw[cD];refine xR (je (cH (eJ (rs:=[.v b]) (.of rfl) (.of q)))) ?_;refine xR (nI (je (cH (eJ (rs:=[.v (.int n)]) (.of rfl) (.of (pH _))))) (je (cH (EA (y:=.v (.int n)) (.of rfl) (.of rfl) (by show pure (R.v (.ax (decide ((1:Int)<=n))))=_;rw[decide_eq_true (by omega)]) (.of rfl) (r:=.v (.ax true)) (by show pure (R.v (.ax (decide ((n:Int)<=6))))=_;rw[decide_eq_true (by omega)]))))) ?_;exact dO J (dO t3 (dO xy Q))
 .unfold kk kf;simp
 .obtain⟨c,rfl⟩:=xf ex
  have g:((ame n).map λ(i:Nat)=>t8 (i:Int) b)[k]? = some a:=g;rw[al4,anp c]at g;cases g;have B:=A k c;rw[an3]at B;exact⟨up _ _ (by show _+1+2*k≠_;omega) B.a8,up _ _ (by show _+1+2*k+1≠_;omega) B.ls⟩
 .simp only[amK,alY,amw,or_false,not_or,not_false_eq_true,apu,and_true]
  omega
 .obtain⟨k,c⟩:=aos.mp w
  obtain⟨c,rfl⟩:=xf c;simp only[alY,amw,or_false,not_or];omega
 .obtain⟨_,rfl⟩:=xf fS
  obtain⟨_,rfl⟩:=xf hb;constructor<;>dsimp only<;>omega
 .rcases X with z|z|⟨x,w,z⟩
  .omega
  .simp only[alY,amw,or_false]at z
   omega
  .obtain⟨k,c⟩:=aos.mp w
   obtain⟨c,rfl⟩:=xf c;rcases z with z|z<;>rw[z]<;>dsimp only<;>omega
abbrev m9:=fs.κ.toKeyOrd
structure c5 where
 cs:sJ
 ds:List (Int×D)
 f:Int
 t:D
 aW:D
def c5.D(s:c5):aC.D:=.t [.t (s.cs.map (·.2)),.t (s.ds.map (·.2)),.t [.int s.f,s.t],s.aW]
inductive c9 where
 |put (a:List Nat) (n:Int)|add (a:List Nat) (n:Int)|swap (a:List Nat) (o n:Int)|take (g:Int)|renew (g:Int)|free (g:Int)|sure (g:Int) (a:List Nat) (n:Int)|move (h:D)|fin
def c9.D:c9->aC.D
 |.put a n=>.t [.str "put",.str (a7 a),.int n]|.add a n=>.t [.str "add",.str (a7 a),.int n]|.swap a o n=>.t [.str "swap",.str (a7 a),.int o,.int n]|.take g=>.t [.str "take",.int g]|.renew g=>.t [.str "renew",.int g]|.free g=>.t [.str "free",.int g]|.sure g a n=>.t [.str "sure",.int g,.str (a7 a),.int n]|.move h=>.t [.str "move",h]|.fin=>.t [.str "end"]
def eU:Option c9->aC.D
 |none=>.aH|some d=>d.D
def c5.cell(s:c5)(a:List Nat):Int:=lA (fm (Q:=e8) s.cs a)
def c5.put(s:c5)(a:List Nat)(n:Int):c5:={ s with cs:=k4 s.cs a n }
def c5.tZ(s:c5)(g i:Int):Bool:=s.f==g&&eo s.t (.int i)
def eG(s:c5)(i:Int):c9->c5×aC.D
 |.put a n=>(s.put a n,.int (s.cell a))
 |.add a n=>(s.put a (s.cell a+n),.int (s.cell a+n))
 |.swap a o n=>if s.cell a=o then(s.put a n,.int 1)else(s,.int 0)
 |.take g=>if s.f=g then({ s with f:=g+1,t:=.int i },.t [.int 1,.int (g+1),.int i])else(s,.t [.int 0,.int s.f,s.t])
 |.renew g=>if s.tZ g i=true then({ s with f:=g+1,t:=.int i },.t [.int 1,.int (g+1),.int i])else(s,.t [.int 0,.int s.f,s.t])
 |.free g=>if s.tZ g i=true then({ s with f:=g+1,t:=.aH },.t [.int 1,.int (g+1),.aH])else(s,.t [.int 0,.int s.f,s.t])
 |.sure g a n=>if s.tZ g i=true then(s.put a n,.int 1)else(s,.int 0)
 |.move h=>({ s with aW:=h },.int 1)
 |.fin=>({ s with aW:=.str "over" },.int 1)
structure fP(G:aC.D->Prop)(W:List (List Nat))(s:c5):Prop where
 row:∀x∈s.cs,l3 x
 rise:lq e8 s.cs
 nm:∀x∈s.cs,x.1∈W
 num:∀x∈s.ds,qZ x
 ov:lq m9 s.ds
 dd:∀x∈s.ds,0<=x.1/\x.1<6
 eT:s.t=.aH\/∃i:Int,s.t=.int i
 aW:s.aW=.aH\/s.aW=.str "over"\/(∃xs,s.aW=.t xs)/\G s.aW
 rm:∀x∈s.ds,aC.Ok 2 x.2
def l4(G:aC.D->Prop)(W:List (List Nat)):c9->Prop
 |.put a _=>l9 a/\a∈W|.add a _=>l9 a/\a∈W|.swap a _ _=>l9 a/\a∈W|.sure _ a _=>l9 a/\a∈W|.move h=>(∃xs,h=.t xs)/\G h|_=>True
def afM{z:Int}(b:0<=z)(a:z<6):z∈([0,1,2,3,4,5]:List Int):=by
 have e:z=0\/z=1\/z=2\/z=3\/z=4\/z=5:=by omega
 rcases e with e|e|e|e|e|e<;>rw[e]<;>simp
section
variable{G:aC.D->Prop}{W:List (List Nat)}{s:c5}(h:fP G W s)
include h
theorem fP.cl:s.cs.length<=W.length:=by
 have:=anf (l₂:=W) h.rise.nodup λx b=>by
  obtain⟨y,a,rfl⟩:=amd.mp b;exact h.nm y a
 rwa[alM]at this
theorem fP.dl:s.ds.length<=6:=by
 have:=anf (l₂:=([0,1,2,3,4,5]:List Int)) h.ov.nodup λx b=>by
  obtain⟨y,a,rfl⟩:=amd.mp b;exact afM (h.dd y a).1 (h.dd y a).2
 rw[alM]at this;exact this
theorem fP.cf:s.t.bY 63=true:=by rcases h.eT with e|⟨i,e⟩<;>rw[e]<;>rfl
theorem fP.ss:b0 s.aW=.v s.aW:=by rcases h.aW with e|e|⟨⟨xs,e⟩,_⟩<;>rw[e]<;>rfl
theorem adC(b:W.length<63)(i:Int)(hd:l4 G W d):e' [s.D,.int i,d.D]=pure (.v (.t [(eG s i d).1.D,(eG s i d).2])):=by
 have hl:s.cs.length<63:=by have:=h.cl;omega
 have cf:=h.cf;obtain⟨cs,ds,f,t,aW⟩:=s
 cases d with
 |put a n=>exact adR h.row h.rise hl _ _ _ hd.1 n i|add a n=>exact adN h.row h.rise hl _ _ _ hd.1 n i|swap a o n=>
  refine(adU h.row h.rise hl _ _ _ hd.1 n i o).trans ?_;unfold eG c5.cell;dsimp only
  by_cases c:lA (fm (Q:=e8) cs a)=o
  .rw[if_pos c,if_pos c];rfl
  .rw[if_neg c,if_neg c];rfl
 |take g=>
  refine(adV _ _ _ i f g t).trans ?_;unfold eG;dsimp only
  by_cases c:f=g
  .rw[if_pos c,if_pos c];rfl
  .rw[if_neg c,if_neg c];rfl
 |renew g=>
  refine(adS _ _ _ i f g t cf).trans ?_;unfold eG c5.tZ;dsimp only
  by_cases c:(f==g&&eo t (.int i))=true
  .rw[if_pos c,if_pos c];rfl
  .rw[if_neg c,if_neg c];rfl
 |free g=>
  refine(adP _ _ _ i f g t cf).trans ?_;unfold eG c5.tZ;dsimp only
  by_cases c:(f==g&&eo t (.int i))=true
  .rw[if_pos c,if_pos c];rfl
  .rw[if_neg c,if_neg c];rfl
 |sure g a n=>
  refine(adT h.row h.rise hl _ _ hd.1 n i f g t cf).trans ?_;unfold eG c5.tZ;dsimp only
  by_cases c:(f==g&&eo t (.int i))=true
  .rw[if_pos c,if_pos c];rfl
  .rw[if_neg c,if_neg c];rfl
 |move z=>
  obtain⟨⟨xs,rfl⟩,_⟩:=hd;exact adQ _ _ _ _ i _ rfl
 |fin=>exact adO _ _ _ _ i
end
def c5.last(s:c5)(i:Int):Int:=r2 (fm (Q:=m9) s.ds i)
def p8(s:c5)(i n:Int):Option c9->c5
 |none=>s|some d=>if(gA s.aW)=true/\s.last i<n then{ (eG s i d).1 with ds:=kj (Q:=m9) s.ds (i,.t [.int i,.int n,(eG s i d).2]) }else s
def adA(s:c5)(i:Int)(d:c9):(eG s i d).1.ds=s.ds:=by
 cases d<;>unfold eG<;>first|rfl|(dsimp only;split<;>rfl)
section
variable{G:aC.D->Prop}{W:List (List Nat)}{s:c5}(h:fP G W s)
include h
theorem adI(i:Int)(d:c9):b0 (eG s i d).2=.v (eG s i d).2:=by
 cases d<;>unfold eG<;>first|rfl|(dsimp only;split<;>rfl)
theorem UR(q:W.length<63)(i n:Int)(hd:∀x,d=some x->l4 G W x):nN [s.D,.int i,.int n,eU d]=pure (.v (p8 s i n d).D):=by
 cases d with
 |none=>exact LR h.num _ _ _ i n .aH rfl (.inl rfl)|some d=>
  have hd:=hd d rfl;unfold p8;dsimp only;have rl:∃xs,d.D=.t xs:=by cases d<;>exact⟨_,rfl⟩
  obtain⟨xs,rl⟩:=rl
  by_cases c:(gA s.aW)=true/\s.last i<n
  .rw[if_pos c]
   have a:=adC h q i hd;have b:=adA s i d;have os:=adI h i d;have g:s.aW=.aH:=by
    rcases h.aW with e|e|⟨⟨xs,e⟩,_⟩
    .exact e
    .rw[e]at c;cases c.1
    .rw[e]at c;cases c.1
   have r:=h.dl;have k:=h.ov.nodup;have l:=h.num;generalize eG s i d=o at *;obtain⟨⟨j,p,m,t',sh'⟩,v⟩:=o;obtain⟨cs,ds,f,t,aW⟩:=s;dsimp only at b os g a r ⊢;subst b g;show nN [_,_,_,d.D]=_;unfold c5.D at a ⊢;dsimp only at a ⊢;rw[rl]at a ⊢;have av:=UQ l (.t (cs.map (·.2))) (.t [.int f,t]) i n xs c.2 (show p.length<63 by omega) k (c':=.t (j.map (·.2))) (le':=.t [.int m,t']) (sh':=sh') (v:=v);exact av a os
  .rw[if_neg c]
   show nN [_,_,_,d.D]=_;rw[rl];refine LR h.num _ _ _ i n (.t xs) rfl (.inr ⟨⟨_,rfl⟩,?_⟩);rcases h.aW with e|e|⟨⟨zs,e⟩,_⟩
   .refine .inr (.inr ⟨e,?_⟩)
    rw[e]at c;have:¬s.last i<n:=λz=>c ⟨rfl,z⟩
    unfold c5.last at this;omega
   .exact .inl e
   .exact .inr (.inl ⟨zs,e⟩)
end
section
variable{G:aC.D->Prop}{W:List (List Nat)}{s:c5}(h:fP G W s)
include h
theorem fP.put(c:l9 a)(hw:a∈W)(n:Int):fP G W (s.put a n) where
 row:=aho h.row c n
 rise:=ahn h.rise a n
 nm:=λx b=>by
  have b:x∈k4 s.cs a n:=b;unfold k4 at b;split at b
  .exact h.nm x ((vt (Q:=e8)).mp b).1
  .rcases(uo (Q:=e8)).mp b with⟨b,_⟩|rfl
   .exact h.nm x b
   .exact hw
 num:=h.num
 ov:=h.ov
 dd:=h.dd
 eT:=h.eT
 aW:=h.aW
 rm:=h.rm
theorem fP.lease(f:Int)(a:t=.aH\/∃i:Int,t=.int i):fP G W { s with f:=f,t:=t }:=⟨h.row,h.rise,h.nm,h.num,h.ov,h.dd,a,h.aW,h.rm⟩
theorem fP.shut{z:aC.D}(hz:z=.aH\/z=.str "over"\/(∃xs,z=.t xs)/\G z):fP G W { s with aW:=z }:=⟨h.row,h.rise,h.nm,h.num,h.ov,h.dd,h.eT,hz,h.rm⟩
theorem adF(i:Int)(hd:l4 G W d):fP G W (eG s i d).1:=by
 cases d with
 |put a n=>exact h.put hd.1 hd.2 n|add a n=>exact h.put hd.1 hd.2 _|swap a o n=>
  unfold eG;dsimp only;split
  .exact h.put hd.1 hd.2 n
  .exact h
 |take g=>
  unfold eG;dsimp only;split
  .exact h.lease _ (.inr ⟨_,rfl⟩)
  .exact h
 |renew g=>
  unfold eG;dsimp only;split
  .exact h.lease _ (.inr ⟨_,rfl⟩)
  .exact h
 |free g=>
  unfold eG;dsimp only;split
  .exact h.lease _ (.inl rfl)
  .exact h
 |sure g a n=>
  unfold eG;dsimp only;split
  .exact h.put hd.1 hd.2 n
  .exact h
 |move z=>exact h.shut (.inr (.inr hd))|fin=>exact h.shut (.inr (.inl rfl))
theorem adz(i:Int)(d:c9):aC.Ok 1 (eG s i d).2:=by
 have b:aC.Ok 0 s.t:=by
  rcases h.eT with e|⟨i,e⟩
  .rw[e];exact mK
  .rw[e];exact cQ
 cases d with
 |put a n=>exact cQ|add a n=>exact cQ|swap a o n=>
  unfold eG;dsimp only;split<;>exact cQ
 |take g=>
  unfold eG;dsimp only;split
  .exact mJ cQ cQ cQ
  .exact mJ cQ cQ b
 |renew g=>
  unfold eG;dsimp only;split
  .exact mJ cQ cQ cQ
  .exact mJ cQ cQ b
 |free g=>
  unfold eG;dsimp only;split
  .exact mJ cQ cQ mK
  .exact mJ cQ cQ b
 |sure g a n=>
  unfold eG;dsimp only;split<;>exact cQ
 |move z=>exact cQ|fin=>exact cQ
theorem LQ{i:Int}(c:0<=i)(b:i<6)(n:Int)(hd:∀x,d=some x->l4 G W x):fP G W (p8 s i n d):=by
 cases d with
 |none=>exact h|some d=>
  have o:=adF h i (hd d rfl);unfold p8;dsimp only;split
  .refine⟨o.row,o.rise,o.nm,?_,?_,?_,o.eT,o.aW,?_⟩
   .exact ac1 h.num i n _
   .exact F2 _ h.ov.nodup
   .intro x a
    rcases(uo (Q:=m9)).mp a with⟨a,_⟩|rfl
    .exact h.dd x a
    .exact⟨c,b⟩
   .intro x a
    rcases(uo (Q:=m9)).mp a with⟨a,_⟩|rfl
    .exact h.rm x a
    .exact mJ cQ cQ (adz h i d)
  .exact h
def c5.dk(s:c5)(i:Int):aC.D:=match fm (Q:=m9) s.ds i with
 |some (.t [_,_,z])=>z|_=>.aH
def c5.jj(s:c5):Bool:=match s.aW with
 |.str _=>true|_=>false
theorem UP(i:Int):qr [s.D,.int i]=pure (.v (.t [.int i,.int (s.last i),s.dk i])):=by
 have e:=C6 (λx a=>(h.num x a).p7) (.t (s.cs.map (·.2))) (.t [.int s.f,s.t]) s.aW i;refine e.trans ?_;unfold c5.last c5.dk
 cases q:fm (Q:=fs.κ.toKeyOrd) s.ds i with
 |none=>rfl|some d=>
  obtain⟨n,z,e⟩:=h.num _ (vC q);have e:d=.t [.int i,.int n,z]:=e;subst e;rfl
omit h in
theorem afL(s:c5):o6 [s.D]=pure (.v s.aW):=by unfold c5.D;simp[o6,Cx]
omit h in
theorem NJ(s:c5):mC [s.D]=pure (.v (.ax (!gA s.aW))):=by
 have:=v7 (.t (s.cs.map (·.2))) (.t (s.ds.map (·.2))) (.t [.int s.f,s.t]) s.aW;exact this.trans (Fw s.aW)
def c5.ki(s:c5):c5:={ s with aW:=.aH }
omit h in
theorem adu(s:c5):tX [s.D]=pure (.v s.ki.D):=by
 have:=GS (.t (s.cs.map (·.2))) (.t (s.ds.map (·.2))) (.t [.int s.f,s.t]) s.aW .aH rfl;unfold c5.D c5.ki;simp[tX,Ja,this]
theorem fP.ki:fP G W s.ki:=h.shut (.inl rfl)
theorem fP.ok(f:W.length<=1000)(c:∀z,G z->aC.Ok 9 z):aC.Ok 10 s.D:=by
 have d:=h.cl;have hd:=h.dl;refine w5 (n:=9) (kh (n:=3) (nV (n:=2) (by rw[alM];omega) λx b=>?_) (by decide)) (kh (n:=3) (nV (n:=2) (by rw[alM];omega) λx b=>?_) (by decide)) (kh (n:=1) (kg cQ ?_) (by decide)) ?_
 .obtain⟨y,a,rfl⟩:=amd.mp b
  obtain⟨w,n,_,e⟩:=h.row y a;rw[e];exact kh (n:=1) (kg (f6 w.1) cQ) (by decide)
 .obtain⟨y,a,rfl⟩:=amd.mp b
  exact h.rm y a
 .rcases h.eT with e|⟨i,e⟩
  .rw[e];exact mK
  .rw[e];exact cQ
 .rcases h.aW with e|e|⟨_,g⟩
  .rw[e];exact mK
  .rw[e];exact f6 (by decide +kernel)
  .exact c _ g
end
end dI
namespace dI
open PySem PySem.Spec aA aC
def Pu(bk:List dp)(e:Int):wL [.t (bk.map dC),.int e]=pure (.v (.t [bF (fb bk e).p1 (fb bk e).cj,bF (fb bk e).eF (fb bk e).d7,(fb bk e).bc])):=by
 have cut:∀g:dp,pd (.v (dC g)) (some 1) none=pure (.v (.t [bF g.p1 g.cj,bF g.eF g.d7,g.bc])):=λg=>by
  unfold dC;rw[L1,if_neg (by simp only[amk,am4];decide)];rfl
 have L:=s8 (b:=λd U=>zJ (U.set 2 (.v d))) dC (λg=>g.e==e) (λg=>.v (.t [bF g.p1 g.cj,bF g.eF g.d7,g.bc])) (λU=>∃s2,U=[.v (.t (bk.map dC)),.v (.int e),s2]) bk [.v (.t (bk.map dC)),.v (.int e),.e] ⟨_,rfl⟩
  (λg U _ ⟨s2,a⟩=>by
   subst a;have e0:aG (.v (dC g)) (.v (.int 0))=pure (.v (.int g.e)):=by unfold dC;simp
   refine⟨λh=>?_,λh=>⟨[.v (.t (bk.map dC)),.v (.int e),.v (dC g)],?_,_,rfl⟩⟩
   .simp only[zJ]
    simp[e0,cut,eq_of_beq h]
   .have h':¬g.e=e:=by simpa using h
    simp only[zJ];simp[e0,h'])
 simp only[wL,Jb,Jc];unfold fb
 cases h:bk.find? (λg=>g.e==e)with
 |some g=>
  have:=L.1 g h;simp[this]
 |none=>
  obtain⟨U',c,s2,rfl⟩:=L.2 h;simp[c,blank,bF]
def aal(g:dp):fnOf 1 1 (a0 (ae aG (I 0) (af (.int 0)))) [dC g]=pure (.v (.int g.e)):=by
 unfold dC;simp
def Q7{bk:List dp}(g:dp)(f:(bk.map dp.e).Nodup)(hl:bk.length<63)(hs:b0 g.bc=.v g.bc):wM [.t (bk.map dC),.int g.e,bF g.p1 g.cj,bF g.eF g.d7,g.bc]=pure (.v (.t (pk (putL bk g)))):=by
 have c:gn (aU (ae dX (ae aG (I 0) (af (.int 0))) (I 1))) (I 0) [.e,.v (.int g.e)] (bk.map dC)=pure ((bk.filter λh=>!(h.e==g.e)).map dC):=
  ot dC (λh=>!(h.e==g.e)) dC bk (λh _=>by
   have e0:aG (.v (dC h)) (.v (.int 0))=pure (.v (.int h.e)):=by unfold dC;simp
   simp[e0]) λh _ _=>by simp
 have j:bk.length<alP:=fU (by omega);have l:=anw (λh:dp=>!(h.e==g.e)) bk;have i:(bk.filter λh=>!(h.e==g.e)).length<alP:=fU (by omega);have pl:=PR bk g;have dQ:oC fs (fnOf 1 1 (a0 (ae aG (I 0) (af (.int 0))))) (.mv ((bk.filter λh=>!(h.e==g.e)).map dC++[dC g]))=pure (.fr (pk (putL bk g))):=
  afX aal (by show some _=some _;unfold putL;rw[ane];rfl) (PS f) (by omega)
 have d:dC g=.t [.int g.e,bF g.p1 g.cj,bF g.eF g.d7,g.bc]:=rfl;have k:∀a b,b0 (bF a b)=.v (bF a b):=λ_ _=>rfl
 simp only[wM,CA,Jl,Jm];rw[d]at dQ;simp[k,hs,c,j,i,dQ]
def yl(w:Str)(a b e s l:D)(d:D)(c:D)(f:b0 d=.v d)(g:b0 c=.v c):wy [.t [.str w,a,b,e,s,l],d,c]=pure (.v (.t [d,b,a,e,s,c])):=by
 exact h5 rfl (jl (by simp[f,g]))
def Yt{bk:List dp}(j:l8 bk)(hl:bk.length<63)(m:∀g∈bk,b0 g.bc=.v g.bc)(e b s2:Int)(a k:D)(l:D) :
  mB [.t (bk.map dC),.t [.str "ask",a,k,.int e,bF b s2,l]]=pure (.v (if lexLe [b,s2] [(fb bk e).p1,(fb bk e).cj]=true then .t [.t (bk.map dC),.t [.str "late",k,a,.int e,bF b s2,.t [bF (fb bk e).p1 (fb bk e).cj]]]
   else .t [.t (pk (putL bk ⟨e,b,s2,(fb bk e).eF,(fb bk e).d7,(fb bk e).bc⟩)),.t [.str "grant",k,a,.int e,bF b s2,.t [bF (fb bk e).eF (fb bk e).d7,(fb bk e).bc]]])):=by
 have kX:=Pu bk e;have c:b0 (fb bk e).bc=.v (fb bk e).bc:=by
  unfold fb
  cases q:bk.find? (λx=>x.e==e)with
  |none=>rfl|some g=>exact m g (find_eq q).2
 generalize fb bk e=g at kX c ⊢;have n:=Q7 (bk:=bk) ⟨e,b,s2,g.eF,g.d7,g.bc⟩ j.nodup hl c;have cut:pd (.v (.t [bF g.p1 g.cj,bF g.eF g.d7,g.bc])) (some 1) none=pure (.v (.t [bF g.eF g.d7,g.bc])):=by
  rw[L1,if_neg (by simp only[amk,am4];decide)];rfl
 have f:=yl "ask" a k (.int e) (bF b s2) l (.str "late") (.t [bF g.p1 g.cj]) rfl rfl;have i:=yl "ask" a k (.int e) (bF b s2) l (.str "grant") (.t [bF g.eF g.d7,g.bc]) rfl rfl;have bq:oEq (.v (.str "ask")) (.v (.str "ask"))=pure (.v (.ax true)):=eq_str (by decide +kernel);have pre:∀{d},Ik [.v (.t (bk.map dC)),.v (.t [.str "ask",a,k,.int e,bF b s2,l]),.v (bF b s2),.v (.t [bF g.p1 g.cj,bF g.eF g.d7,g.bc])]=pure (.cp (.v d))->mB [.t (bk.map dC),.t [.str "ask",a,k,.int e,bF b s2,l]]=pure (.v d):=λh=>
  h5 rfl (st (iR (fj bq rfl rfl)) (jl (call_of rfl (h5 rfl (cR rfl (cR (kn (call_of rfl kX)) h))))))
 cases hle:lexLe [b,s2] [g.p1,g.cj]with
 |true=>exact pre (st (congrArg pure hle) (jl (call_of rfl (h5 rfl (jl (sk rfl (call_of rfl f)))))))|false=>exact pre (fD (congrArg pure hle) (jl (sk (call_of rfl n) (call_of (cons_of rfl (cons_of rfl (cons_of cut rfl))) i))))
end dI
namespace dI
open PySem PySem.Spec aA aC iN fX i7
structure hB(h:aC.D):Prop where
 ex:∃ms fa fk,n_ h ms fa fk
 no:oEq (.v h) (.v (.str "over"))=pure (.v (.ax false))
 ok:aC.Ok 9 h
structure fw where
 W:List (List Nat)
 na:Nat
 nc:Int->Int->Option c9->Prop
 E:Int->c5->Prop
structure fw.Ok(Γ:fw):Prop where
 w:Γ.W.length<63
 n:Γ.na<=6
 done:∀{e s i n d},fP hB Γ.W s->Γ.E e s->Γ.nc i n d->Γ.E e (p8 s i n d)
 ki:∀{e s},fP hB Γ.W s->Γ.E e s->(∃xs,s.aW=.t xs)->Γ.E (e+1) s.ki
 hJ:∀{e s},Γ.E e s->0<=e/\e<=60
 hZ:∀{i n d x},Γ.nc i n d->d=some x->l4 hB Γ.W x
def fw.S(Γ:fw)(e:Int)(w:aC.D):Prop:=∃s,fP hB Γ.W s/\Γ.E e s/\w=s.D
def c5.slot(s:c5):b0 s.D=.v s.D:=rfl
def QZ(d:Option c9):b0 (eU d)=.v (eU d):=by
 cases d with
 |none=>rfl|some d=>cases d<;>rfl
structure e4(Γ:fw)(a:bG)(k:Nat):Prop where
 me:a.me=k
 lt:k < Γ.na
 bP:a.j2
 hl:hB a.h
 op:Γ.S a.cm a.op
 dz:∃d,a.dz=eU d/\(a.bP≠"calm"->Γ.nc k a.wi d)
 bM:a.bP="asking"->(∀g∈a.bM,g.k<6/\(g.s=(0,0)\/Γ.S a.cm g.w)/\b0 g.w=.v g.w)/\(a.bM.map (·.k)).Nodup
 dE:a.bP="telling"->Γ.S a.cm a.dE
 cS:aC.Ok 12 a.cS
inductive ju(Γ:fw):aC.D->Prop
 |ask {me k:Nat}{e:Int}{s:dU}(ag:me < Γ.na) (ah:k<6) (bA:0<=e/\e<=60):ju Γ (ku me e s k)
 |tell {me k:Nat}{e:Int}{s p:dU}{n:Int}{d:Option c9}{w:aC.D}(ag:me < Γ.na) (ah:k<6) (bA:Γ.S e w) (cK:∀x,d=some x->l4 hB Γ.W x):ju Γ (qH me e s (.t [dD p,.int n,eU d,w]) k)
 |grant {k a:Nat}{e:Int}{s kp:dU}{w:aC.D}(ag:a < Γ.na) (ah:k<6) (bA:kp=(0,0)\/Γ.S e w) (cK:b0 w=.v w) (eB:aC.Ok 10 w):ju Γ (jH k a e s kp w)
 |kept {k a:Nat}{e:Int}{s:dU}(ag:a < Γ.na) (ah:k<6):ju Γ (gZ k a e s)
 |late {k a:Nat}{e:Int}{s p:dU}(ag:a < Γ.na) (ah:k<6):ju Γ (tA k a e s p)
def Hd(k:Nat)(y:aC.D):Prop:=(∃e s j,y=ku k e s j)\/∃e s l j,y=qH k e s l j
structure l_(Γ:fw)(k:Nat)(Y:List aC.D):Prop where
 ok:∀y∈Y,ju Γ y
 fr:∀y∈Y,Hd k y
 len:Y.length<=6
def l_.nil:l_ Γ k []:=⟨by simp,by simp,by simp⟩
section
variable{Γ:fw}(O:Γ.Ok){a:bG}{k:Nat}(h:e4 Γ a k)
include O h
theorem GU{ms:List Nat}{e:Int}{s:dU}(H:n_ cD ms fa fk)(he:0<=e/\e<=60):l_ Γ k (ms.map (ku a.me e s)):=by
 rw[h.me];refine⟨λy b=>?_,λy b=>?_,by rw[alM];exact H.len⟩
 .obtain⟨j,c,rfl⟩:=amd.mp b
  exact .ask h.lt (H.lt j c) he
 .obtain⟨j,c,rfl⟩:=amd.mp b
  exact .inl ⟨_,_,_,rfl⟩
theorem HD(b:∃d,a.dz=eU d/\Γ.nc k a.wi d):e4 Γ a.asks k where
 me:=h.me
 lt:=h.lt
 bP:=.inr (.inl rfl)
 hl:=h.hl
 op:=h.op
 dz:=by obtain⟨d,av,aE⟩:=b;exact⟨d,av,λ_=>aE⟩
 bM:=λ_=>⟨λg c=>(nomatch c),apu⟩
 dE:=λz=>by cases z
 cS:=h.cS
theorem Tz:∃Y b,a.Do tE [] Y b/\e4 Γ b k/\l_ Γ k Y/\b.wi=a.wi:=by
 obtain⟨ms,fa,fk,H⟩:=h.hl.ex
 by_cases c:a.bP="calm"
 .exact⟨_,a,Tw c,h,.nil,rfl⟩
 .obtain⟨d,av,aE⟩:=h.dz
  obtain⟨s,_,s2,_⟩:=h.op;exact⟨_,_,TA H.mem H.len h.bP c,HD O h ⟨d,av,aE c⟩,GU O h H (O.hJ s2),rfl⟩
theorem aan(r:Int):e4 Γ (a.zM r) k:=⟨h.me,h.lt,h.bP,h.hl,h.op,h.dz,h.bM,h.dE,h.cS⟩
end
def pe(n:Nat)(s:dU):aC.Ok (n+1) (dD s):=kg cQ cQ
def Qp{Γ:fw}(O:Γ.Ok){s:c5}(h:fP hB Γ.W s){x:Int}{y:aC.D}{z:dU}(a:y=.aH\/y=dD z):aC.Ok 12 (.t [.str "saw",.t [.int x,y,s.D]]):=
 kg (f6 (by decide +kernel)) (mJ cQ (by rcases a with rfl|rfl;exact mK;exact pe _ z) (h.ok (by have:=O.w;omega) λz hz=>hz.ok))
def Sa{s:c5}(h:fP hB W s)(i:Int):aC.Ok 11 (s.dk i):=by
 unfold c5.dk;split
 .rename_i a b z e
  have:=h.rm _ (vC e);have w:=this.2;have w:(decide ([a,b,z].length<=1000)&&lW [a,b,z])=true:=w;rw[amc]at w;exact kh (n:=1) ⟨kG.mp this.1 z (by simp),uR.mp w.2 z (by simp)⟩ (by decide)
 .exact mK
def Ph{Γ:fw}{d:Option c9}(h:∀x,d=some x->l4 hB Γ.W x):aC.Ok 10 (eU d):=by
 cases d with
 |none=>exact mK|some x=>
  have b:=h x rfl
  cases x with
  |put a n=>exact mJ (f6 (by decide +kernel)) (f6 b.1.1) cQ| add a n=>exact mJ (f6 (by decide +kernel)) (f6 b.1.1) cQ| swap a o n=>exact w5 (f6 (by decide +kernel)) (f6 b.1.1) cQ cQ| take g=>exact kg (f6 (by decide +kernel)) cQ| renew g=>exact kg (f6 (by decide +kernel)) cQ| free g=>exact kg (f6 (by decide +kernel)) cQ| sure g a n=>exact w5 (f6 (by decide +kernel)) cQ (f6 b.1.1) cQ| move z=>exact kg (f6 (by decide +kernel)) b.2.ok| fin=>exact Pb (f6 (by decide +kernel))
def Pc(f:aC.Ok n a)(g:aC.Ok n b)(i:aC.Ok n c)(j:aC.Ok n d)(k:aC.Ok n e):aC.Ok (n+1) (.t [a,b,c,d,e]):=nV (by simp) (by simp only[ams];exact⟨f,g,i,j,k,λ_ h=>nomatch h⟩)
def sR:¬("calm":Str)="asking":=by decide
def sS:¬("calm":Str)="telling":=by decide
def agQ:¬("telling":Str)="asking":=by decide
def TG{a:List Nat}(c:∀k∈a,k<6)(b:j<6):cC (maskOf a) j=a.contains j:=by
 rw[z9 a c];exact Ac _ j b
def TS(p:fe):∀(ps:List fe),jB p ps∈p::ps:=by
 have key:∀(ps:List fe)(b:fe),jB b ps=b\/jB b ps∈ps:=by
  intro ps
  induction ps with
  |nil=>intro b;exact .inl rfl|cons q ps a=>
   intro b;have e:jB b (q::ps)=jB (wU b q) ps:=rfl;rw[e];rcases a (wU b q)with z|z
   .rw[z]
    unfold wU;split
    .exact .inr al2
    .exact .inl rfl
   .exact .inr (alW _ z)
 intro ps;rcases key ps p with z|z
 .rw[z];exact al2
 .exact alW _ z
section
variable{Γ:fw}(O:Γ.Ok){a:bG}{k:Nat}(h:e4 Γ a k)
include O h
theorem V4(H:n_ a.h ms fa fk)(c:a.bP="asking")(Q:a.bM=p::ps){s2:dU}(hw:Γ.S a.cm w) :
  ∃Y b,a.Do tF [.t [dD s2,w]] Y b/\e4 Γ b k/\l_ Γ k Y/\b.wi=a.wi:=by
 obtain⟨s,m,K,rfl⟩:=hw;obtain⟨d,l,f⟩:=h.dz;have R:a.bP≠"calm":=by rw[c];decide
 have f:=f R;have G:=h.bM c;have V:a.bM.length<=6:=by
  have:=anf (l₂:=ame 6) G.2 λx e=>by
   obtain⟨g,B,rfl⟩:=amd.mp e;exact amz.mpr (G.1 g B).1
  rw[alM,amZ]at this;exact this
 have r:a.yg s.D (!!gA s.aW&&(a.bM.all λg=>decide (g.s=p.s))&&fk (maskOf (a.bM.map (·.k)))):=λS i g A=>afH H A Q (λg B=>(G.1 g B).1) (by omega) s.slot (NJ s)
 generalize T:(!!gA s.aW&&(a.bM.all λg=>decide (g.s=p.s))&&fk (maskOf (a.bM.map (·.k))))=b at r
 by_cases q:d=none/\b=true
 .obtain⟨rfl,rfl⟩:=q
  refine⟨_,_,V5 l r,?_,.nil,rfl⟩;exact⟨h.me,h.lt,.inl rfl,h.hl,h.op,⟨none,l,λz=>absurd rfl z⟩,(λz=>absurd z sR),(λz=>absurd z sS),Qp O m (.inr rfl)⟩
 .have P:=UR m O.w a.me a.wi (d:=d) λx e=>O.hZ f e
  have hd:gA a.dz=false\/a.yg s.D false:=by
   cases d with
   |some x=>left;rw[l];cases x<;>rfl
   |none=>
    right;have:b=false:=by cases b with|false=>rfl|true=>exact absurd ⟨rfl,rfl⟩ q
    rw[this]at r;exact r
  have L:=l;refine⟨_,_,V6 H.mem H.len hd (by rw[l];exact P),?_,?_,rfl⟩
  .have M:=h.lt
   have N:=O.n;have ok:=LQ m (i:=a.me) (by rw[h.me];omega) (by rw[h.me];omega) a.wi (d:=d) λx e=>O.hZ f e
   have u:Γ.E a.cm (p8 s a.me a.wi d):=O.done m K (by rw[h.me];exact f);exact⟨h.me,h.lt,.inr (.inr rfl),h.hl,h.op,⟨d,l,λ_=>f⟩,(λz=>absurd z agQ),(λ_=>⟨_,ok,u,rfl⟩),h.cS⟩
  .have M:=h.lt
   have N:=O.n;have ok:=LQ m (i:=a.me) (by rw[h.me];omega) (by rw[h.me];omega) a.wi (d:=d) λx e=>O.hZ f e
   have u:Γ.E a.cm (p8 s a.me a.wi d):=O.done m K (by rw[h.me];exact f);refine⟨λy F=>?_,λy F=>?_,by rw[alM];exact H.len⟩
   .obtain⟨j,I,rfl⟩:=amd.mp F
    rw[h.me,l];rw[h.me]at ok u;exact .tell h.lt (H.lt j I) ⟨_,ok,u,rfl⟩ λx e=>O.hZ f e
   .obtain⟨j,I,rfl⟩:=amd.mp F
    rw[h.me];exact .inr ⟨_,_,_,_,rfl⟩
end
section
variable{Γ:fw}(O:Γ.Ok){a:bG}{k:Nat}(h:e4 Γ a k)
include O h
theorem Yj{e:Int}{s kp:dU}(i:j<6)(A:kp=(0,0)\/Γ.S e w)(hw:b0 w=.v w) :
  ∃Y b,a.Do kc [jH j k e s kp w] Y b/\e4 Γ b k/\l_ Γ k Y/\b.wi=a.wi:=by
 rw[<-h.me];obtain⟨ms,fa,fk,H⟩:=h.hl.ex
 cases q:a.now ms j e s with
 |false=>exact⟨_,a,M6 H (.str "grant") (.t [dD kp,w]) DI q,h,.nil,rfl⟩|true=>
  by_cases c:a.bP="asking"
  .have l:=h.bM c
   have kH:∀g∈a.bM,g.k<6:=λg d=>(l.1 g d).1
   have E:a.bM.length<=6:=by
    have:=anf (l₂:=ame 6) l.2 λx f=>by
     obtain⟨g,d,rfl⟩:=amd.mp f;exact amz.mpr (kH g d)
    rw[alM,amZ]at this;exact this
   have D:∀x∈a.bM.map (·.k),x<6:=λx f=>by
    obtain⟨g,d,rfl⟩:=amd.mp f;exact kH g d
   cases bO:cC (maskOf (a.bM.map (·.k))) j with
   | true=>exact⟨_,a,DU H h.bP q c (Yl kH (by omega) bO),h,.nil,rfl⟩|false=>
    have n:j∉a.bM.map (·.k):=λz=>by
     rw[TG D i,List.contains_iff_mem.mpr z]at bO;cases bO
    have he:e=a.cm:=by
     unfold bG.now at q;rw[amc,amc]at q;exact of_decide_eq_true q.1.1
    have r:e4 Γ (a.got j kp w) k:=by
     refine⟨h.me,h.lt,h.bP,h.hl,h.op,h.dz,λz=>⟨λg d=>?_,?_⟩,h.dE,h.cS⟩
     .rcases amy.mp d with d|d
      .exact l.1 g d
      .rw[amb]at d
       subst d;subst he;exact⟨i,A,hw⟩
     .unfold bG.got
      dsimp only;rw[ane];refine aoM.mpr ⟨l.2,by simp,λx f y m=>?_⟩;have m:y=j:=by simpa using m
      subst m;rintro rfl;exact n f
    cases o:fa (maskOf ((a.got j kp w).bM.map (·.k)))with
    | false=>exact⟨_,_,DU H h.bP q c (Yh H kH (by omega) i bO o),r,.nil,rfl⟩|true=>
     have ne:(a.got j kp w).bM≠[]:=by unfold bG.got;simp
     obtain⟨p,ps,u⟩:=List.exists_cons_of_ne_nil ne;have bm:=TS p ps;rw[<-u]at bm;have B:Γ.S (a.got j kp w).cm (if(jB p ps).s=(0,0)then a.op else(jB p ps).w):=by
      split
      .exact h.op
      .rename_i z
       exact((r.bM c).1 _ bm).2.1.resolve_left z
     obtain⟨Y,b,av,aE,cX,eZ⟩:=V4 O r (ms:=ms) (fa:=fa) (fk:=fk) H c u (s2:=(jB p ps).s) B;obtain⟨dQ,_,_,jE⟩:=h.op;exact⟨Y,b,DU H h.bP q c (Yk H kH (by omega) i u (by rw[jE];rfl) bO o av),aE,cX,eZ⟩
  .exact⟨_,a,Yi H h.bP q c,h,.nil,rfl⟩
end
def adW:oEq (.v (.str "over")) (.v (.str "over"))=pure (.v (.ax true)):=by rw[jo (by decide +kernel) (by decide +kernel),beq_self_eq_true]
def aax(a:bG):a.rS.wi=a.wi:=by unfold bG.rS;split<;>rfl
def agY{Γ:fw}{s:c5}(h:fP hB Γ.W s)(i:Int):Told s.D i (s.last i) (s.dk i) s.aW s.jj:=by
 refine⟨⟨_,UP h i⟩,afL s,NJ s,?_,h.ss⟩;unfold c5.jj;rcases h.aW with e|e|⟨⟨xs,e⟩,g⟩
 .rw[e,rq (x:=.v .aH) (y:=.v (.str "over")) rfl (by decide +kernel)];rfl
 .rw[e];exact adW
 .have:=g.no
  rw[e]at this ⊢;exact this
section
variable{Γ:fw}(O:Γ.Ok){a:bG}{k:Nat}(h:e4 Γ a k)
include O h
theorem aad(j:Nat):e4 Γ (a.gz j) k:=⟨h.me,h.lt,h.bP,h.hl,h.op,h.dz,h.bM,h.dE,h.cS⟩
theorem U2(b:aC.Ok 12 o):e4 Γ (a.ends o) k:=by
 obtain⟨d,c,_⟩:=h.dz;exact⟨h.me,h.lt,.inl rfl,h.hl,h.op,⟨d,c,λz=>absurd rfl z⟩,(λz=>absurd z sR),(λz=>absurd z sS),b⟩
theorem U4{bc:c5}(b:fP hB Γ.W bc)(c:a.dE=bc.D)(n:Int)(aW:aC.D)(bK:Bool):e4 Γ (a.gh n (bc.dk a.me) aW bK) k:=by
 rcases vv a n (bc.dk a.me) aW bK with⟨o,z,e⟩|e<;>rw[e]
 .refine U2 O h ?_
  rcases z with rfl|⟨x,y,z,rfl,C⟩
  .exact kg (f6 (by decide +kernel)) (Sa b _)
  .rw[c]
   exact Qp O b C
 .exact h
theorem aav:e4 Γ a.rS k:=by
 unfold bG.rS;split
 .exact⟨h.me,h.lt,h.bP,h.hl,h.op,h.dz,h.bM,h.dE,h.cS⟩
 .obtain⟨d,b,_⟩:=h.dz
  exact⟨h.me,h.lt,.inl rfl,h.hl,h.op,⟨d,b,λz=>absurd rfl z⟩,(λz=>absurd z sR),(λz=>absurd z sS),kh (n:=1) (kg (f6 (by decide +kernel)) mK) (by decide)⟩
theorem Yo{e:Int}{s:dU}(l:j<6) :
  ∃Y b,a.Do kc [gZ j k e s] Y b/\e4 Γ b k/\l_ Γ k Y/\b.wi=a.wi:=by
 rw[<-h.me];obtain⟨ms,fa,fk,H⟩:=h.hl.ex
 cases q:a.now ms j e s with
 |false=>exact⟨_,a,M6 H (.str "kept") (.t []) EL q,h,.nil,rfl⟩|true=>
  by_cases c:a.bP="telling"
  .obtain⟨bc,i,E,p⟩:=h.dE c
   have T:Told a.dE a.me (bc.last a.me) (bc.dk a.me) bc.aW bc.jj:=by rw[p];exact agY i a.me
   have y:=aad O h j;have f:e4 Γ ((a.gz j).gh (bc.last a.me) (bc.dk a.me) bc.aW bc.jj) k:=U4 O y i p (bc.last a.me) bc.aW bc.jj
   cases bO:fk (a.nJ ||| maskOf [j])with
   |false=>exact⟨_,_,vQ H h.bP q c (Ym H l bO),y,.nil,rfl⟩|true=>
    cases o:gA bc.aW with
    |true=>exact⟨_,_,vQ H h.bP q c (Yp H l T bO o),f,.nil,Dd _ _ _ _ _⟩|false=>
     cases C:bc.jj with
     |true=>
      refine⟨_,_,vQ H h.bP q c (Yq H l T bO o h.bP C),?_,.nil,(aax _).trans (Dd _ _ _ _ _)⟩;exact aav O f
     |false=>
      have m:(∃xs,bc.aW=.t xs)/\hB bc.aW:=by
       rcases i.aW with e|e|e
       .rw[e]at o;cases o
       .unfold c5.jj at C;rw[e]at C;cases C
       .exact e
      obtain⟨N,I,K,H'⟩:=m.2.ex;have F:((a.gz j).gh (bc.last a.me) (bc.dk a.me) bc.aW bc.jj).dE=bc.D:=(L8 _ _ _ _ _).trans p;have x:tX [((a.gz j).gh (bc.last a.me) (bc.dk a.me) bc.aW bc.jj).dE]=pure (.v bc.ki.D):=by rw[F];exact adu bc
      have r:((a.gz j).gh (bc.last a.me) (bc.dk a.me) bc.aW bc.jj).cm=a.cm:=U3 _ _ _ _ _;have w:Γ.S (((a.gz j).gh (bc.last a.me) (bc.dk a.me) bc.aW bc.jj).cm+1) bc.ki.D:=by rw[r];exact⟨_,i.ki,O.ki i E m.1,rfl⟩
      have P:e4 Γ (((a.gz j).gh (bc.last a.me) (bc.dk a.me) bc.aW bc.jj)) k:=f;have u:((a.gz j).gh (bc.last a.me) (bc.dk a.me) bc.aW bc.jj).wi=a.wi:=Dd _ _ _ _ _;generalize B:(a.gz j).gh (bc.last a.me) (bc.dk a.me) bc.aW bc.jj=A at *
      by_cases ae:A.bP="calm"
      .have g:=V7 f.bP i.ss x ae
       have lo:((a.gz j).gh (bc.last a.me) (bc.dk a.me) bc.aW bc.jj).Do rW [bc.aW] [] (A.over bc.aW bc.ki.D):=by rw[B];exact g
       refine⟨_,_,vQ H h.bP q c (M5 H l T bO o C lo),?_,.nil,u⟩;obtain⟨d,n,_⟩:=f.dz;refine⟨f.me,f.lt,f.bP,m.2,w,⟨d,n,λz=>absurd ae z⟩,λz=>?_,λz=>?_,f.cS⟩
       .have z:A.bP="asking":=z
        rw[ae]at z;exact absurd z sR
       .have z:A.bP="telling":=z
        rw[ae]at z;exact absurd z sS
      .have g:=V8 f.bP i.ss x ae H'.mem H'.len
       have lo:((a.gz j).gh (bc.last a.me) (bc.dk a.me) bc.aW bc.jj).Do rW [bc.aW] (N.map (ku A.me (A.cm+1) (A.dg+1,A.me))) (A.over bc.aW bc.ki.D).asks:=by rw[B];exact g
       obtain⟨d,n,L⟩:=f.dz;have M:=O.hJ (O.ki i E m.1);refine⟨_,_,vQ H h.bP q c (M5 H l T bO o C lo),?_,GU O f H' (by rw[r];exact M),u⟩;exact⟨f.me,f.lt,.inr (.inl rfl),m.2,w,⟨d,n,λ_=>L ae⟩,(λ_=>⟨λg G=>(nomatch G),apu⟩),(λz=>by cases z),f.cS⟩
  .exact⟨_,a,Yn H h.bP q c,h,.nil,rfl⟩
theorem Ys{e:Int}{s p:dU}:∃Y b,a.Do kc [tA j k e s p] Y b/\e4 Γ b k/\l_ Γ k Y/\b.wi=a.wi:=by
 rw[<-h.me];exact⟨_,_,Yr p,aan O h p.1,.nil,rfl⟩
end
end dI
namespace dI
open PySem PySem.Spec aA aC
def agP:oEq (.v (.str "tell")) (.v (.str "ask"))=pure (.v (.ax false)):=by
 have a:al5 "tell"=true:=by decide +kernel
 have b:al5 "ask"=true:=by decide +kernel
 have c:(("tell":Str) == "ask")=false:=by decide +kernel
 rw[rq (x:=.v (.str "tell")) (y:=.v (.str "ask")) a b];show pure (R.v (D.ax (("tell":Str) == "ask")))=_;rw[c]
def Yv{bk:List dp}(m:l8 bk)(hl:bk.length<63)(e b s2:Int)(a k i c f x:D)(n:b0 x=.v x) :
  mB [.t (bk.map dC),.t [.str "tell",a,k,.int e,bF b s2,.t [i,c,f,x]]]=pure (.v (if aA.lexLt [b,s2] [(fb bk e).p1,(fb bk e).cj]=true then .t [.t (bk.map dC),.t [.str "late",k,a,.int e,bF b s2,.t [bF (fb bk e).p1 (fb bk e).cj]]]
   else .t [.t (pk (putL bk ⟨e,b,s2,b,s2,x⟩)),.t [.str "kept",k,a,.int e,bF b s2,.t []]])):=by
 have kX:=Pu bk e;generalize fb bk e=g at kX ⊢;have p:=Q7 (bk:=bk) ⟨e,b,s2,b,s2,x⟩ m.nodup hl n;have j:=yl "tell" a k (.int e) (bF b s2) (.t [i,c,f,x]) (.str "late") (.t [bF g.p1 g.cj]) rfl rfl;have l:=yl "tell" a k (.int e) (bF b s2) (.t [i,c,f,x]) (.str "kept") (.t []) rfl rfl;have pre:∀{d},Il [.v (.t (bk.map dC)),.v (.t [.str "tell",a,k,.int e,bF b s2,.t [i,c,f,x]]),.v (bF b s2),.v (bF g.p1 g.cj)]=pure (.cp (.v d))->mB [.t (bk.map dC),.t [.str "tell",a,k,.int e,bF b s2,.t [i,c,f,x]]]=pure (.v d):=λh=>
  h5 rfl (fD (iR (fj agP rfl rfl)) (jl (call_of rfl (h5 rfl (cR rfl (cR (kn (fj rfl (call_of rfl kX) rfl)) h))))))
 cases hle:aA.lexLt [b,s2] [g.p1,g.cj]with
 |true=>exact pre (st (congrArg pure hle) (jl (call_of rfl (h5 rfl (jl (sk rfl (call_of rfl j)))))))|false=>exact pre (fD (congrArg pure hle) (jl (sk (call_of rfl p) (call_of rfl l))))
end dI
namespace dI
open PySem PySem.Spec aA aC iN fX i7
structure sH(Γ:fw)(g:dp):Prop where
 e:0<=g.e/\g.e<=60
 s:(g.eF,g.d7)=((0,0):dU)\/Γ.S g.e g.bc
 bc:b0 g.bc=.v g.bc
 ok:aC.Ok 10 g.bc
def n9(Γ:fw)(b:aC.D):Prop:=∃bk:List dp,b=.t (bk.map dC)/\l8 bk/\∀g∈bk,sH Γ g
def Jv{bk:List dp}(a:l8 bk)(h:∀g∈bk,sH Γ g):bk.length<63:=by
 have:=anf (l₂:=(ame 61).map λ(i:Nat)=>(i:Int)) a.nodup λx c=>by
  obtain⟨g,b,rfl⟩:=amd.mp c;have:=(h g b).e;exact amd.mpr ⟨g.e.toNat,amz.mpr (by omega),by omega⟩
 rw[alM,alM,amZ]at this;omega
def ad0{bk:List dp}(h:∀g∈bk,sH Γ g){e:Int}(he:0<=e/\e<=60):sH Γ (fb bk e):=by
 unfold fb
 cases q:bk.find? (λx=>x.e==e)with
 |none=>exact⟨he,.inl rfl,rfl,mK⟩|some g=>exact h g (find_eq q).2
def PU{bk:List dp}(a:l8 bk)(h:∀g∈bk,sH Γ g)(b:sH Γ g):n9 Γ (.t (pk (putL bk g))):=by
 obtain⟨i,e,d,f,_⟩:=aeY a g;refine⟨i,by rw[d],e,λx c=>?_⟩;rcases aeX ((f x).mp c)with z|rfl
 .exact h x z
 .exact b
def Yu(O:Γ.Ok)(I:n9 Γ b){e:Int}{s:dU}(M:ju Γ L)(x:L=ku me e s j\/∃l,L=qH me e s l j) :
  ∃B y,mB [b,L]=pure (.v (.t [B,y]))/\n9 Γ B/\ju Γ y:=by
 obtain⟨bk,rfl,f,h⟩:=I;have hl:=Jv f h
 cases M with
 |@ask u r c a k m A=>
  have i:=ad0 h A;have E:=Pt bk c;have eq:=Yt f hl (λg H=>(h g H).bc) c a.1 a.2 (.int u) (ba r) (.t []);have eq:mB [.t (bk.map dC),ku u c a r]=_:=eq;generalize fb bk c=g at *
  cases q:lexLe [a.1,a.2] [g.p1,g.cj]with
  |true=>
   rw[if_pos q]at eq;exact⟨_,_,eq,⟨bk,rfl,f,h⟩,.late (p:=(g.p1,g.cj)) k m⟩
  |false=>
   rw[if_neg (by rw[q];decide)]at eq;subst E;exact⟨_,_,eq,PU f h ⟨i.e,i.s,i.bc,i.ok⟩,.grant (kp:=(g.eF,g.d7)) k m i.s i.bc i.ok⟩
 |@tell u r c a p n d w k m A N=>
  obtain⟨bc,G,F,rfl⟩:=A;have K:=O.hJ F;have E:=Pt bk c;have eq:=Yv f hl c a.1 a.2 (.int u) (ba r) (dD p) (.int n) (eU d) bc.D rfl;have eq:mB [.t (bk.map dC),qH u c a (.t [dD p,.int n,eU d,bc.D]) r]=_:=eq;generalize fb bk c=g at *
  cases q:aA.lexLt [a.1,a.2] [g.p1,g.cj]with
  |true=>
   rw[if_pos q]at eq;exact⟨_,_,eq,⟨bk,rfl,f,h⟩,.late (p:=(g.p1,g.cj)) k m⟩
  |false=>
   rw[if_neg (by rw[q];decide)]at eq;exact⟨_,_,eq,PU f h ⟨K,.inr ⟨bc,G,F,rfl⟩,rfl,G.ok (by have:=O.w;omega) λz hz=>hz.ok⟩,.kept k m⟩
 |grant _ _ _ _ _=>rcases x with z|⟨l,z⟩<;>exact absurd z (by unfold jH;intro z;injection z with z;injection z with z _;injection z with z;exact absurd z (by decide))
 |kept _ _=>rcases x with z|⟨l,z⟩<;>exact absurd z (by unfold gZ;intro z;injection z with z;injection z with z _;injection z with z;exact absurd z (by decide))
 |late _ _=>rcases x with z|⟨l,z⟩<;>exact absurd z (by unfold tA;intro z;injection z with z;injection z with z _;injection z with z;exact absurd z (by decide))
def Zs(w:Str)(hw:al5 w=true):kW false (.v (.str w)) (.v (.t [.str "ask",.str "tell"]))=pure (.v (.ax (w == "ask" || w == "tell"))):=by
 have fa:([D.str "ask",D.str "tell"]).all D.flat=true:=by decide +kernel
 have b:(D.str w).flat=true:=by simpa[D.flat]using hw
 show(if(D.str w).flat=true/\([D.str "ask",D.str "tell"]).all D.flat=true then pure (R.v (D.ax (if false=true then !inD (D.str w) [D.str "ask",D.str "tell"]else inD (D.str w) [D.str "ask",D.str "tell"])))else bad)=_;rw[if_pos ⟨b,fa⟩,if_neg alR]
 congr 3
 show(eo (D.str "ask") (D.str w)||(eo (D.str "tell") (D.str w)||false))=_;rw[Bool.or_false,show eo (D.str "ask") (D.str w)=(("ask":Str)==w)from rfl,show eo (D.str "tell") (D.str w)=(("tell":Str)==w)from rfl,BEq.comm (a:=("ask":Str)),BEq.comm (a:=("tell":Str))]
def V9(w:Str)(hw:al5 w=true)(ds:List aC.D):o1 [.t (.str w::ds)]=pure (.v (.ax (w == "ask" || w == "tell"))):=by
 have e:=Zs w hw;have a:d1 (D.str w::ds) 0=some (.str w):=ng _ _;simp only[o1,Ih];generalize kW=F at *;simp[e,a]
structure ff(Γ:fw)(h:cv):Prop where
 na:h.as.length=Γ.na
 as:∀(k:Nat)(a:bG),h.as[k]? = some a->e4 Γ a k
 nb:h.bs.length=6
 bs:∀b∈h.bs,n9 Γ b
 ls:∀l∈h.ls,ju Γ l
 rs:∀r∈h.rs,aC.Ok 13 r
def ac9:al5 "ask"=true:=by decide +kernel
def adb:al5 "tell"=true:=by decide +kernel
def cv.lr(h h':cv):Prop:=∀i:Nat,(h'.as[i]?).map bG.wi=(h.as[i]?).map bG.wi
def F3{h:cv}{a b:bG}(d:h.as[k]? = some a)(e:b.wi=a.wi):h.lr (h.put k b):=λi=>by
 unfold cv.put;dsimp only
 by_cases c:k=i
 .subst c
  rw[al9 (alK.mp d).1,d];exact congrArg some e
 .rw[alU c]
inductive uZ(h:cv)(L:aC.D)(Y:List aC.D)(h':cv):Prop
 |keeper {me j:Nat}{e:Int}{s:dU}{b eX y:aC.D}(h9:L=ku me e s j\/∃l,L=qH me e s l j) (a':j<6) (c7:h.bs[j]? = some b) (g:mB [b,L]=pure (.v (.t [eX,y]))) (Dc:Y=[y]) (bH:h'.bs=h.bs.set j eX):uZ h L Y h'
 |asker {a j:Nat}{e:Int}{s:dU}(h9:(∃kp w,L=jH j a e s kp w)\/L=gZ j a e s\/∃p,L=tA j a e s p) (fr:∀y∈Y,Hd a y) (bH:h'.bs=h.bs):uZ h L Y h'
section
variable{Γ:fw}{h:cv}(H:ff Γ h)
include H
theorem ff.wr(a:∀y∈Y,ju Γ y):ff Γ (h.wr Y):=⟨H.na,H.as,H.nb,H.bs,(λl hl=>(amy.mp hl).elim (H.ls l) (a l)),H.rs⟩
theorem ff.put(f:k<h.as.length)(d:e4 Γ b k):ff Γ (h.put k b):=by
 refine⟨by unfold cv.put;dsimp only;rw[amr];exact H.na,λi a e=>?_,H.nb,H.bs,H.ls,H.rs⟩;have e:(h.as.set k b)[i]? = some a:=e
 by_cases c:k=i
 .subst c
  rw[al9 f]at e;cases e;exact d
 .rw[alU c]at e
  exact H.as i a e
theorem ff.row{r:aC.D}(a:aC.Ok 13 r):ff Γ (h.row r):=⟨H.na,H.as,H.nb,H.bs,H.ls,λx b=>(amy.mp b).elim (H.rs x) λz=>by rw[amb.mp z];exact a⟩
theorem ff.bk(a:n9 Γ b):ff Γ (h.bk k b):=by
 refine⟨H.na,H.as,by unfold cv.bk;dsimp only;rw[amr];exact H.nb,λx c=>?_,H.ls,H.rs⟩;rcases aoB c with z|rfl
 .exact H.bs x z
 .exact a
theorem ff.asker(b:k < Γ.na):∃a,h.as[k]? = some a/\e4 Γ a k:=by
 have e:h.as[k]? = some (h.as[k]'(by rw[H.na];exact b)):=al1 _;exact⟨_,e,H.as k _ e⟩
theorem agU(O:Γ.Ok){k:Nat}(m:k < Γ.na){L w x e s n:aC.D}(p:L=.t [w,x,.int k,e,s,n])(j:h.rs.length<=100000)
  (g:∀a,e4 Γ a k->∃Y b,a.Do kc [L] Y b/\e4 Γ b k/\l_ Γ k Y/\b.wi=a.wi) :
  ∃Y h',h.Do rZ [L] (.v (.l Y)) h'/\ff Γ h'/\l_ Γ k Y/\h'.ls=h.ls/\h'.bs=h.bs/\h'.rs.length<=h.rs.length+1/\h.lr h':=by
 obtain⟨a,c,d⟩:=H.asker m;obtain⟨Y,b,av,aE,cX,f⟩:=g a d;subst p;have i:k<h.as.length:=(alK.mp c).1;have eZ:=agT c d.bP aE.bP av j;refine⟨Y,_,eZ,?_,cX,?_,?_,?_,?_⟩
 .split
  .exact(H.put i aE).row (Pc (f6 (by decide +kernel)) cQ cQ aE.cS cQ)
  .exact H.put i aE
 .split<;>rfl
 .split<;>rfl
 .split
  .unfold cv.row cv.put;dsimp only;rw[alN];exact alQ _
  .exact apx _
 .split
  .exact F3 c f
  .exact F3 c f
theorem vF(hw:al5 w=true)(a:(w == "ask" || w == "tell")=b):o1 [.t (.str w::ds)]=pure (.v (.ax b)):=by rw[V9 w hw,a]
theorem TR(O:Γ.Ok)(R:k<h.ls.length)(hz:h.ls.length<=900000)(K:h.rs.length<=100000) :
  ∃Y h',h.Do nM [.int k] (.fr (ec h.ls.length Y.length)) h'/\ff Γ h'/\h'.ls=h.ls++Y/\Y.length<=6/\h'.rs.length<=h.rs.length+1/\h.lr h'/\uZ h h.ls[k] Y h':=by
 have e:h.ls[k]? = some h.ls[k]:=al1 _;have G:=H.ls _ (anK R);generalize h.ls[k]=L at *;have key:∀(me j:Nat)(c:Int)(s:dU),j<6->(L=ku me c s j\/∃l,L=qH me c s l j)->b0 L=.v L->o1 [L]=pure (.v (.ax true))->(∃w x e s q,L=.t [w,x,.int j,e,s,q])->
   ∃Y h',h.Do nM [.int k] (.fr (ec h.ls.length Y.length)) h'/\ff Γ h'/\h'.ls=h.ls++Y/\Y.length<=6/\h'.rs.length<=h.rs.length+1/\h.lr h'/\uZ h L Y h':=λme j c s r E bc go ⟨w,x,Z,ss,q,D⟩=>by
  have F:h.bs[j]? = some (h.bs[j]'(by rw[H.nb];exact r)):=al1 _;have N:=H.bs _ (anK (by rw[H.nb];exact r:j<h.bs.length));generalize h.bs[j]'(by rw[H.nb];exact r)=b at *;obtain⟨T,y,g,W,M⟩:=Yu O N G E;have J:=g;have tk:h.Do wo [L] (.fr [y]) (h.bk j T):=by rw[D]at g ⊢;exact agV F g
  refine⟨[y],_,TQ e go tk rfl (by simp;omega),(H.bk W).wr (by intro z hz;rw[amb]at hz;subst hz;exact M),rfl,by simp,apx _,(λ_=>rfl),.keeper E r F g rfl rfl⟩
 have u:∀(a:Nat),a < Γ.na->(∃(j:Nat)(e:Int)(s:dU),(∃kp w,L=jH j a e s kp w)\/L=gZ j a e s\/∃p,L=tA j a e s p)->b0 L=.v L->o1 [L]=pure (.v (.ax false))->(∃w x e s q,L=.t [w,x,.int a,e,s,q])->(∀A,e4 Γ A a->∃Y b,A.Do kc [L] Y b/\e4 Γ b a/\l_ Γ a Y/\b.wi=A.wi)->
   ∃Y h',h.Do nM [.int k] (.fr (ec h.ls.length Y.length)) h'/\ff Γ h'/\h'.ls=h.ls++Y/\Y.length<=6/\h'.rs.length<=h.rs.length+1/\h.lr h'/\uZ h L Y h':=λa Q ⟨P,o,C,I⟩ bc go ⟨w,x,Z,ss,q,D⟩ g=>by
  obtain⟨Y,h',av,aE,cX,eZ,lB,ow,V⟩:=agU H O Q D K g;have X:=cX.len;refine⟨Y,_,TP e go av eZ (by omega),aE.wr cX.ok,?_,X,ow,V,.asker I cX.fr lB⟩;unfold cv.wr;dsimp only;rw[eZ]
 cases G with
 |@ask me j c s i f B=>exact key me j c s f (.inl rfl) rfl (vF H ac9 rfl) ⟨_,_,_,_,_,rfl⟩|@tell me j c s p n d w i f B _=>exact key me j c s f (.inr ⟨_,rfl⟩) rfl (vF H adb rfl) ⟨_,_,_,_,_,rfl⟩|@grant j a c s kp w i f B S _=>exact u a i ⟨_,_,_,.inl ⟨_,_,rfl⟩⟩ rfl (vF H ue rfl) ⟨_,_,_,_,_,rfl⟩ λA m=>Yj O m f B S
 |@kept j a c s i f=>exact u a i ⟨_,_,_,.inr (.inl rfl)⟩ rfl (vF H Pf rfl) ⟨_,_,_,_,_,rfl⟩ λA m=>Yo O m f
 |@late j a c s p i f=>exact u a i ⟨_,_,_,.inr (.inr ⟨_,rfl⟩)⟩ rfl (vF H w8 rfl) ⟨_,_,_,_,_,rfl⟩ λA m=>Ys O m
end
structure fw.BL(Γ mX:fw):Prop where
 w:mX.W=Γ.W
 n:mX.na=Γ.na
 wi:∀{i n d},Γ.nc i n d->mX.nc i n d
 e:∀{e s},Γ.E e s->mX.E e s
section
variable{Γ mX:fw}(le:Γ.BL mX)
include le
theorem fw.BL.s{e:Int}{w:aC.D}(h:Γ.S e w):mX.S e w:=by
 obtain⟨s,a,b,c⟩:=h;exact⟨s,by rw[le.w];exact a,le.e b,c⟩
theorem e4.mono(h:e4 Γ a k):e4 mX a k:=by
 refine⟨h.me,by rw[le.n];exact h.lt,h.bP,h.hl,le.s h.op,?_,λc=>⟨λg b=>?_,(h.bM c).2⟩,λc=>le.s (h.dE c),h.cS⟩
 .obtain⟨d,f,e⟩:=h.dz
  exact⟨d,f,λz=>le.wi (e z)⟩
 .obtain⟨x,y,z⟩:=(h.bM c).1 g b
  exact⟨x,y.imp id le.s,z⟩
theorem ju.mono(h:ju Γ l):ju mX l:=by
 cases h with
 |ask a b c=>exact .ask (by rw[le.n];exact a) b c| tell a b c d=>exact .tell (by rw[le.n];exact a) b (le.s c) λx e=>by have:=d x e;rw[le.w];exact this
 |grant a b c d f=>exact .grant (by rw[le.n];exact a) b (c.imp id le.s) d f| kept a b=>exact .kept (by rw[le.n];exact a) b| late a b=>exact .late (by rw[le.n];exact a) b
theorem n9.mono(h:n9 Γ b):n9 mX b:=by
 obtain⟨bk,e,r,p⟩:=h;exact⟨bk,e,r,λg a=>⟨(p g a).e,(p g a).s.imp id le.s,(p g a).bc,(p g a).ok⟩⟩
theorem ff.mono(H:ff Γ h):ff mX h:=⟨by rw[le.n];exact H.na,λk a e=>(H.as k a e).mono le,H.nb,λb c=>(H.bs b c).mono le,λl hl=>(H.ls l hl).mono le,H.rs⟩
end
section
variable{Γ:fw}(O:Γ.Ok){h:cv}(H:ff Γ h)
include O H
theorem Y2(e:k < Γ.na)(hz:h.ls.length<=900000):∃Y h',h.Do zX [.int k] (.fr (ec h.ls.length Y.length)) h'/\ff Γ h'/\h'.ls=h.ls++Y/\Y.length<=6/\h'.rs=h.rs/\h.lr h':=by
 obtain⟨a,c,d⟩:=H.asker e;have g:k<h.as.length:=(alK.mp c).1;obtain⟨Y,b,av,aE,cX,f⟩:=Tz O d;have i:=cX.len;exact⟨Y,_,Tx c av (by omega),(H.put g aE).wr cX.ok,rfl,i,rfl,F3 c f⟩
theorem Y1{k:Nat}{a:bG}(e:h.as[k]? = some a)(hs:a.bP="calm")(j:a.bK=false){d:Option c9}(hd:d=none\/nO [eU d]=pure (.v (.ax true)))(hw:Γ.nc k (a.wi+1) d)(hz:h.ls.length<=900000)(i:h.rs.length<=100000) :
  ∃Y h',h.Do mA [.int k,eU d] (.fr (ec h.ls.length Y.length)) h'/\ff Γ h'/\h'.ls=h.ls++Y/\Y.length<=6/\h'.rs.length=h.rs.length+1/\h'.as=h.as.set k (a.q' (eU d)).asks/\Y≠[]:=by
 have b:=H.as k a e;have p:k<h.as.length:=(alK.mp e).1;obtain⟨ms,fa,fk,c⟩:=b.hl.ex;have g:eU d=.aH\/nO [eU d]=pure (.v (.ax true)):=hd.imp (λz=>by rw[z];rfl) id;have av:=Tv (a:=a) c.mem c.len hs j (QZ d) g;obtain⟨dQ,r,s2,s3⟩:=b.op;have l:e4 Γ (a.q' (eU d)) k:=⟨b.me,b.lt,b.bP,b.hl,b.op,⟨d,rfl,λ_=>hw⟩,(λz=>by rw[show(a.q' (eU d)).bP=a.bP from rfl,hs]at z;exact absurd z sR),(λz=>by rw[show(a.q' (eU d)).bP=a.bP from rfl,hs]at z;exact absurd z sS),mK⟩;have n:=HD O l ⟨d,rfl,hw⟩;have f:=GU O b (s:=(a.dg+1,a.me)) c (O.hJ s2);have q:=f.len;refine⟨_,_,Y0 e (QZ d) av (by omega) i,((H.put p n).row (Pc (f6 (by decide +kernel)) cQ cQ (kh (Ph λx m=>O.hZ hw m) (by decide)) cQ)).wr f.ok,rfl,q,?_,rfl,λz=>c.ne (List.map_eq_nil_iff.mp z)⟩;unfold cv.wr cv.row cv.put;dsimp only;rw[alN];rfl
end
def tq:Option c9->Bool
 |some (.move _)=>true|_=>false
def hS(l:List (Option c9))(n:Nat):Nat:=((l.take n).filter tq).length
def t5(l:List (Option c9))(n:Nat):hS l n<=l.length:=amq (anw _ _) (by rw[amV];omega)
def abn(l:List (Option c9))(h:m<=n):hS l m<=hS l n:=by
 unfold hS;have:l.take m=(l.take n).take m:=by rw[List.take_take,aoA h]
 rw[this];exact((List.take_sublist m (l.take n)).filter tq).length_le
def abo{l:List (Option c9)}(e:l[n]? = some d):hS l (n+1)=hS l n+if tq d=true then 1 else 0:=by
 unfold hS;rw[apP,e,List.filter_append,alN];cases q:tq d<;>simp[q]
def mM(w:Nat->List (Option c9))(s:c5):Nat:=hS (w 0) (s.last (0:Nat)).toNat+hS (w 1) (s.last (1:Nat)).toNat+hS (w 2) (s.last (2:Nat)).toNat+hS (w 3) (s.last (3:Nat)).toNat+hS (w 4) (s.last (4:Nat)).toNat+hS (w 5) (s.last (5:Nat)).toNat
def GJ:aC.D->Bool
 |.t _=>true|_=>false
def many(w:Nat->List (Option c9)):Nat:=(w 0).length+(w 1).length+(w 2).length+(w 3).length+(w 4).length+(w 5).length
def jF(W:List (List Nat))(na:Nat)(w:Nat->List (Option c9)):fw where
 W:=W
 na:=na
 nc:=λi n d=>∃(k m:Nat),k<6/\i=k/\n=(m:Int)+1/\(w k)[m]? = some d
 E:=λe s=>0<=e/\e.toNat+(if GJ s.aW=true then 1 else 0)<=mM w s
def aam{G:aC.D->Prop}{s:c5}(h:fP G W s)(t:c5)(i n:Int)(v:aC.D)(a:t.ds=kj (Q:=m9) s.ds (i,.t [.int i,.int n,v]))(j:Int):t.last j=if j=i then n else s.last j:=by
 unfold c5.last;rw[a,VW (Q:=m9) _ h.ov.nodup j]
 by_cases c:j=i
 .rw[if_pos c,if_pos c];rfl
 .rw[if_neg c,if_neg c]
def adM{s:c5}(hs:s.aW=.aH)(i:Int)(x:c9):GJ (eG s i x).1.aW=true->tq (some x)=true:=by
 cases x<;>unfold eG<;>dsimp only<;>(try split)<;>(try unfold c5.put)<;>(try dsimp only)<;>(try rw[hs])<;>intro z<;>first|rfl|cases z
def aeJ{w:Nat->List (Option c9)}{s t:c5}(d:k<6)(b:∀j:Nat,j≠k->t.last (j:Nat)=s.last (j:Nat))(hs:hS (w k) (s.last (k:Nat)).toNat+c<=hS (w k) (t.last (k:Nat)).toNat):mM w s+c<=mM w t:=by
 have key:∀j:Nat,j≠k->hS (w j) (t.last (j:Nat)).toNat=hS (w j) (s.last (j:Nat)).toNat:=λj a=>by rw[b j a]
 unfold mM;have e:k=0\/k=1\/k=2\/k=3\/k=4\/k=5:=by omega
 rcases e with rfl|rfl|rfl|rfl|rfl|rfl
 .rw[key 1 (by decide),key 2 (by decide),key 3 (by decide),key 4 (by decide),key 5 (by decide)];omega
 .rw[key 0 (by decide),key 2 (by decide),key 3 (by decide),key 4 (by decide),key 5 (by decide)];omega
 .rw[key 0 (by decide),key 1 (by decide),key 3 (by decide),key 4 (by decide),key 5 (by decide)];omega
 .rw[key 0 (by decide),key 1 (by decide),key 2 (by decide),key 4 (by decide),key 5 (by decide)];omega
 .rw[key 0 (by decide),key 1 (by decide),key 2 (by decide),key 3 (by decide),key 5 (by decide)];omega
 .rw[key 0 (by decide),key 1 (by decide),key 2 (by decide),key 3 (by decide),key 4 (by decide)];omega
def ta{W:List (List Nat)}{w:Nat->List (Option c9)}(E:W.length<63)(A:na<=6)(H:many w<=60)(hd:∀(k:Nat)(d:Option c9)(x:c9),d∈w k->d=some x->l4 hB W x):(jF W na w).Ok where
 w:=E
 n:=A
 done:=λ{e s i n d} h a hw=>by
  obtain⟨k,m,y,rfl,rfl,g⟩:=hw
  cases d with
  |none=>exact a|some x=>
   unfold p8;dsimp only
   by_cases c:(gA s.aW)=true/\s.last (k:Nat)<(m:Int)+1
   .rw[if_pos c]
    have q:s.aW=.aH:=by
     rcases h.aW with e|e|⟨⟨xs,e⟩,_⟩
     .exact e
     .rw[e]at c;cases c.1
     .rw[e]at c;cases c.1
    have l:=aam h { (eG s (k:Nat) x).1 with ds:=kj (Q:=m9) s.ds ((k:Nat),.t [.int (k:Nat),.int ((m:Int)+1),(eG s (k:Nat) x).2]) } (k:Nat) ((m:Int)+1) _ rfl;have B:=adM q (k:Nat) x;refine⟨a.1,?_⟩;have b:=a.2;rw[q]at b;have b:e.toNat<=mM w s:=b;generalize D:({ (eG s (k:Nat) x).1 with ds:=kj (Q:=m9) s.ds ((k:Nat),.t [.int (k:Nat),.int ((m:Int)+1),(eG s (k:Nat) x).2]) }:c5)=T at l ⊢;have u:T.aW=(eG s (k:Nat) x).1.aW:=by rw[<-D]
    have r:=l (k:Nat);rw[if_pos rfl]at r;have st:=abo g;have mo:=abn (w k) (m:=(s.last (k:Nat)).toNat) (n:=m) (by omega);have eT:(T.last (k:Nat)).toNat=m+1:=by rw[r];omega
    have ps:=aeJ (w:=w) (s:=s) (t:=T) (c:=if tq (some x)=true then 1 else 0) y (λj F=>by rw[l (j:Nat),if_neg (by omega)]) (by rw[eT,st];omega);rw[u]
    by_cases z:GJ (eG s (k:Nat) x).1.aW=true
    .rw[if_pos z]
     rw[if_pos (B z)]at ps;omega
    .rw[if_neg z]
     omega
   .rw[if_neg c];exact a
 ki:=λ{e s} h a ⟨xs,f⟩=>by
  have b:=a.2;rw[f]at b;have b:e.toNat+1<=mM w s:=b;have p:=a.1;refine⟨by omega,?_⟩;show(e+1).toNat+0<=mM w s;omega
 hJ:=λ{e s} a=>by
  have b:=a.2;have p:=a.1;have G:mM w s<=many w:=by
   unfold mM many;have I:=t5 (w 0) (s.last (0:Nat)).toNat;have a1:=t5 (w 1) (s.last (1:Nat)).toNat;have a2:=t5 (w 2) (s.last (2:Nat)).toNat;have fI:=t5 (w 3) (s.last (3:Nat)).toNat;have iQ:=t5 (w 4) (s.last (4:Nat)).toNat;have jz:=t5 (w 5) (s.last (5:Nat)).toNat;omega
  refine⟨p,?_⟩;have:e.toNat<=mM w s:=amq (an6 _ _) b;omega
 hZ:=λ{i n d x} ⟨k,m,_,_,_,g⟩ f=>hd k d x (amh g) f
def t6(h:l <+: o)(n:Nat):hS l n<=hS o n:=by
 obtain⟨r,rfl⟩:=h;unfold hS;rw[List.take_append,List.filter_append,alN];omega
def VZ{w g:Nat->List (Option c9)}(h:∀k,w k <+: g k):(jF W na w).BL (jF W na g) where
 w:=rfl
 n:=rfl
 wi:=λ{i n d} ⟨k,m,a,b,c,e⟩=>⟨k,m,a,b,c,by
  obtain⟨r,j⟩:=h k;rw[<-j,al8 (alK.mp e).1];exact e⟩
 e:=λ{e s} f=>⟨f.1,amq f.2 (by
  unfold mM;have l:=t6 (h 0) (s.last (0:Nat)).toNat;have a1:=t6 (h 1) (s.last (1:Nat)).toNat;have a2:=t6 (h 2) (s.last (2:Nat)).toNat;have fI:=t6 (h 3) (s.last (3:Nat)).toNat;have iQ:=t6 (h 4) (s.last (4:Nat)).toNat;have jz:=t6 (h 5) (s.last (5:Nat)).toNat;omega)⟩
def addW(w:Nat->List (Option c9))(k:Nat)(d:Option c9):Nat->List (Option c9):=λj=>if j=k then w k++[d]else w j
def R2(w:Nat->List (Option c9))(k:Nat)(d:Option c9)(j:Nat):w j <+: addW w k d j:=by
 unfold addW;split
 .rename_i e;subst e;exact aoG _ _
 .exact aoZ _
def R0(a:k<6)(d:Option c9):many (addW w k d)=many w+1:=by
 unfold many addW;have e:k=0\/k=1\/k=2\/k=3\/k=4\/k=5:=by omega
 rcases e with rfl|rfl|rfl|rfl|rfl|rfl<;>simp<;>omega
def R1{w:Nat->List (Option c9)}(a:k<6)(d:Option c9):(jF W na (addW w k d)).nc k ((w k).length+1) d:=
 ⟨k,(w k).length,a,rfl,rfl,by unfold addW;rw[if_pos rfl];simp⟩
def mc:c5:=⟨[],[],0,.aH,.aH⟩
def TJ:mc.D=CC:=rfl
def TK(G:aC.D->Prop)(W:List (List Nat)):fP G W mc:=⟨by simp[mc],.nil,by simp[mc],by simp[mc],.nil,by simp[mc],.inl rfl,.inl rfl,by simp[mc]⟩
def acP{Γ:fw}(b:Γ.E 0 mc)(a:k < Γ.na)(cD:hB hall):e4 Γ (t8 k hall) k:=
 ⟨rfl,a,.inl rfl,cD,⟨mc,TK _ _,b,TJ.symm⟩,⟨none,rfl,λz=>absurd rfl z⟩,(λz=>absurd z sR),(λz=>absurd z sS),mK⟩
def V0(W:List (List Nat))(na:Nat)(w:Nat->List (Option c9)):(jF W na w).E 0 mc:=⟨Int.le_refl _,amt _⟩
def acN{Γ:fw}(h:Γ.E 0 mc)(cD:hB hall):ff Γ (kf Γ.na hall) where
 na:=by unfold kf;simp
 as:=λk a e=>by
  unfold kf at e;dsimp only at e;rw[al4]at e
  by_cases c:k < Γ.na
  .rw[anp c]at e
   cases e;exact acP h c cD
  .rw[aot (by simpa using c)]at e
   cases e
 nb:=by unfold kf;simp
 bs:=λb f=>by
  have:b=.t []:=by
   have:=List.eq_of_mem_replicate f;exact this
  subst this;exact⟨[],rfl,.nil,λg d=>(nomatch d)⟩
 ls:=λl hl=>nomatch hl
 rs:=λl hl=>nomatch hl
def A5{α:Type}(xs:List α):md (xs.map λ_=>.ax true)=some (xs.map λ_=>true)/\(xs.map λ_=>true).all id=true:=⟨yw (λ_=>true) xs,amv.mpr λx h=>by obtain⟨_,_,rfl⟩:=amd.mp h;rfl⟩
def R8{α:Type}(xs:List α):oA [.fr (xs.map λ_=>.ax true)]=pure (.v (.ax true)):=by
 show(match md (xs.map λ_=>D.ax true)with|some bs=>pure (R.v (.ax (bs.all id)))|none=>bad)=_;rw[(A5 xs).1];show pure (R.v (.ax ((xs.map λ_=>true).all id)))=_;rw[(A5 xs).2]
def Z1{k:Nat}(h:k<6):wF [.int (k:Nat)]=pure (.v (.ax true)):=by
 have:(k:Int)<=5:=by omega
 simp[wF,IA,pH,this]
def Z2(xs:List D):wF [.t xs]=pure (.v (.ax false)):=by kernel_rfl
def Pw(x y:D):z0 [.t [x,y]]=pure (.v (.ax true)):=by kernel_rfl
def Ur{k:Nat}{ps:List D}(a:1<=k)(b:k<=ps.length)(c:ps.length<=6):Fc [.t [.int (k:Nat),.t ps]]=pure (.v (.ax true)):=by
 refine h5 rfl ((ph (oN ((w_ (Ai (iR (Pw (.int (k:Nat)) (.t ps))))).trans ((w_ (Ai (iR (pH k)))).trans rfl)))).trans ((ph (U':=[.v (.t [.int (k:Nat),.t ps]),.v (.int ps.length)]) rfl).trans ?_));have:(1:Int)<=k:=by omega
 have:(k:Int)<=ps.length:=by omega
 have:(ps.length:Int)<=6:=by omega
 unfold Iq;simp[*]
theorem JC:∀(n m:Nat)(r:a9),m<n->r.deep<=m->r.wf->r0 n [enc r,.int (m:Nat)]=pure (.v (.ax true))
 |0,m,r,h,_,_=>absurd h (am5 _)| n+1,m,.kp k,_,_,hw=>by rw[sY];exact h5 rfl (Gl ((tm (iR (Z1 hw))).trans rfl))|n+1,0,.ch k ps,_,hd,_=>absurd hd (Nat.not_succ_le_zero _)|n+1,m+1,.ch k ps,h,hd,hw=>by
  have av:((m+1:Nat):Int)-1=(m:Nat):=by omega
  have dl:=p6 (ps:=ps) (n:=m+1) hd;rw[ru];refine h5 rfl ((ph (oN (iR (Z2 [.int (k:Nat),.t (ps.map enc)])))).trans ((ph (oN ((w_ (iR rfl)).trans (Ai (iR (Ur hw.1 (by rw[alM];exact hw.2.1) (by rw[alM];exact hw.2.2.1))))))).trans (jl (nk (R8 ps) (cons_of (yJ rfl (by rw[alM];exact fU (by have:=hw.2.2.1;omega)) (rh enc _ ps λq a=>UK (call_of (rs:=[.v (enc q),.v (.int (((m+1:Nat):Int)-1))]) rfl ?_))) rfl)))));show r0 n [enc q,.int (((m+1:Nat):Int)-1)]=_;rw[av];exact JC n m q (Nat.lt_of_succ_lt_succ h) (Nat.le_of_lt_succ (dl q a)) (uQ.mp hw.2.2.2 q a)
theorem OS:∀(n:Nat)(r:a9),r.deep<n->r.names.length<=12->mF n [enc r]=pure (.fr (r.names.map ba))
 |0,r,h,_=>absurd h (am5 _)| n+1,.kp k,_,_=>by rw[sY];exact Dt rfl (Gl ((tm (iR (pH k))).trans rfl))|n+1,.ch k ps,h,c=>by
  have dl:=p6 (ps:=ps) (n:=n) (Nat.lt_of_succ_lt_succ h);have c:(a9.eL ps).length<=12:=c;rw[ru];obtain⟨U',e,s,rfl⟩:=vB (b:=λd U=>wc (mF n) (U.set 2 (.v d))) (ds:=ps.map enc) (U:=[.v (.t [.int (k:Nat),.t (ps.map enc)]),.en false [],.e]) (λi U=>∃s,U=[.v (.t [.int (k:Nat),.t (ps.map enc)]),.en false ((a9.eL (ps.take i)).map ba),s]) ⟨_,rfl⟩ (λi d U hd ⟨s,j⟩=>by
   subst j;obtain⟨q,a,rfl⟩:=z8 hd;have f:a9.eL (ps.take (i+1))=a9.eL (ps.take i)++q.names:=by rw[take_snoc a,wW];exact congrArg _ (am2 _)
   have hl:(a9.eL (ps.take (i+1))).length<=12:=by
    have:=congrArg (λz=>(a9.eL z).length) (List.take_append_drop (i+1) ps);simp only[wW,alN]at this;omega
   rw[f,alN]at hl;have g:=OS n q (dl q (amh a)) (by omega);refine⟨_,.inl (?_:_=pure (fG.bu [.v (.t [.int (k:Nat),.t (ps.map enc)]),.en false ((a9.eL (ps.take (i+1))).map ba),.v (enc q)])),_,rfl⟩;rw[f,ane];have z:(a9.eL (ps.take i)).length+q.names.length<=alP:=anr (fU (by omega));unfold wc;simp[g,z])
  rw[alM,ao1]at e;exact Dt rfl ((ph (oN (iR (GR [.int (k:Nat),.t (ps.map enc)])))).trans ((ph (adX (U:=[.v (.t [.int (k:Nat),.t (ps.map enc)]),.e,.e]))).trans ((ph (Mp (it:=lI (ae aG (I 0) (af (.int 1)))) rfl e)).trans rfl)))
def Ql{r:a9}(h:Good r):wJ [enc r]=pure (.v (.ax true)):=by
 have a:r0 12 [enc r,.int 4]=_:=JC 12 4 r (by decide) h.2.1 h.1;have b:=OS 12 r (by have:=h.2.1;omega) h.2.2;have aE:(r.names.length:Int)<=12:=by have:=h.2.2;omega
 simp only[wJ,IF];simp[a,b,aE]
def yQ:Option Nat->D
 |some o=>ba o|none=>.aH
def Vn(m:Nat)(os:List Nat):wD [ba m,.l (os.map ba)]=pure (.v (yQ (os.find? (l' m)))):=by
 have step:∀(o:Nat)(s2:Slot),zI [.v (ba m),.b4 (os.map ba),.v (ba o)]=if l' m o=true then pure (.cp (.v (ba o)))else pure (.bu [.v (ba m),.b4 (os.map ba),.v (ba o)]):=λo s2=>by
  have e:(((m&&& o:Nat):Int)==0)=l' m o:=by
   unfold l';rw[ano,beq_iff_eq,beq_iff_eq];omega
  have a:m&&& o=0↔l' m o=true:=by unfold l';rw[beq_iff_eq]
  simp only[zI,g0];simp only[b7,aU,ae,I,UU];simp[R_,a]
 have L:=s8 (b:=λd U=>zI (U.set 2 (.v d))) ba (l' m) (λo=>.v (ba o)) (λU=>∃s2,U=[.v (ba m),.b4 (os.map ba),s2]) os [.v (ba m),.b4 (os.map ba),.e] ⟨_,rfl⟩
  (λo U _ ⟨s2,c⟩=>by
   subst c;refine⟨λh=>?_,λh=>⟨[.v (ba m),.b4 (os.map ba),.v (ba o)],?_,_,rfl⟩⟩
   .have:=step o s2
    rw[if_pos h]at this;exact this
   .have:=step o s2
    rw[if_neg (by rw[h];exact alR)]at this;exact this)
 simp only[wD,Ic,Ie];simp only[g0 m]at L ⊢
 cases e:os.find? (l' m)with
 |some o=>
  have:=L.1 o e;simp[this,yQ]
 |none=>
  obtain⟨U',a,s2,rfl⟩:=L.2 e;simp[a,yQ]
def rt(k:a9):Option Nat->D
 |some m=>.t [ba m,ba (((least k).find? (l' m)).getD 0)]|none=>.aH
def ad1(g:Good a)(i:Good k):z5 [enc a,enc k]=pure (.v (rt k ((least a).find? (j_ k)))):=by
 have j:=Oq (r:=a) g.1 (by have:=g.2.1;omega) (by have:=g.2.2;omega);have n:=Oq (r:=k) i.1 (by have:=i.2.1;omega) (by have:=i.2.2;omega);have step:∀(m:Nat)(c:Slot),zK [.v (enc a),.v (enc k),.v (.l ((least k).map ba)),.v (ba m),c]=if j_ k m=true then pure (.cp (.v (rt k (some m))))else pure (.bu [.v (enc a),.v (enc k),.v (.l ((least k).map ba)),.v (ba m),.v .aH]):=λm c=>by
  have f:=Vn m (least k);unfold j_;simp only[zK]
  cases e:(least k).find? (l' m)with
  |none=>
   rw[e]at f;simp[f,yQ]
  |some o=>
   rw[e]at f;have f:wD [ba m,.l ((least k).map ba)]=pure (.v (ba o)):=f;simp only[g0 o]at f;simp[f,rt,e,g0 o]
 have L:=s8 (b:=λd U=>zK (U.set 3 (.v d))) ba (j_ k) (λm=>.v (rt k (some m))) (λU=>∃s3 c,U=[.v (enc a),.v (enc k),.v (.l ((least k).map ba)),s3,c]) (least a) [.v (enc a),.v (enc k),.v (.l ((least k).map ba)),.e,.e] ⟨_,_,rfl⟩
  (λm U _ ⟨s3,c,p⟩=>by
   subst p;refine⟨λh=>?_,λh=>⟨[.v (enc a),.v (enc k),.v (.l ((least k).map ba)),.v (ba m),.v .aH],?_,_,_,rfl⟩⟩
   .have:=step m c
    rw[if_pos h]at this;exact this
   .have:=step m c
    rw[if_neg (by rw[h];exact alR)]at this;exact this)
 simp only[z5,Jd,Je,Jf]
 cases e:(least a).find? (j_ k)with
 |some m=>
  have:=L.1 m e;simp[j,n,this,rt]
 |none=>
  obtain⟨U',q,s3,c,rfl⟩:=L.2 e;simp[j,n,q,rt]
def Ws{a k:a9}(b:Good a)(c:Good k)(e:(least a).find? (j_ k)=none):o3 [.t [enc a,enc k]]=pure (.v (.ax true)):=by
 have pt:=ad1 b c;rw[e]at pt;simp only[o3,Iy,Iz];simp[Pw,Ql b,Ql c,pt,rt]
def oX(c:Nat):Bool:=decide (97<=c/\c<=122)
def BZ:("abcdefghijklmnopqrstuvwxyz":Str).cps.toList=(ame 26).map λk=>97+k:=by decide +kernel
def Zp{c:Nat}(h:oX c=true):uJ (ch c) "abcdefghijklmnopqrstuvwxyz"=true:=by
 unfold uJ;have h:=of_decide_eq_true h;rw[show ch c=⟨#[c]⟩from rfl,StrLaws.found_one,BZ,decide_eq_true_eq];simp only[amd,amz];exact⟨c-97,by omega,by omega⟩
def AN{n:Nat}(h:n<=1000):n<=alP:=by rw[ama];omega
def abu{l:List Nat}(f:1<=l.length)(d:l.length<=8)(b:l.all oX=true):wH [.str (a7 l)]=pure (.v (.ax true)):=by
 have a:gn eM (ae (r6 false) (I 0) (af (.str "abcdefghijklmnopqrstuvwxyz"))) [.e] (l.map λc=>D.str (ch c))=pure (l.map λ_=>D.ax true):=
  rh (λc=>D.str (ch c)) (λ_=>D.ax true) l λc a=>by simp[Zp (amv.mp b c a)]
 have h:yI (a7 l)=l.map λc=>D.str (ch c):=rfl
 obtain⟨j,g⟩:=A5 l;have z:=AN (n:=l.length) (by omega);have i:l.length<alP:=fU (by omega);have:(1:Int)<=l.length:=by omega
 have:(l.length:Int)<=8:=by omega
 simp only[wH,IC,ID];simp[*,pA]
def O8{n:Int}(b:-1000000000000000000000<n)(a:n<10000000000000000000000000000000000000000):wI [.int n]=pure (.v (.ax true)):=by
 have e:(if n<0 then -n else n)<1000000000000000000000000000000000000000000000000000000000000:=by split<;>omega
 simp only[wI,IE];simp[pH,e]
def Vk{n:Int}(a:0<=n)(b:n<4):zZ [.int n]=pure (.v (.ax true)):=by
 simp only[zZ,Iw];simp[O8 (show -1000000000000000000000<n by omega) (by omega),a]
def e7(k:Str)(d:D):Prop:=o4 [.str k,d]=pure (.v (.ax true))
def j6(a b:Str)(c:Bool):Prop:=oEq (.v (.str a)) (.v (.str b))=pure (.v (.ax c))
def yN:j6 "name" "name" true/\j6 "number" "name" false/\j6 "number" "number" true/\j6 "fence" "name" false/\j6 "fence" "number" false/\j6 "fence" "fence" true/\j6 "hall" "name" false/\j6 "hall" "number" false/\j6 "hall" "fence" false:=by
 unfold j6;exact⟨by kernel_rfl,by kernel_rfl,by kernel_rfl,by kernel_rfl,by kernel_rfl,by kernel_rfl,by kernel_rfl,by kernel_rfl,by kernel_rfl⟩
def aeU{a:List Nat}(h:wH [.str (a7 a)]=pure (.v (.ax true))):e7 "name" (.str (a7 a)):=by
 have q:=yN.1;unfold j6 at q;simp only[e7,o4,vd,ve,vf,vg];simp[q,h]
def AA{n:Int}(b:-1000000000000000000000<n)(a:n<10000000000000000000000000000000000000000):e7 "number" (.int n):=by
 obtain⟨_,bq,bO,_⟩:=yN;unfold j6 at *;simp only[e7,o4,vd,ve,vf,vg];simp[bq,bO,O8 b a]
def aeS{n:Int}(c:0<=n)(a:n<4):e7 "fence" (.int n):=by
 obtain⟨_,_,_,bq,bO,b,_⟩:=yN;unfold j6 at *;simp only[e7,o4,vd,ve,vf,vg];simp[bq,bO,b,Vk c a]
def aeT{xs:List D}(h:o3 [.t xs]=pure (.v (.ax true))):e7 "hall" (.t xs):=by
 obtain⟨_,_,_,_,_,_,bq,bO,a⟩:=yN;unfold j6 at *;simp only[e7,o4,vd,ve,vf,vg];simp[bq,bO,a,h]
theorem JU{el:bt}{U:aK}:∀xs:List (D×D),(∀x∈xs,(el ((U.set 0 (.v x.1)).set 1 (.v x.2)) >>= R.dat)=pure (.ax true))->qh eM el U xs=pure (xs.map λ_=>.ax true)
 |[],_=>rfl|x::xs,h=>by
  unfold qh;show(pure true >>= _)=_;rw[pure_bind,if_pos rfl,<-bind_assoc,h x al2,pure_bind,JU xs λy a=>h y (alW _ a),pure_bind];rfl
def UE(x:D)(ps:List D):cutD (x::ps) (some 1) none=ps:=UG (x::ps) 1
def ou{w:Str}{s:List Str}{ps:List D}(b:zF.lookup w=some (.t (s.map .str)))(c:ps.length=s.length)(s3:s.length<=3)(d:∀x∈s.zip ps,e7 x.1 x.2):nO [.t (.str w::ps)]=pure (.v (.ax true)):=by
 have ne:¬((s.length:Int)+1=0):=by omega
 have h:qh eM (bh o4 (aa (I 0) (aa (I 1) ai))) [.e,.e] ((s.map D.str).zip ps)=pure (((s.map D.str).zip ps).map λ_=>.ax true):=JU _ λx a=>by
  rw[List.zip_map_left]at a;obtain⟨y,f,rfl⟩:=amd.mp a;have e:o4 [.str y.1,y.2]=_:=d y f;simp[e]
 obtain⟨i,g⟩:=A5 ((s.map D.str).zip ps);have uV:s.length<alP:=fU (by omega);simp only[nO,Ir,It,Iu,Iv,Fb,Ig];simp[b,c,UE,h,i,g,uV,xU,R.walk,ne]
theorem y3:∀(m:Nat)(r:a9),r.deep<m->∀n,2*r.deep<=n->(enc r).bY n=true
 |0,r,h,_,_=>absurd h (am5 _)| m+1,.kp k,_,n,_=>by rw[sY];cases n<;>rfl
 |m+1,.ch k ps,h,n,o=>by
  simp only[a9.deep]at h o;have dl:=p6 (ps:=ps) (n:=a9.mi ps+1) (by omega);rw[ru];obtain⟨a,rfl⟩:∃a,n=a+2:=⟨n-2,by omega⟩;have hz:hg (ps.map enc) a=true:=kG.mpr λp c=>by
   obtain⟨q,b,rfl⟩:=amd.mp c;have:=dl q b;exact y3 m q (by omega) a (by omega)
  simp[D.bY,hg,hz]
theorem Q6:∀(m:Nat)(r:a9),r.deep<m->r.wf->(enc r).Bd=true
 |0,r,h,_=>absurd h (am5 _)| m+1,.kp k,_,_=>by rw[sY];rfl|m+1,.ch k ps,h,hw=>by
  simp only[a9.deep]at h;have dl:=p6 (ps:=ps) (n:=a9.mi ps+1) (by omega);rw[ru];have hl:ps.length<=6:=hw.2.2.1;have hz:lW (ps.map enc)=true:=uR.mpr λp b=>by
   obtain⟨q,a,rfl⟩:=amd.mp b;have:=dl q a;exact Q6 m q (by omega) (uQ.mp hw.2.2.2 q a)
  show(decide (2<=1000)&&(true&&((decide ((ps.map enc).length<=1000)&&lW (ps.map enc))&&true)))=true;rw[hz,alM,decide_eq_true (show ps.length<=1000 by omega)];rfl
def L6{r:a9}(h:Good r):aC.Ok 8 (enc r):=⟨y3 12 r (by have:=h.2.1;omega) 8 (by have:=h.2.1;omega),Q6 12 r (by have:=h.2.1;omega) h.1⟩
theorem OP:∀(m:Nat)(r:a9),r.deep<m->r.wf->∃j∈r.names,j<6
 |0,_,h,_=>absurd h (am5 _)|m+1,.kp k,_,hw=>⟨k,amb.mpr rfl,hw⟩
 |m+1,.ch k [],_,hw=>by
  have c:1<=k:=hw.1;have d:k<=0:=hw.2.1;omega
 |m+1,.ch k (p::ps),h,hw=>by
  simp only[a9.deep]at h;have dl:=p6 (ps:=p::ps) (n:=a9.mi (p::ps)+1) (by omega) p al2;obtain⟨j,a,b⟩:=OP m p (by omega) (uQ.mp hw.2.2.2 p al2);exact⟨j,amy.mpr (.inl a),b⟩
def L7(r:a9):b0 (enc r)=.v (enc r):=by cases r<;>rfl
def DG(b:Good a)(c:Good k):hB (iB a k) where
 ex:=⟨_,λm=>a.fills (cC m),λm=>k.fills (cC m),abe b c,(by
   have:=anw (λj=>(a.names++k.names).contains j) (ame 6);rw[amZ]at this;exact this),(λj d=>amz.mp (am1.mp d).1),(by
   obtain⟨j,d,e⟩:=OP 12 a (by have:=b.2.1;omega) b.1;intro z;have:=List.filter_eq_nil_iff.mp z j (amz.mpr e);exact this (by simpa using anG d)),enc a,enc k,rfl,L7 a,L7 k,
   (λm=>yW m 12 a (by have:=b.2.1;omega) b.1),λm=>yW m 12 k (by have:=c.2.1;omega) c.1⟩
 no:=by
  have ga:=y3 12 a (by have:=b.2.1;omega) 63 (by have:=b.2.1;omega);have kH:=y3 12 k (by have:=c.2.1;omega) 63 (by have:=c.2.1;omega);unfold iB;rw[rq (x:=.v (.t [enc a,enc k])) (y:=.v (.str "over")) (kG.mpr (by simp only[ams];exact⟨ga,kH,λ_ h=>nomatch h⟩)) (by decide +kernel)];rfl
 ok:=kg (L6 b) (L6 c)
def m4:c9->Prop
 |.put a n=>e7 "name" (.str (a7 a))/\e7 "number" (.int n)|.add a n=>e7 "name" (.str (a7 a))/\e7 "number" (.int n)|.swap a o n=>e7 "name" (.str (a7 a))/\e7 "number" (.int o)/\e7 "number" (.int n)|.take g=>e7 "fence" (.int g)|.renew g=>e7 "fence" (.int g)|.free g=>e7 "fence" (.int g)|.sure g a n=>e7 "fence" (.int g)/\e7 "name" (.str (a7 a))/\e7 "number" (.int n)|.move h=>e7 "hall" h|.fin=>True
def ZA{d:c9}(h:m4 d):nO [d.D]=pure (.v (.ax true)):=by
 cases d with
 |put a n=>exact ou (s:=["name","number"]) (by kernel_rfl) rfl (by decide) (by simpa[m4]using h)| add a n=>exact ou (s:=["name","number"]) (by kernel_rfl) rfl (by decide) (by simpa[m4]using h)| swap a o n=>exact ou (s:=["name","number","number"]) (by kernel_rfl) rfl (by decide) (by simpa[m4]using h)| take g=>exact ou (s:=["fence"]) (by kernel_rfl) rfl (by decide) (by simpa[m4]using h)| renew g=>exact ou (s:=["fence"]) (by kernel_rfl) rfl (by decide) (by simpa[m4]using h)| free g=>exact ou (s:=["fence"]) (by kernel_rfl) rfl (by decide) (by simpa[m4]using h)| sure g a n=>exact ou (s:=["fence","name","number"]) (by kernel_rfl) rfl (by decide) (by simpa[m4]using h)| move z=>exact ou (s:=["hall"]) (by kernel_rfl) rfl (by decide) (by simpa[m4]using h)| fin=>exact ou (s:=[]) (by kernel_rfl) rfl (by decide) (by simp)
def k0(s n:Nat):List Nat:=(ame n).map λk=>(s+k) % 6
def nY(s n:Nat):List D:=(k0 s n).map ba
def n2(q s n:Nat):a9:=.ch q ((k0 s n).map .kp)
theorem JS(p:Nat->Bool):∀a:List Nat,a9.cnt p (a.map .kp)=(a.filter p).length
 |[]=>rfl|k::a=>by
  show(if p k then 1 else 0)+a9.cnt p (a.map .kp)=_;rw[JS p a,ao0];cases p k<;>simp<;>omega
theorem OQ:∀a:List Nat,a9.eL (a.map .kp)=a
 |[]=>rfl| k::a=>by show[k]++a9.eL (a.map .kp)=_;rw[OQ a];rfl
theorem LK:∀a:List Nat,a9.mi (a.map .kp)=0
 |[]=>rfl| k::a=>by show max 0 (a9.mi (a.map .kp))=0;rw[LK a];rfl
def A1{q s n:Nat}(b:1<=q)(d:q<=n)(e:n<=6):Good (n2 q s n):=by
 have hl:((k0 s n).map a9.kp).length=n:=by simp[k0]
 refine⟨⟨b,by omega,by omega,uQ.mpr λr a=>?_⟩,?_,?_⟩
 .obtain⟨k,c,rfl⟩:=amd.mp a
  obtain⟨j,_,rfl⟩:=amd.mp c;exact Nat.mod_lt _ (by decide)
 .show a9.mi _+1<=4;rw[LK];omega
 .show(a9.eL _).length<=12
  rw[OQ];simp[k0];omega
def QL(q s n:Nat):enc (n2 q s n)=.t [.int (q:Nat),.t (nY s n)]:=by
 unfold n2 nY;rw[ru,anM];rfl
theorem Mk(p:Nat->Bool):∀a:List Nat,(a.filter p).length+(a.filter λk=>!p k).length=a.length
 |[]=>rfl|k::a=>by
  have:=Mk p a;rw[ao0,ao0,amk];cases p k<;>simp<;>omega
def agR(p:Nat->Bool)(q s n:Nat):(n2 q s n).fills p=decide (q<=((k0 s n).filter p).length):=by
 show decide (q<=a9.cnt p _)=_;rw[JS]
def Wt{q r s n:Nat}(j:1<=q)(l:q<=n)(t:1<=r)(u:r<=n)(c:n<=6)(w:n<q+r):(least (n2 q s n)).find? (j_ (n2 r s n))=none:=by
 have ga:=A1 (s:=s) j l c;have kH:=A1 (s:=s) t u c;have d:(k0 s n).length=n:=by simp[k0]
 cases C:(least (n2 q s n)).find? (j_ (n2 r s n))with
 |none=>rfl|some m=>
  have i:=anx C;have f:=aoz C;obtain⟨a,mf,_⟩:=zN _ ga.1 i;unfold j_ at f;obtain⟨o,jE⟩:=ap2.mp f;obtain⟨b,of,_⟩:=zN _ kH.1 (anx jE);have g:=aoz jE;have h:=(Sb a b).mp g;rw[agR,decide_eq_true_eq]at mf of;have sp:=Mk (cC m) (k0 s n);have le:((k0 s n).filter (cC o)).length<=((k0 s n).filter λk=>!cC m k).length:=by
   rw[<-apw,<-apw];refine List.countP_mono_left λk _ p=>?_
   cases e:cC m k with
   |false=>rfl|true=>exact(h k e p).elim
  omega
structure BN(a k:a9):Prop where
 ga:Good a
 kH:Good k
 is:o3 [iB a k]=pure (.v (.ax true))
def w7(b:Good a)(c:Good k)(h:(least a).find? (j_ k)=none):BN a k:=⟨b,c,Ws b c h⟩
def Qk(n d:Int)(m:Nat)(hd:pP n d):gn eM (ae oMod (ae ew (ae eS (I 1) (af (.int d))) (I 0)) (af (.int 6))) [.e,.v (.int n)] (ec 0 m)=pure (nY (n / d % 6).toNat m):=by
 rw[Gb];have e:nY (n / d % 6).toNat m=(ame m).map λk=>ba (((n / d % 6).toNat+k) % 6):=by
  unfold nY k0;rw[anM];rfl
 rw[e];refine rh ba (λk=>ba (((n / d % 6).toNat+k) % 6)) (ame m) λk _=>?_
 have:(n / d+(k:Nat)) % 6=(((((n / d % 6).toNat+k) % 6:Nat)):Int):=by
  have:=mod_lt (a:=n / d) (b:=6) (by decide);omega
 rw[g0,g0];generalize(((n / d % 6).toNat+k) % 6:Nat)=z at *;simp[this,hd]
def aaA(s m:Nat):(nY s m).length=m:=by simp[nY,k0]
def aar(c:Int):∃a k,Fg [.int c]=pure (.v (iB a k))/\BN a k:=by
 obtain⟨m,w,D,j⟩:∃m:Nat,1+c % 4+c / 4 % 2*(c / 8 % 3)=(m:Nat)/\1<=m/\m<=6:=by
  have B:=mod_lt (a:=c) (b:=4) (by decide);have A:=mod_lt (a:=c / 8) (b:=3) (by decide);have g:c / 4 % 2=0\/c / 4 % 2=1:=by omega
  rcases g with g|g<;>rw[g]
  .exact⟨(1+c % 4).toNat,by omega,by omega,by omega⟩
  .exact⟨(1+c % 4+c / 8 % 3).toNat,by omega,by omega,by omega⟩
 have mp:(0:Int)<(m:Int):=by omega
 obtain⟨q,eq,bq,bO⟩:∃q:Nat,1+c / 144 % (m:Int)=(q:Nat)/\1<=q/\q<=m:=⟨(1+c / 144 % (m:Int)).toNat,by have:=mod_lt (a:=c / 144) mp;omega,by have:=mod_lt (a:=c / 144) mp;omega,by have:=mod_lt (a:=c / 144) mp;omega⟩;have f:(0:Int)<(q:Int):=by omega
 obtain⟨r,y,l,n,x⟩:∃r:Nat,(m:Int)+1-(q:Int)+c / 864 % (q:Int)=(r:Nat)/\1<=r/\r<=m/\m<q+r:=⟨((m:Int)+1-(q:Int)+c / 864 % (q:Int)).toNat,by have:=mod_lt (a:=c / 864) f;omega,by have:=mod_lt (a:=c / 864) f;omega,by have:=mod_lt (a:=c / 864) f;omega,by have:=mod_lt (a:=c / 864) f;omega⟩;have p:=Qk c 24 m (C5 (by decide) (by decide));generalize hs:(c / 24 % 6).toNat=s at p;have u:=aaA s m;refine⟨n2 q s m,n2 r s m,?_,w7 (A1 bq bO j) (A1 l n j) (Wt bq bO l n j x)⟩;unfold iB;rw[QL,QL];have z:-4611686018427387904<=(m:Int)/\(m:Int)<4611686018427387904:=by omega
 have h:(nY s m).length+1<=alP:=by rw[u,ama];omega
 have i:(ec 0 m).length<alP:=by rw[mP,ama];omega
 have d:iJ (c / 4 % 2) (c / 8 % 3):=Fp (by omega) (by omega);generalize nY s m=row at *;refine h5 rfl (cR (U':=[.v (.int c),.v (.int m),.e,.e]) (kn ?_) (cR (U':=[.v (.int c),.v (.int m),.v (.t row),.e]) (kn (nk (rs:=[.fr row]) ?_ (cons_of (yJ (ds:=ec 0 m) ?_ i p) rfl))) (cR (U':=[.v (.int c),.v (.int m),.v (.t row),.v (.int q)]) (kn ?_) (jl (sk rfl (sk ?_ rfl))))))
 .rw[<-w];exact fj rfl rfl (fj (abl d) rfl rfl)
 .simp[h]
 .simp[z]
 .rw[<-eq];exact fj rfl rfl (fj (wR mp) rfl rfl)
 .rw[<-y];exact fj rfl rfl (fj (wR f) rfl rfl)
def fB(s k:Nat):Nat:=(s+k) % 6
def uw(s:Nat):a9:=.ch 2 [.ch 2 [.kp (fB s 0),.kp (fB s 1),.kp (fB s 2)],.ch 2 [.kp (fB s 2),.kp (fB s 3),.kp (fB s 4)],.kp (fB s 0)]
def ux(s:Nat):a9:=.ch 2 [.kp (fB s 0),.kp (fB s 0),.kp (fB s 1)]
def uy(s:Nat):a9:=.ch 1 [.ch 2 [.kp (fB s 0),.kp (fB s 1)],.ch 2 [.kp (fB s 2),.kp (fB s 3)]]
def uz(s:Nat):a9:=.ch 2 [.ch 1 [.kp (fB s 0),.kp (fB s 1)],.ch 1 [.kp (fB s 2),.kp (fB s 3)]]
def aae(s k:Nat):fB s k<6:=Nat.mod_lt _ (by decide)
def afu(s:Nat):Good (uw s)/\Good (ux s)/\Good (uy s)/\Good (uz s):=by
 have k:=aae s;unfold uw ux uy uz Good;simp[a9.wf,a9.n4,a9.deep,a9.mi,a9.names,a9.eL,k]
def afv:∀s,s<6->((least (uw s)).find? (j_ (uw s)))=none/\((least (ux s)).find? (j_ (ux s)))=none/\((least (uy s)).find? (j_ (uz s)))=none/\((least (uz s)).find? (j_ (uy s)))=none:=by
 decide +kernel
def afw(s:Nat):nY s 5=[ba (fB s 0),ba (fB s 1),ba (fB s 2),ba (fB s 3),ba (fB s 4)]:=rfl
def EY(c:Int):∃a k,tS [.int c]=pure (.v (iB a k))/\BN a k:=by
 by_cases m:c % 5<3
 .obtain⟨a,k,e,o⟩:=aar (c / 5)
  exact⟨a,k,h5 rfl (st (fR m) (jl (call_of rfl e))),o⟩
 .have t:=Qk c 5 5 (C5 (by decide) (by decide))
  have j:(ec 0 5).length<alP:=by rw[mP,ama];omega
  have w:(c / 5 % 6).toNat<6:=by have:=mod_lt (a:=c / 5) (b:=6) (by decide);omega
  generalize(c / 5 % 6).toNat=s at *;obtain⟨n,p,q,r⟩:=afu s;obtain⟨x,u,h,i⟩:=afv s w;rw[afw]at t;have pre:∀{d},IS [.v (.int c),.v (.l [ba (fB s 0),ba (fB s 1),ba (fB s 2),ba (fB s 3),ba (fB s 4)]),.e,.e,.e]=pure (.cp (.v d))->tS [.int c]=pure (.v d):=λe=>h5 rfl (fD (hM m) (cR (afJ (yJ (ds:=ec 0 5) rfl j t) rfl) e))
  by_cases g:c % 5=4
  .by_cases f:c / 30 % 3=0
   .exact⟨ux s,ux s,pre (st (fR g) (cR rfl (cR (tm (fR f)) rfl))),w7 p p u⟩
   .exact⟨uw s,uw s,pre (st (fR g) (cR rfl (cR (oN (hM f)) rfl))),w7 n n x⟩
  .by_cases f:c / 30 % 2=0
   .exact⟨uy s,uz s,pre (fD (hM g) (cR rfl (cR rfl (st (fR f) rfl)))),w7 q r h⟩
   .exact⟨uz s,uy s,pre (fD (hM g) (cR rfl (cR rfl (fD (hM f) rfl)))),w7 r q i⟩
end dI
namespace dI
open PySem PySem.Spec aA aC
@[simp] theorem akG:vm c b U=sr c b pE U:=rfl
theorem Q5{c:aK->M Bool}{b:aL}(J:aK->Prop)(a:aK->Nat)(d:aK->Prop)(step:∀U,J U->(c U=pure false/\d U)\/(c U=pure true/\∃U',(b U=pure (.bu U')\/b U=pure (.cx U'))/\J U'/\a U' < a U)) :
  ∀(n:Nat)(U:aK),J U->a U<n->∃U',sr c b n U=pure (.bu U')/\d U'
 |0,U,_,h=>absurd h (am5 _)|n+1,U,C,h=>by
  rcases step U C with⟨e,f⟩|⟨e,o,av,vG,hm⟩
  .refine⟨U,?_,f⟩
   show(c U >>= _)=_;rw[e];rfl
  .obtain⟨g,aE,f⟩:=Q5 J a d step n o vG (by omega)
   refine⟨g,?_,f⟩;show(c U >>= _)=_;rw[e,pure_bind,if_pos rfl];rcases av with av|av<;>rw[av,pure_bind]<;>exact aE
def Q0(h:n<16777216):n<pE:=by unfold pE;omega
def CV{α:Type}{xs:List α}{lo hi:Option Int}{v:α}(h:v∈cutD xs lo hi):v∈xs:=List.mem_of_mem_drop (List.mem_of_mem_take h)
end dI
namespace dI
open PySem PySem.Spec aA aC iN fX i7
structure fh(l:List Nat):Prop where
 p1:1<=l.length
 w':l.length<=8
 al:l.all oX=true
def fh.ok(h:fh l):al5 (a7 l)=true:=af5.mpr λc a=>by
 have:=amv.mp h.al c a;simp[oX]at this;omega
def fh.hZ(h:fh l):l9 l:=⟨h.ok,h.p1,h.w'⟩
def fh.nb(h:fh l):e7 "name" (.str (a7 l)):=aeU (abu h.p1 h.w' h.al)
def Hv{i:Int}(b:0<=i)(h:i<26):∃c,aG (.v (.str "abcdefghijklmnopqrstuvwxyz")) (.v (.int i))=pure (.v (.str (a7 [c])))/\oX c=true:=by
 obtain⟨c,e⟩:=B8 (xs:=("abcdefghijklmnopqrstuvwxyz":Str).cps.toList) (i:=i) b (by rw[BZ];simpa using h);refine⟨c,?_,?_⟩
 .show(match d1 ("abcdefghijklmnopqrstuvwxyz":Str).cps.toList i with
   |some c=>if("abcdefghijklmnopqrstuvwxyz":Str).length<=alP then(pure (R.v (.str ⟨#[c]⟩)):M R)else bad| none=>bad)=_
  rw[e];dsimp only;rw[if_pos (AN (by decide +kernel))];rfl
 .have:=HF e
  rw[BZ]at this;obtain⟨k,a,rfl⟩:=amd.mp this;have:=amz.mp a;simp[oX];omega
def ag7{a:List Nat}(d:a.length<=8){i:Int}(b:0<=i)(h:i<(a.length:Int)):∃c,aG (.v (.str (a7 a))) (.v (.int i))=pure (.v (.str (a7 [c]))):=by
 obtain⟨c,e⟩:=B8 (xs:=(a7 a).cps.toList) (i:=i) b h;refine⟨c,?_⟩;show(match d1 (a7 a).cps.toList i with
  |some c=>if(a7 a).length<=alP then(pure (R.v (.str ⟨#[c]⟩)):M R)else bad| none=>bad)=_
 rw[e];dsimp only;rw[if_pos (AN (by rw[pA];omega))];rfl
def UX:("":Str)=a7 []:=by decide +kernel
def aih:("x":Str)=a7 [120]:=by decide +kernel
def aas(c:Int):∃a,Fh [.int c]=pure (.v (.str (a7 a)))/\fh a:=by
 have k:=mod_lt (a:=c) (b:=8) (by decide);obtain⟨z,hz,g⟩:∃z:Nat,1+c % 8=(z:Nat)/\1<=z/\z<=8:=⟨(1+c % 8).toNat,by omega,by omega,by omega⟩;obtain⟨U',e,c',a,rfl,d⟩:=Q5 (b:=Og) (c:=aU (ae oLt (cA nx (aa (I 2) ai)) (I 1)))
  (λU=>∃(c':Int)(a:List Nat),U=[.v (.int c'),.v (.int (z:Nat)),.v (.str (a7 a))]/\a.all oX=true/\a.length<=z)
  (λU=>match U[(2:Nat)]? with|some (.v (.str s))=>8-s.length|_=>0)
  (λU=>∃(c':Int)(a:List Nat),U=[.v (.int c'),.v (.int (z:Nat)),.v (.str (a7 a))]/\fh a)
  (λU ⟨c',a,h,d,hl⟩=>by
   subst h
   by_cases i:a.length<z
   .refine .inr ⟨(iR (fj rfl (nk (wd (by omega)) rfl) rfl)).trans (fR (by omega)),?_⟩
    have f:=mod_lt (a:=c' / 8) (b:=26) (by decide);obtain⟨ch,av,j⟩:=Hv f.1 f.2;refine⟨[.v (.int (c' / 3)),.v (.int (z:Nat)),.v (.str (a7 (a++[ch])))],.inl ?_,⟨_,_,rfl,by rw[api,d];simpa using j,by rw[alN];exact i⟩,?_⟩
    .exact cR (kn (fj (yG (y:=[ch]) (by simp;omega)) rfl (fj av rfl rfl))) rfl
    .show 8-(a7 (a++[ch])).length<8-(a7 a).length
     rw[pA,pA,alN,am0];omega
   .exact .inl ⟨(iR (fj rfl (nk (wd (by omega)) rfl) rfl)).trans (hM (by omega)),c',a,rfl,by omega,by omega,d⟩) pE [.v (.int c),.v (.int (z:Nat)),.v (.str (a7 []))] ⟨_,_,rfl,rfl,amt _⟩ (Q0 (by show 8-(a7 []).length<16777216;omega))
 refine⟨a,?_,d⟩;refine h5 rfl (cR (U':=[.v (.int c),.v (.int (z:Nat)),.e]) (kn (by rw[<-hz];rfl)) (cR (kn (congrArg (λz=>pure (R.v (.str z))) UX)) (cR e rfl)))
def B1{a:List Nat}(h:a.all oX=true)(lo hi:Option Int):(cutD a lo hi).all oX=true:=amv.mpr λx b=>amv.mp h x (CV b)
def aat(c:Int):∃a b d,z2 [.int c]=pure (.fr [.str (a7 a),.str (a7 b),.str (a7 d)])/\fh a/\fh b/\fh d:=by
 obtain⟨a,w,g⟩:=aas c;have w':=g.w';have n:(0:Int)<(a.length:Int):=by have:=g.p1;omega
 have D:a.length<=alP:=AN (by omega);obtain⟨t,B,F⟩:∃t:Nat,c / 5 % (a.length:Int)=(t:Nat)/\t<a.length:=⟨(c / 5 % (a.length:Int)).toNat,by have:=mod_lt (a:=c / 5) n;omega,by have:=mod_lt (a:=c / 5) n;omega⟩;obtain⟨x,ex⟩:=ag7 w' (i:=(t:Int)) (by omega) (by omega);generalize r:(apv "abcdefghijklmnopqrstuvwxyz" (a7 [x])+1+c / 7 % 25) % 26=f at *;have q:0<=f/\f<26:=by subst r;exact mod_lt (by decide)
 obtain⟨o,jE,u⟩:=Hv q.1 q.2;have bf:cutD a none (some (t:Int))=a.take t:=UH _ _ (by omega);have p:cutD a (some ((t:Int)+1)) none=a.drop (t+1):=UI a (t+1) (by omega);have fA:cutD a none (some 7)=a.take 7:=UJ a 7;have k:(a.take t).length+[o].length<=1000:=by simp;omega
 have m:(a.take t).length+[o].length+(a.drop (t+1)).length<=1000:=by simp;omega
 have A:fh (a.take t++[o]++a.drop (t+1)):=⟨by simp;omega,by simp;omega,by
  rw[api,api,<-bf,<-p,B1 g.al,B1 g.al];simpa using u⟩
 generalize a.take t=T at *;generalize a.drop (t+1)=σ at *;have bc:∀{U:aK}{i:Nat}{lo hi:lp}{l h:Option Int},I i U=pure (.v (.str (a7 a)))->lo U=pure l->hi U=pure h->sQ (I i) lo hi U=pure (.v (.str (a7 (cutD a l h)))):=λav aE cX=>by
  show(I _ _ >>= _)=_;rw[av];show(_ >>= _)=_;rw[aE];show(_ >>= _)=_;rw[cX];simp[pA,D,UC]
 have pre:∀{d},fh d->IT [.v (.int c),.v (.str "abcdefghijklmnopqrstuvwxyz"),.v (.str (a7 a)),.v (.int t),.v (.str (a7 [o])),.v (.str (a7 (a++[120])))]=IU [.v (.int c),.v (.str "abcdefghijklmnopqrstuvwxyz"),.v (.str (a7 a)),.v (.int t),.v (.str (a7 [o])),.v (.str (a7 d))]->
   ∃a b d,z2 [.int c]=pure (.fr [.str (a7 a),.str (a7 b),.str (a7 d)])/\fh a/\fh b/\fh d:=λ{d} fC e=>by
  refine⟨a,T++[o]++σ,d,Dt rfl (cR rfl (cR (kn (call_of rfl w)) (cR (kn (fj (wR n) rfl (nk (wd (by omega)) rfl))) ?_))),g,A,fC⟩;rw[B];refine cR (U':=[.v (.int c),.v (.str "abcdefghijklmnopqrstuvwxyz"),.v (.str (a7 a)),.v (.int t),.v (.str (a7 [o])),.e]) (kn (fj jE rfl ?_)) (cR (kn (fj (yG (y:=[120]) (by simp;omega)) rfl (congrArg (λz=>pure (R.v (.str z))) aih))) (e.trans ?_))
  .rw[<-r]
   refine fj (wR (by decide)) (fj (x:=.v (.int (apv "abcdefghijklmnopqrstuvwxyz" (a7 [x])+1))) rfl (fj (x:=.v (.int (apv "abcdefghijklmnopqrstuvwxyz" (a7 [x])))) rfl ?_ rfl) rfl) rfl;show(aa (ae aG (I 2) (I 3)) ai _ >>= _)=_;rw[cons_of (fj ex rfl rfl) rfl];rfl
  .have s:=bc (U:=[.v (.int c),.v (.str "abcdefghijklmnopqrstuvwxyz"),.v (.str (a7 a)),.v (.int t),.v (.str (a7 [o])),.v (.str (a7 d))]) (i:=2) (lo:=jC) (hi:=j5 (I 3)) (h:=some t) rfl rfl rfl
   have s2:=bc (U:=[.v (.int c),.v (.str "abcdefghijklmnopqrstuvwxyz"),.v (.str (a7 a)),.v (.int t),.v (.str (a7 [o])),.v (.str (a7 d))]) (i:=2) (lo:=j5 (ae ew (I 3) (af (.int 1)))) (hi:=jC) (l:=some (t+1)) rfl rfl rfl;rw[bf]at s;rw[p]at s2;exact afj (OB (cons_of rfl (cons_of (fj (yG (by rw[alN];exact m)) (fj (yG k) s rfl) s2) (cons_of rfl rfl))) rfl (amE rfl))
 by_cases E:a.length=8
 .have j:(a.length:Int)=8:=by omega
  have s3:=bc (U:=[.v (.int c),.v (.str "abcdefghijklmnopqrstuvwxyz"),.v (.str (a7 a)),.v (.int t),.v (.str (a7 [o])),.v (.str (a7 (a++[120])))]) (i:=2) (lo:=jC) (hi:=j5 (af (.int 7))) (h:=some 7) rfl rfl rfl;rw[fA]at s3;exact pre ⟨by rw[amV];omega,by rw[amV];omega,by rw[<-fA];exact B1 g.al _ _⟩ (cR ((tm ((iR (fj Df (nk (wd (by omega)) rfl) rfl)).trans (fR j))).trans (kn s3)) rfl)
 .have j:¬((a.length:Int)=8):=by omega
  exact pre ⟨by simp,by simp;omega,by rw[api,g.al];rfl⟩ (cR (oN ((iR (fj Df (nk (wd (by omega)) rfl) rfl)).trans (hM j))) rfl)
def sM(W:List (List Nat))(x:Option c9):Prop:=∀y,x=some y->l4 hB W y/\m4 y
def LJ(hw:fh w)(l:w∈W)(N:List D)(d c n:Int)(j:e7 "number" (.int n)) :
  ∃x,Cv [.b4 N,.v (.int d),.v (.int c),.v (.str (a7 w)),.v (.int n),.v (.int (d / 96 % 4)),.v (.int (d % 16))]=pure (.cp (.v (eU x)))/\sM W x:=by
 have E:=mod_lt (a:=d) (b:=16) (by decide);have F:=mod_lt (a:=d / 96) (b:=3) (by decide);have u:=mod_lt (a:=d / 96) (b:=4) (by decide);have i:=aeS u.1 u.2;generalize d / 96 % 4=g at *;generalize d % 16=y at *;have nb:=hw.nb;have hZ:=hw.hZ
 by_cases p:y<5
 .exact⟨some (.add w n),st (fR p) rfl,λy e=>by cases e;exact⟨⟨hZ,l⟩,nb,j⟩⟩
 refine s6 (fD (hM p) rfl) ?_
 by_cases r:y<7
 .exact⟨some (.put w n),st (fR r) rfl,λy e=>by cases e;exact⟨⟨hZ,l⟩,nb,j⟩⟩
 refine s6 (fD (hM r) rfl) ?_
 by_cases A:y=7
 .exact⟨some (.swap w (d / 96 % 3) n),st (fR A) rfl,λy e=>by cases e;exact⟨⟨hZ,l⟩,nb,AA (by omega) (by omega),j⟩⟩
 refine s6 (fD (hM A) rfl) ?_
 by_cases z:y=8
 .exact⟨some (.take g),st (fR z) rfl,λy e=>by cases e;exact⟨trivial,i⟩⟩
 refine s6 (fD (hM z) rfl) ?_
 by_cases s:y=9
 .obtain⟨v,B,x,ex,o⟩:=pick (λv=>∃x,v=eU x/\sM W x) [.t [.str "renew",.int g],.t [.str "free",.int g],.t [.str "sure",.int g,.str (a7 w),.int n]] (d / 400) 3 rfl (by decide) (by
   simp only[ams];exact⟨⟨some (.renew g),rfl,λy e=>by cases e;exact⟨trivial,i⟩⟩,⟨some (.free g),rfl,λy e=>by cases e;exact⟨trivial,i⟩⟩,⟨some (.sure g w n),rfl,λy e=>by cases e;exact⟨⟨hZ,l⟩,i,nb,j⟩⟩,λ_ h=>nomatch h⟩)
  subst ex;exact⟨x,st (fR s) (jl (fj (ZI B) rfl rfl)),o⟩
 refine s6 (fD (hM s) rfl) ?_
 by_cases f:y=10\/y=11
 .obtain⟨a,k,e,m⟩:=EY (d / 96)
  refine⟨some (.move (iB a k)),st ?_ (jl (sk rfl (call_of rfl e))),λy e=>by cases e;exact⟨⟨⟨_,rfl⟩,DG m.ga m.kH⟩,aeT m.is⟩⟩;rcases f with f|f
  .exact adv (fR f)
  .exact(w_ (hM (by omega))).trans (fR f)
 refine s6 (fD ((w_ (hM λe=>f (.inl e))).trans (hM λe=>f (.inr e))) rfl) ?_
 by_cases q:y=12
 .by_cases bO:d / 96 % 3=0
  .exact⟨some .fin,st ((Hy (fR q)).trans (fR bO)) rfl,λy e=>by cases e;exact⟨trivial,trivial⟩⟩
  .exact⟨none,fD ((Hy (fR q)).trans (hM bO)) rfl,λy e=>by cases e⟩
 .exact⟨none,fD (R9 (hM q)) rfl,λy e=>by cases e⟩
def aaq(k:fh a)(j:fh b)(hd:fh d)(f c:Int):∃x,z1 [.l [.str (a7 a),.str (a7 b),.str (a7 d)],.int f,.int c]=pure (.v (eU x))/\sM [a,b,d] x:=by
 obtain⟨v,m,w,rfl,hw,i⟩:=pick (λv=>∃w,v=.str (a7 w)/\fh w/\w∈[a,b,d]) [.str (a7 a),.str (a7 b),.str (a7 d)] (f / 16) 3 rfl (by decide) (by simp only[ams];exact⟨⟨a,rfl,k,by simp⟩,⟨b,rfl,j,by simp⟩,⟨d,rfl,hd,by simp⟩,λ_ h=>nomatch h⟩);have q:=mod_lt (a:=c) (b:=10000000000000000000000000000000000000000) (by decide);have p:=mod_lt (a:=f / 96) (b:=3) (by decide);generalize[D.str (a7 a),.str (a7 b),.str (a7 d)]=N at *;have pre:∀{n:Int}{x},b7 (aU (ae oEq (ae oMod (ae eS (I 1) (af (.int 48))) (af (.int 2))) (af (.int 1)))) (b8 4 (ae oMod (ae eS (I 1) (af (.int 96))) (af (.int 3)))) bS [.b4 N,.v (.int f),.v (.int c),.v (.str (a7 w)),.v (.int (c % 10000000000000000000000000000000000000000-100000000000000000000)),.e,.e]=pure (.bu [.b4 N,.v (.int f),.v (.int c),.v (.str (a7 w)),.v (.int n),.e,.e])->Cv [.b4 N,.v (.int f),.v (.int c),.v (.str (a7 w)),.v (.int n),.v (.int (f / 96 % 4)),.v (.int (f % 16))]=pure (.cp (.v (eU x)))->z1 [.l N,.int f,.int c]=pure (.v (eU x)):=λav e=>
  h5 rfl (cR (kn (fj (x:=.b4 N) (by show(match d1 N (f / 16 % 3)with|some d=>pure (R.v d)|none=>bad)=_;rw[m]) rfl rfl)) (cR (U':=[.b4 N,.v (.int f),.v (.int c),.v (.str (a7 w)),.v (.int (c % 10000000000000000000000000000000000000000-100000000000000000000)),.e,.e]) (by with_unfolding_all rfl) (cR av (cR rfl (cR rfl e)))))
 by_cases g:f / 48 % 2=1
 .obtain⟨x,e,o⟩:=LJ hw i N f c (f / 96 % 3) (AA (by omega) (by omega))
  exact⟨x,pre ((tm (fR g)).trans rfl) e,o⟩
 .obtain⟨x,e,o⟩:=LJ hw i N f c (c % 10000000000000000000000000000000000000000-100000000000000000000) (AA (by omega) (by omega))
  exact⟨x,pre (oN (hM g)) e,o⟩
def eW(h:cv)(m:bX)(τ:aK)(a:Nat->fG)(c:cv):Prop:=∀i S p,dF S i p h->RR S i p (m (.v (.ref i)::τ)) (a i) c
def l6{α:Type}(h:cv)(m:aK->M α)(τ:aK)(a:Nat->α):Prop:=∀i S p,dF S i p h->aF S (m (.v (.ref i)::τ)) (a i)
abbrev mH(τ:aK):Nat->fG:=λi=>.bu (.v (.ref i)::τ)
section
variable{h ag c:cv}{τ τ':aK}{aJ:Nat->fG}{bd m n:bX}{t:aK->M Bool}{r:R}
def g4(q:eW h m τ (mH τ') ag)(z:eW ag bd τ' aJ c):eW h (bw m bd) τ aJ c:=λi S p A=>by
 obtain⟨S1,p1,e,a⟩:=q i S p A;obtain⟨b,cj,d,s2⟩:=z i S1 p1 a.at';exact⟨b,cj,dO e d,a.trans s2⟩
def afp(q:eW h m τ (λ_=>.cp r) c):eW h (bw m bd) τ (λ_=>.cp r) c:=λi S p A=>by
 obtain⟨S1,p1,b,a⟩:=q i S p A;exact⟨S1,p1,Bo b,a⟩
def xk(e:l6 h t τ λ_=>true)(q:eW h m τ aJ c):eW h (fO (fW t) m n) τ aJ c:=λi S p A=>by
 obtain⟨S1,p1,b,a⟩:=q i S p A;exact⟨S1,p1,xO (aF.to (e i S p A)) b,a⟩
def uv(e:l6 h t τ λ_=>false)(q:eW h n τ aJ c):eW h (fO (fW t) m n) τ aJ c:=λi S p A=>by
 obtain⟨S1,p1,b,a⟩:=q i S p A;exact⟨S1,p1,Bm (aF.to (e i S p A)) b,a⟩
def lQ{m:aL}(e:l6 h m τ aJ):eW h (b5 m) τ aJ h:=λi S p A=>⟨S,p,e i S p A,.refl A⟩
def kZ{m:aL}(e:∀i S p,dF S i p h->aF S (m (.v (.ref i)::τ)) (.bu (.v (.ref i)::τ'))):eW h (b5 m) τ (mH τ') h:=λi S p A=>⟨S,p,e i S p A,.refl A⟩
theorem AH{m:Str}(rs:List R)(g:h.Do mf (rs.map R.arg) r c)(b:l6 h ms τ λ_=>rs)(d:∀p:hD,p.aS.lookup m=none:=by exact λ_=>rfl)(hs:rs.all R.hu=true:=by rfl):eW h (fN (dS "House" m mf (I 0) (dR ms))) τ (mH τ) c:=λi S p A=>by
 obtain⟨a,cj,t,s⟩:=g S i p A;exact⟨a,cj,l0 (k7 A.a8 (.of rfl) (d p) (aF.to (b i S p A)) hs t),s⟩
theorem afn(rs:List R)(g:h.Do mf (rs.map R.arg) r c)(b:l6 h ms τ λi=>.v (.ref i)::rs)(hs:rs.all R.hu=true:=by rfl):eW h (fN (n6 mf (dR ms))) τ (mH τ) c:=λi S p A=>by
 obtain⟨a,cj,t,s⟩:=g S i p A;exact⟨a,cj,l0 (x_call (b i S p A) (by rw[aoa,hs];rfl) t),s⟩
theorem LP{n N:Nat}{ds:List D}(q:eW h bd (ds.map b0++amm (N-n) .e) (mH τ') c)(hl:ds.length+1=n:=by rfl):h.Do (fnX n N bd) ds (.v .aH) c:=λS i p A=>by
 obtain⟨a,cj,t,s⟩:=q i S p A;exact⟨a,cj,Bk hl t,s⟩
theorem UO{n N:Nat}{ds:List D}(q:eW h bd (ds.map b0++amm (N-n) .e) (λ_=>.cp (.v d)) c)(hl:ds.length+1=n:=by rfl):h.Do (fnX n N bd) ds (.v d) c:=λS i p A=>by
 obtain⟨a,cj,t,s⟩:=q i S p A;exact⟨a,cj,GZ hl t,s⟩
theorem Qi(J:aK->cv->Prop)(a:aK->Nat)(Q:aK->cv->Prop)(step:∀τ h,J τ h->(l6 h t τ (λ_=>false)/\Q τ h)\/(l6 h t τ (λ_=>true)/\∃τ' h',eW h b τ (mH τ') h'/\J τ' h'/\a τ' < a τ)) :
  ∀(n:Nat)(τ:aK)(h:cv),J τ h->a τ<n->∃τ' h',eW h (uT (fW t) b n) τ (mH τ') h'/\Q τ' h'
 |0,_,_,_,z=>absurd z (am5 _)|n+1,τ,h,C,z=>by
  rcases step τ h C with⟨e,d⟩|⟨e,o,ag,av,U,hm⟩
  .exact⟨τ,h,λi S p A=>⟨S,p,(aF.to (e i S p A)).bind rfl,.refl A⟩,d⟩
  .obtain⟨g,k,aE,d⟩:=Qi J a Q step n o ag U (by omega)
   refine⟨g,k,λi S p A=>?_,d⟩;obtain⟨S1,p1,q,f⟩:=av i S p A;obtain⟨j,cj,l,s2⟩:=aE i S1 p1 f.at';exact⟨j,cj,(aF.to (e i S p A)).bind (by rw[if_pos rfl];exact q.bind l),f.trans s2⟩
theorem Qh{b:D->bX}(J:Nat->aK->cv->Prop):∀(ds:List D)(j:Nat)(τ:aK)(h:cv),J j τ h->(∀l d τ h,ds[l]? = some d->J (j+l) τ h->∃τ' h',eW h (b d) τ (mH τ') h'/\J (j+l+1) τ' h')->∃τ' h',eW h (k6 b ds) τ (mH τ') h'/\J (j+ds.length) τ' h'
 |[],j,τ,h,o,_=>⟨τ,h,λi S p A=>⟨S,p,rfl,.refl A⟩,o⟩
 |d::ds,j,τ,h,o,step=>by
  obtain⟨f,ag,av,x⟩:=step 0 d τ h rfl o;obtain⟨g,s,aE,k⟩:=Qh J ds (j+1) f ag x λl e τ h he hi=>by
   rw[show j+1+l=j+(l+1)by omega]at hi ⊢;exact step (l+1) e τ h he hi
  refine⟨g,s,λi S p A=>?_,by rw[amk,show j+(ds.length+1)=j+1+ds.length by omega];exact k⟩;obtain⟨S1,p1,w,a⟩:=av i S p A;obtain⟨q,cj,u,s2⟩:=aE i S1 p1 a.at';exact⟨q,cj,Rc w u,a.trans s2⟩
def afo(ag:l6 h it τ λ_=>ds)(e:eW h (k6 (λd U=>b (U.set j (.v d))) ds) τ aJ c):eW h (qQ j it b) τ aJ c:=λi S p A=>by
 obtain⟨S1,p1,f,a⟩:=e i S p A;exact⟨S1,p1,Bl (ag i S p A) f,a⟩
end
def aaS(h:ju Γ L):∃(w:Str)(g i:Nat)(b c f:aC.D),L=.t [.str w,.int g,.int i,b,c,f]/\al5 w=true:=by
 cases h with
 | @ask me k e s o C J=>exact⟨"ask",me,k,_,_,_,rfl,by decide +kernel⟩| @tell me k e s p n d w o C J U=>exact⟨"tell",me,k,_,_,_,rfl,by decide +kernel⟩| @grant k a e s kp w o C J U eB=>exact⟨"grant",k,a,_,_,_,rfl,by decide +kernel⟩| @kept k a e s o C=>exact⟨"kept",k,a,_,_,_,rfl,by decide +kernel⟩| @late k a e s p o C=>exact⟨"late",k,a,_,_,_,rfl,by decide +kernel⟩
def Gx(h:cv):h.lr h:=λ_=>rfl
def af9{h h' c:cv}(a:h.lr h')(b:h'.lr c):h.lr c:=λi=>(b i).trans (a i)
abbrev k_(st b m k:Int)(c a:Slot):aK:=[.v (.int st),.v (.int b),.v (.int m),.v (.int k),c,a]
structure lj(Γ:fw)(h h':cv)(b:Nat):Prop where
 ok:ff Γ h'
 up:h.ls.length<=h'.ls.length
 ls:h'.ls.length<=h.ls.length+6*b
 rs:h'.rs.length<=h.rs.length+b
 wi:h.lr h'
def lj.trans(x:lj Γ h o a)(y:lj Γ o C b):lj Γ h C (a+b):=
 ⟨y.ok,amq x.up y.up,by have:=x.ls;have:=y.ls;omega,by have:=x.rs;have:=y.rs;omega,af9 x.wi y.wi⟩
section
variable{Γ:fw}(O:Γ.Ok)
include O
theorem Jz{h:cv}(H:ff Γ h)(d:k<h.ls.length)(hz:h.ls.length<=900000)(b:h.rs.length<=100000):∃R h',h.Do nM [.int k] (.fr R) h'/\lj Γ h h' 1:=by
 obtain⟨Y,h',e,H',a,c,g,f,_⟩:=TR H O d hz b;exact⟨_,h',e,H',by rw[a,alN];omega,by rw[a,alN];omega,by omega,f⟩
theorem T8{h:cv}(H:ff Γ h){k:Nat}(y:k<h.ls.length)(hz:h.ls.length<=900000)(D:h.rs.length<=100000)(st a m:Int)(s l:Slot) :
  ∃h' z B,∃b:Nat,eW h ER (k_ st a m (k:Nat) s l) (mH (k_ st a (m-(b:Nat)) ((k+1:Nat):Int) z B)) h'/\b<=1/\lj Γ h h' b:=by
 have el:h.ls[k]? = some h.ls[k]:=al1 _;obtain⟨w,d,e,f,j,n,F,en⟩:=aaS (H.ls _ (anK y));obtain⟨R,h',E,g⟩:=Jz O H y hz D;rw[F]at el;have bq:=jo en (show al5 "ask"=true by decide +kernel);have bO:=jo en (show al5 "tell"=true by decide +kernel);have pre:∃kp:Nat,∀{bd o c},eW h bd (k_ st a m (k:Nat) (.v (.t [.str w,.int d,.int e,f,j,n])) (.v (.int kp))) o c->eW h (bw (b5 (b8 5 (cP "House" "letter" tI (I 0) (aa (I 4) ai)))) (bw (b5 (b8 6 (ae aG (I 5) (af (.int 1))))) (bw (b5 (b7 (f_ (aU (ae oEq (ae aG (I 5) (af (.int 0))) (af (.str "ask")))) (aU (ae oEq (ae aG (I 5) (af (.int 0))) (af (.str "tell"))))) (b8 6 (ae aG (I 5) (af (.int 2)))) bS)) bd))) (k_ st a m (k:Nat) s l) o c:=by
  have r:∀{bd o c},eW h bd (k_ st a m (k:Nat) (.v (.t [.str w,.int d,.int e,f,j,n])) (.v (.int d))) o c->eW h (bw (b5 (b8 5 (cP "House" "letter" tI (I 0) (aa (I 4) ai)))) (bw (b5 (b8 6 (ae aG (I 5) (af (.int 1))))) bd)) (k_ st a m (k:Nat) s l) o c:=λq=>
   g4 (τ':=k_ st a m (k:Nat) (.v (.t [.str w,.int d,.int e,f,j,n])) l) (lQ λi S p A=>i0 (f5 A.a8 (.of rfl) rfl (bT (x:=.v (.int k)) (.of rfl) cI) (Ou A el)) rfl) (g4 (lQ λi S p A=>.of rfl) q)
  cases C:(w == "ask")with
  |true=>rw[C]at bq;exact⟨e,λq=>r (g4 (lQ λi S p A=>qj (EF (cH (cL bq (.of rfl) (.of rfl)))) (.of rfl)) q)⟩|false=>
   rw[C]at bq
   cases J:(w == "tell")with
   |true=>rw[J]at bO;exact⟨e,λq=>r (g4 (lQ λi S p A=>qj (nI (cH (cL bq (.of rfl) (.of rfl))) (cH (cL bO (.of rfl) (.of rfl)))) (.of rfl)) q)⟩|false=>rw[J]at bO;exact⟨d,λq=>r (g4 (lQ λi S p A=>qi (nI (cH (cL bq (.of rfl) (.of rfl))) (cH (cL bO (.of rfl) (.of rfl)))) (.of rfl)) q)⟩
 obtain⟨kp,pre⟩:=pre
 by_cases u:anu (a / 2 ^ kp) 1=1
 .exact⟨h',_,_,1,pre (g4 (τ':=k_ st a (m-1) (k:Nat) (.v (.t [.str w,.int d,.int e,f,j,n])) (.v (.int kp))) (xk (λi S p A=>.of (by simp[u])) (g4 (AH [.v (.int k)] E λi S p A=>.of rfl) (lQ λi S p A=>.of rfl))) (lQ λi S p A=>.of rfl)),alQ _,g⟩
 .exact⟨h,_,_,0,by rw[show m-((0:Nat):Int)=m by omega];exact pre (g4 (uv (λi S p A=>.of (by simp;rw[beq_false_of_ne u])) (lQ λi S p A=>.of rfl)) (lQ λi S p A=>.of rfl)),by omega,H,alQ _,by omega,by omega,Gx h⟩
theorem T7{h:cv}(H:ff Γ h){st:Nat}(hs:st<=h.ls.length)(hz:h.ls.length<=800000)(y:h.rs.length<=90000)(d:Int){m:Nat}(B:m<=26) :
  ∃h',h.Do Ff [.int st,.int d,.int m] (.v .aH) h'/\∃b,b<=26/\lj Γ h h' b:=by
 obtain⟨τ',h',e,x,k,c,a,rfl,b,l,G⟩:=Qi (b:=ER) (t:=g6 (aU (ae oLt (I 4) (cP "House" "many" kT (I 0) ai))) (aU (ae nS (I 3) (af (.int 0)))))
  (λτ g=>∃(k j:Nat)(c a:Slot),τ=k_ st d ((m:Int)-(j:Nat)) (k:Nat) c a/\j<=m/\lj Γ h g j)
  (λτ=>match τ[(3:Nat)]? with|some (.v (.int k))=>900000-k.toNat|_=>0)
  (λτ g=>∃(x k:Int)(c a:Slot),τ=k_ st d x k c a/\∃b,b<=26/\lj Γ h g b)
  (λτ g ⟨k,j,c,a,r,w,G⟩=>by
   subst r;have z:=G.ls;have jG:=G.rs;have f:l6 g (aU (ae oLt (I 4) (cP "House" "many" kT (I 0) ai))) (k_ st d ((m:Int)-(j:Nat)) (k:Nat) c a) (λ_=>decide ((k:Int)<g.ls.length)):=λi S p A=>cH (cL rfl (.of rfl) (qk A rfl))
   by_cases bf:k<g.ls.length
   .rw[decide_eq_true (by omega)]at f
    by_cases u:j<m
    .obtain⟨g',n,q,b,e,l,s⟩:=T8 O G.ok bf (by omega) (by omega) st d ((m:Int)-(j:Nat)) c a
     refine .inr ⟨λi S p A=>jd (f i S p A) (.of (fR (p:=(m:Int)-(j:Nat) > 0) (by omega))),_,g',e,⟨k+1,j+b,n,q,?_,by omega,G.trans s⟩,?_⟩
     .rw[show(m:Int)-(j:Nat)-(b:Nat)=(m:Int)-((j+b:Nat):Int)by omega]
     .show 900000-((k+1:Nat):Int).toNat<900000-((k:Nat):Int).toNat
      omega
    .exact .inl ⟨λi S p A=>jd (f i S p A) (.of (hM (p:=(m:Int)-(j:Nat) > 0) (by omega))),_,_,_,_,rfl,j,by omega,G⟩
   .rw[decide_eq_false (by omega)]at f
    exact .inl ⟨λi S p A=>oR (f i S p A),_,_,_,_,rfl,j,by omega,G⟩) pE (k_ st d m st .e .e) h ⟨st,0,.e,.e,by simp,amt _,H,alQ _,by omega,by omega,Gx h⟩ (Q0 (by show 900000-((st:Nat):Int).toNat<16777216;omega))
 exact⟨h',LP (g4 (lQ λi S p A=>.of rfl) e),b,l,G⟩
end
abbrev Ev(N:List D)(na c k a b dd st:Int)(d e f:Slot):aK:=[.b4 N,.v (.int na),.v (.int c),.v (.int k),.v (.int a),.v (.int b),.v (.int dd),.v (.int st),d,e,f]
structure ll(W:List (List Nat))(na:Nat)(w:Nat->List (Option c9))(h:cv)(n:Nat):Prop where
 ok:ff (jF W na w) h
 lR:∀(k:Nat)(A:bG),h.as[k]? = some A->A.wi=((w k).length:Nat)
 nQ:many w<=n
 ds:∀(k:Nat)(d:Option c9)(x:c9),d∈w k->d=some x->l4 hB W x
 ls:h.ls.length<=200*n
 rs:h.rs.length<=40*n
def Gz{w:Nat->List (Option c9)}{h h':cv}(a:h.lr h')(lR:∀(k:Nat)(A:bG),h.as[k]? = some A->A.wi=((w k).length:Nat)):∀(k:Nat)(A:bG),h'.as[k]? = some A->A.wi=((w k).length:Nat):=λk A e=>by
 have:=a k;rw[e]at this
 cases q:h.as[k]? with
 |none=>rw[q]at this;cases this
 |some B=>
  rw[q]at this;injection this with this
  have:=lR k B q;omega
def ll.V'(J:ll W na w h n)(G:lj (jF W na w) h h' b)(a:b<=26):ll W na w h' (n+1):=
 ⟨G.ok,Gz G.wi J.lR,by have:=J.nQ;omega,J.ds,by have:=J.ls;have:=G.ls;omega,by have:=J.rs;have:=G.rs;omega⟩
def Vb{Γ:fw}(O:Γ.Ok){h:cv}(H:ff Γ h)(hz:h.ls.length<=800000)(L:h.rs.length<=90000)(N:List D)(na c k f l dd:Int)(B:f % 4=3) :
  ∃h',eW h Cw (Ev N na c k f l dd (h.ls.length:Nat) .e .e .e) (λ_=>.cp (.v .aH)) h'/\∃b,b<=3/\lj Γ h h' b:=by
 obtain⟨n,F,P⟩:∃n:Nat,1+f / 24 % 3=(n:Nat)/\n<=3:=⟨(1+f / 24 % 3).toNat,by have:=mod_lt (a:=f / 24) (b:=3) (by decide);omega,by have:=mod_lt (a:=f / 24) (b:=3) (by decide);omega⟩;have K:-4611686018427387904<=(n:Int)/\(n:Int)<4611686018427387904:=by omega
 obtain⟨τ',g,e,b,q,rfl,r,G⟩:=Qh (b:=λd U=>Of (U.set 9 (.v d))) (λj τ g=>∃b q,τ=Ev N na c k f l dd (h.ls.length:Nat) q .e .e/\b<=j/\lj Γ h g b)
  (ec 0 n) 0 (Ev N na c k f l dd (h.ls.length:Nat) .e .e .e) h ⟨0,_,rfl,alQ _,H,alQ _,by omega,by omega,Gx h⟩ (λj d τ g hd ⟨b,q,w,r,G⟩=>by
   subst w;obtain⟨hi,rfl⟩:=AI hd;have M:=G.ls;have u:=G.up;have jG:=G.rs
   by_cases Q:0<h.ls.length
   .obtain⟨x,z,s⟩:∃x:Nat,(l+(0+(j:Nat))) % (h.ls.length:Int)=(x:Nat)/\x<h.ls.length:=⟨((l+(0+(j:Nat))) % (h.ls.length:Int)).toNat,by have:=mod_lt (a:=l+(0+(j:Nat))) (b:=(h.ls.length:Int)) (by omega);omega,by have:=mod_lt (a:=l+(0+(j:Nat))) (b:=(h.ls.length:Int)) (by omega);omega⟩
    obtain⟨R,g',y,E⟩:=Jz O G.ok (k:=x) (by omega) (by omega) (by omega);refine⟨Ev N na c k f l dd (h.ls.length:Nat) (.v (.int (0+(j:Nat)))) .e .e,g',λi S p A=>xk (m:=fN _) (n:=b5 bS) (t:=aU (ae nS (I 8) (af (.int 0)))) (τ:=Ev N na c k f l dd (h.ls.length:Nat) (.v (.int (0+(j:Nat)))) .e .e) (λi S p A=>.of (fR (p:=(h.ls.length:Int) > 0) (by omega))) (AH [.v (.int x)] y λi S p A=>?_) i S p A,b+1,_,rfl,by omega,G.trans E⟩;exact bT (cL (x:=.v (.int (l+(0+(j:Nat))))) (by rw[<-z];exact wR (by omega)) (cL rfl (.of rfl) (.of rfl)) (.of rfl)) cI
   .exact⟨Ev N na c k f l dd (h.ls.length:Nat) (.v (.int (0+(j:Nat)))) .e .e,g,λi S p A=>uv (m:=fN _) (n:=b5 bS) (t:=aU (ae nS (I 8) (af (.int 0)))) (τ:=Ev N na c k f l dd (h.ls.length:Nat) (.v (.int (0+(j:Nat)))) .e .e) (λi S p A=>.of (hM (p:=(h.ls.length:Int) > 0) (by omega))) (lQ λi S p A=>.of rfl) i S p A,b,_,rfl,by omega,G⟩)
 rw[mP]at r;exact⟨g,afp (xk (λi S p A=>.of (by simp[B])) (g4 (afo (ds:=ec 0 n) (λi S p A=>.of (by simp[F,K])) e) (lQ λi S p A=>.of rfl))),b,by omega,G⟩
def Vo(y:c9):∃hZ:Str,aG (.v y.D) (.v (.int 0))=pure (.v (.str hZ))/\al5 hZ=true/\(R.v y.D).ka=false:=by
 cases y with
 |put a n=>exact⟨"put",by simp[c9.D],by decide +kernel,rfl⟩| add a n=>exact⟨"add",by simp[c9.D],by decide +kernel,rfl⟩| swap a o n=>exact⟨"swap",by simp[c9.D],by decide +kernel,rfl⟩| take g=>exact⟨"take",by simp[c9.D],by decide +kernel,rfl⟩| renew g=>exact⟨"renew",by simp[c9.D],by decide +kernel,rfl⟩| free g=>exact⟨"free",by simp[c9.D],by decide +kernel,rfl⟩| sure g a n=>exact⟨"sure",by simp[c9.D],by decide +kernel,rfl⟩| move z=>exact⟨"move",by simp[c9.D],by decide +kernel,rfl⟩| fin=>exact⟨"end",by simp[c9.D],by decide +kernel,rfl⟩
def Vc{h:cv}(n:h.as[dd]? = some A)(N:List D)(na c k a b st:Int)(l:sM W x)(d f:Slot) :
  ∃m,sM W m/\eW h (b5 (b7 (g6 (aU (ae i1 (I 10) (af (.aH)))) (g6 (aU (ae oEq (ae aG (I 10) (af (.int 0))) (af (.str "move")))) (aU (ae nS (ae aG (cP "House" "place" tJ (I 0) (aa (I 7) ai)) (af (.int 0))) (af (.int 6)))))) (b8 10 (af (.aH))) bS)) (Ev N na c k a b (dd:Nat) st d (.v (eU x)) f) (mH (Ev N na c k a b (dd:Nat) st d (.v (eU m)) f)) h:=by
 cases x with
 |none=>exact⟨none,l,kZ λi S p B=>.of rfl⟩|some y=>
  obtain⟨hZ,av,en,_⟩:=Vo y;have bq:=jo en (show al5 "move"=true by decide +kernel);have nn:∀{i S},aF S (aU (ae i1 (I 10) (af .aH)) (.v (.ref i)::Ev N na c k a b (dd:Nat) st d (.v (eU (some y))) f)) true:=.of (by cases y<;>rfl);have g:∀{i S},aF S (aU (ae oEq (ae aG (I 10) (af (.int 0))) (af (.str "move"))) (.v (.ref i)::Ev N na c k a b (dd:Nat) st d (.v (eU (some y))) f)) (hZ == "move"):=cH (cL bq (cL (x:=.v y.D) av (.of rfl) (.of rfl)) (.of rfl));have j:∀{i S p},dF S i p h->aF S (aU (ae nS (ae aG (cP "House" "place" tJ (I 0) (aa (I 7) ai)) (af (.int 0))) (af (.int 6))) (.v (.ref i)::Ev N na c k a b (dd:Nat) st d (.v (eU (some y))) f)) (decide (A.cm > 6)):=λB=>cH (cL (x:=.v (.int A.cm)) rfl (cL (x:=.v (.t [.int A.cm,A.h,A.op])) rfl (f5 B.a8 (.of rfl) rfl (bT (x:=.v (.int dd)) (.of rfl) cI) (Nk B n)) (.of rfl)) (.of rfl))
  cases o:(hZ == "move")with
  |false=>rw[o]at g;exact⟨some y,l,kZ λi S p B=>qi (jd nn (oR g)) (.of rfl)⟩|true=>
   rw[o]at g
   cases C:decide (A.cm > 6)with
   |false=>rw[C]at j;exact⟨some y,l,kZ λi S p B=>qi (jd nn (jd g (j B))) (.of rfl)⟩| true=>rw[C]at j;exact⟨none,(λy e=>by cases e),kZ λi S p B=>qj (jd nn (jd g (j B))) (.of rfl)⟩
def Ew{W:List (List Nat)}(D:W.length<63){na:Nat}(r:na<=6){w:Nat->List (Option c9)}{h:cv}{n:Nat}(J:ll W na w h n)(E:n<=58){dd:Nat}{A:bG}(c:h.as[dd]? = some A)(hs:A.bP="calm")(l:A.bK=false){x:Option c9}(g:sM W x) :
  ∃t h' R,h.Do mA [.int dd,eU x] (.fr R) h'/\ll W na t h' (n+1)/\h.ls.length<=h'.ls.length/\h'.ls.length<=200*n+6/\h'.rs.length<=40*n+1/\R.length<=6/\R=ec h.ls.length R.length:=by
 have H:=J.ok;have lR:=J.lR;have hl:=J.ls;have F:=J.rs;have nQ:=J.nQ;have K:dd<na:=(H.as dd A c).lt;have j:dd<6:=by omega
 have i:∀(k:Nat)(d:Option c9)(y:c9),d∈addW w dd x k->d=some y->l4 hB W y:=λk d y b e=>by
  unfold addW at b
  by_cases q:k=dd
  .rw[if_pos q]at b
   rcases amy.mp b with z|z
   .exact J.ds dd d y z e
   .rw[amb.mp z]at e
    exact(g y e).1
  .rw[if_neg q]at b
   exact J.ds k d y b e
 have I:=R0 (w:=w) j x;have m:(jF W na (addW w dd x)).Ok:=ta D r (by omega) i;have H':=ff.mono (VZ (W:=W) (na:=na) (R2 w dd x)) H;have hd:x=none\/nO [eU x]=pure (.v (.ax true)):=by
  cases x with
  |none=>exact .inl rfl|some y=>exact .inr (ZA (g y rfl).2)
 have hw:(jF W na (addW w dd x)).nc dd (A.wi+1) x:=by
  rw[lR dd A c];exact R1 j x
 obtain⟨Y,h',e,G,f,s,L,u,p⟩:=Y1 m H' c hs l hd hw (by omega) (by omega);refine⟨addW w dd x,h',_,e,⟨G,λk B a=>?_,by omega,i,by rw[f,alN];omega,by omega⟩,by rw[f,alN];omega,by rw[f,alN];omega,by omega,by rw[mP];exact s,by rw[mP]⟩;rw[u]at a;unfold addW
 by_cases q:k=dd
 .subst q
  rw[al9 (alK.mp c).1]at a;injection a with a
  rw[if_pos rfl,<-a,alN];have:=lR k A c;show A.wi+1=_;rw[this];rfl
 .rw[alU (λz=>q z.symm)]at a
  rw[if_neg q];exact lR k B a
def Va(N:fh a)(M:fh b)(hd:fh d)(D:na<=6)(J:ll [a,b,d] na w h n)(K:n<=58)(z:dd<na)(c k g f st:Int) :
  ∃y h' l,(∀{C c'},eW h' IQ (Ev [.str (a7 a),.str (a7 b),.str (a7 d)] na c k g f (dd:Nat) st .e l .e) C c'->eW h IP (Ev [.str (a7 a),.str (a7 b),.str (a7 d)] na c k g f (dd:Nat) st .e .e .e) C c')/\ll [a,b,d] na y h' (n+1)/\h.ls.length<=h'.ls.length/\h'.ls.length<=200*n+6/\h'.rs.length<=40*n+1:=by
 have hl:=J.ls;have Z:=J.rs;have U:=J.nQ;have O:(jF [a,b,d] na w).Ok:=ta (by simp) D (by omega) J.ds;obtain⟨A,s,V⟩:=J.ok.asker z;have m:∀{l},l6 h (aU (ae dX (cP "House" "stand" wu (I 0) (aa (I 7) ai)) (af (.str "calm")))) (Ev [.str (a7 a),.str (a7 b),.str (a7 d)] na c k g f (dd:Nat) st .e l .e) (λ_=>!(A.bP == "calm")):=λi S p B=>cH (cL (yF V.bP) (f5 B.a8 (.of rfl) rfl (bT (x:=.v (.int dd)) (.of rfl) cI) (Nl B s)) (.of rfl))
 have eF:∀{l},l6 h (ef (aU (cP "House" "knows_over" wt (I 0) (aa (I 7) ai)))) (Ev [.str (a7 a),.str (a7 b),.str (a7 d)] na c k g f (dd:Nat) st .e l .e) (λ_=>!A.bK):=λi S p B=>je (cH (f5 B.a8 (.of rfl) rfl (bT (x:=.v (.int dd)) (.of rfl) cI) (Nj B s)))
 by_cases hs:A.bP="calm"
 .rw[hs,beq_self_eq_true]at m
  cases o:A.bK with
  |true=>
   rw[o]at eF;exact⟨w,h,.e,λq=>g4 (uv m (uv eF (kZ λi S p B=>.of rfl))) q,⟨J.ok,J.lR,by omega,J.ds,by omega,by omega⟩,alQ _,by omega,by omega⟩
  |false=>
   rw[o]at eF;obtain⟨x,ex,t⟩:=aaq N M hd f c;obtain⟨H,u,T⟩:=Vc (W:=[a,b,d]) s [.str (a7 a),.str (a7 b),.str (a7 d)] na c k g f st t .e .e;obtain⟨y,h',R,P,Q,j,F,L,_⟩:=Ew (by simp) D J K s hs o u;exact⟨y,h',.v (eU H),λq=>g4 (uv m (xk eF (g4 (τ':=Ev [.str (a7 a),.str (a7 b),.str (a7 d)] na c k g f (dd:Nat) st .e (.v (eU x)) .e) (kZ λi S p B=>i0 (r:=.v (eU x)) (eJ (rs:=[.b4 [.str (a7 a),.str (a7 b),.str (a7 d)],.v (.int f),.v (.int c)]) (.of rfl) (.of ex)) rfl) (g4 T (AH [.v (.int dd),.v (eU H)] P λi S p B=>.of rfl))))) q,Q,j,F,L⟩
 .rw[show(A.bP == "calm")=false by rw[beq_eq_false_iff_ne];exact hs]at m
  obtain⟨Y,h',e,G,j,F,E,X⟩:=Y2 O J.ok z (by omega);exact⟨w,h',.e,λq=>g4 (xk m (AH [.v (.int dd)] e λi S p B=>.of rfl)) q,⟨G,Gz X J.lR,by omega,J.ds,by rw[j,alN];omega,by rw[E];omega⟩,by rw[j,alN];omega,by rw[j,alN];omega,by rw[E];omega⟩
def Vd(C:fh a)(X:fh b)(hd:fh d)(K:1<=na)(M:na<=6)(J:ll [a,b,d] na w h n)(R:n<=58)(c k:Int)(zz:0<=k)(o:k<=100) :
  ∃y h',h.Do o5 [.l [.str (a7 a),.str (a7 b),.str (a7 d)],.int na,.int c,.int k] (.v .aH) h'/\ll [a,b,d] na y h' (n+1):=by
 have hl:=J.ls;have aB:=J.rs;have hm:=J.nQ;have O:(jF [a,b,d] na w).Ok:=ta (by simp) M (by omega) J.ds;have P:(0:Int)<(na:Int):=by omega
 have V:0<na:=K;have L:na≠0:=by omega
 have zS:iJ (k+1) (k+7):=Fp (by omega) (by omega);have T:iJ (k+3) (k+5):=Fp (by omega) (by omega);have u:∀{x j:Int},-(2 ^ 64)<j->j<2 ^ 64->iJ x j:=λK Y=>.inr (.inl ⟨K,Y⟩)
 have E:∀x:Int,iJ x 48271:=λx=>u (by decide) (by decide)
 have F:∀x:Int,iJ x 16807:=λx=>u (by decide) (by decide)
 have H:∀x:Int,iJ x 69621:=λx=>u (by decide) (by decide)
 have wh:∀x:Int,iJ x 40692:=λx=>u (by decide) (by decide)
 generalize W:[D.str (a7 a),.str (a7 b),.str (a7 d)]=N;obtain⟨f,g,dd,U,pre⟩:∃(f g:Int)(dd:Nat),dd<na/\∀{z c'},eW h Cw (Ev N na c k f g (dd:Nat) (h.ls.length:Nat) .e .e .e) z c'->eW h IM [.b4 N,.v (.int na),.v (.int c),.v (.int k),.e,.e,.e,.e,.e,.e,.e] z c':=by
  refine⟨(c % 10000000000000000000000000000000000000000*48271+(k+1)*(k+7)*16807) % 2147483647,(c % 10000000000000000000000000000000000000000*69621+(k+3)*(k+5)*40692) % 2147483629,((c % 10000000000000000000000000000000000000000*48271+(k+1)*(k+7)*16807) % 2147483647 / 4 % (na:Int)).toNat,by have:=mod_lt (a:=(c % 10000000000000000000000000000000000000000*48271+(k+1)*(k+7)*16807) % 2147483647 / 4) P;omega,λ{z c'} t=>?_⟩;rw[Int.toNat_of_nonneg (mod_lt P).1]at t;refine g4 (τ':=[.b4 N,.v (.int na),.v (.int c),.v (.int k),.v (.int ((c % 10000000000000000000000000000000000000000*48271+(k+1)*(k+7)*16807) % 2147483647)),.e,.e,.e,.e,.e,.e]) (kZ λi S p B=>.of (by simp[zS,E,F])) ?_;generalize(c % 10000000000000000000000000000000000000000*48271+(k+1)*(k+7)*16807) % 2147483647=f at *;refine g4 (τ':=[.b4 N,.v (.int na),.v (.int c),.v (.int k),.v (.int f),.v (.int ((c % 10000000000000000000000000000000000000000*69621+(k+3)*(k+5)*40692) % 2147483629)),.e,.e,.e,.e,.e]) (kZ λi S p B=>.of (by simp[T,H,wh])) ?_;generalize(c % 10000000000000000000000000000000000000000*69621+(k+3)*(k+5)*40692) % 2147483629=g at *;refine g4 (τ':=[.b4 N,.v (.int na),.v (.int c),.v (.int k),.v (.int f),.v (.int g),.v (.int (f / 4 % na)),.e,.e,.e,.e]) (kZ λi S p B=>.of (by simp[V,L])) ?_;exact g4 (kZ λi S p B=>i0 (qk B rfl) rfl) t
 by_cases q:f % 4=3
 .obtain⟨h',e,eX,oH,G⟩:=Vb O J.ok (by omega) (by omega) N na c k f g (dd:Nat) q
  exact⟨w,h',UO (pre e),J.V' G (by omega)⟩
 .subst W
  obtain⟨y,h',Q,st,r,g1,bR,bC⟩:=Va C X hd M J R U c k f g (h.ls.length:Nat);have Z:(jF [a,b,d] na y).Ok:=ta (by simp) M (by have:=r.nQ;omega) r.ds;obtain⟨m,em,A⟩:∃m:Nat,f / 3072 % 27=(m:Nat)/\m<=26:=⟨(f / 3072 % 27).toNat,by have:=mod_lt (a:=f / 3072) (b:=27) (by decide);omega,by have:=mod_lt (a:=f / 3072) (b:=27) (by decide);omega⟩;have s:∃s:Int,∀i S,aF S (b7 (aU (ae oEq (ae oMod (ae eS (I 5) (af (.int 24))) (af (.int 2))) (af (.int 1)))) (b8 11 (ae oMod (ae eS (I 5) (af (.int 48))) (af (.int 64)))) bS (.v (.ref i)::Ev [.str (a7 a),.str (a7 b),.str (a7 d)] na c k f g (dd:Nat) (h.ls.length:Nat) .e Q (.v (.int 63)))) (.bu (.v (.ref i)::Ev [.str (a7 a),.str (a7 b),.str (a7 d)] na c k f g (dd:Nat) (h.ls.length:Nat) .e Q (.v (.int s)))):=by
   by_cases q:f / 24 % 2=1
   .exact⟨f / 48 % 64,λi S=>.of (by simp[q])⟩
   .exact⟨63,λi S=>.of (by simp[q])⟩
  obtain⟨s,av⟩:=s;obtain⟨tc,e,eX,oH,G⟩:=T7 Z r.ok g1 (by omega) (by omega) s A;refine⟨y,tc,LP (pre (g4 (uv (λi S p B=>.of (by simp[show(f % 4==3)=false by simpa using q])) (kZ λi S p B=>.of rfl)) (st (g4 (kZ λi S p B=>.of rfl) (g4 (kZ λi S p B=>av i S) (afn [.v (.int (h.ls.length:Nat)),.v (.int s),.v (.int m)] e λi S p B=>.of (by simp[em]))))))),G.ok,Gz G.wi r.lR,r.nQ,r.ds,by have:=G.ls;omega,by have:=G.rs;omega⟩
def Apart(i:Nat)(p:hD)(j:Nat)(q:hD):Prop:=∀x,p.has i x->q.has j x->False
def dF.keep{S b:bI}{p:hD}(H:dF S i p h)(q:∀y o,p.has i y->S[y]? = some o->b[y]? = some o):dF b i p h:=
 ⟨q _ _ (.inl rfl) H.a8,q _ _ (.inr (.inl (by simp))) H.al,q _ _ (.inr (.inl (by simp))) H.bs,q _ _ (.inr (.inl (by simp))) H.ls,q _ _ (.inr (.inl (by simp))) H.rs,H.len,λj x a ex c=>by
  have B:=H.as j x a ex c;have m:=amh ex;exact⟨q _ _ (.inr (.inr ⟨x,m,.inl rfl⟩)) B.a8,q _ _ (.inr (.inr ⟨x,m,.inr rfl⟩)) B.ls⟩,H.nl,H.t9,H.fC⟩
def hC(S:bI)(f:Nat->Option cv):Prop:=∃P:Nat->hD,(∀i h,f i=some h->dF S i (P i) h)/\∀i j,f i≠none->f j≠none->i≠j->Apart i (P i) j (P j)
def pt(f:Nat->Option cv)(i:Nat)(h:cv):Nat->Option cv:=λj=>if j=i then some h else f j
def iF:pt f i h i=some h:=if_pos rfl
def gM{f:Nat->Option cv}(n:j≠i):pt f i h j=f j:=if_neg n
def hC.lt{S:bI}{f:Nat->Option cv}(H:hC S f)(e:f i=some h):i<S.length:=by
 obtain⟨P,a,_⟩:=H;exact kS (a i h e).a8
def hC.put{S n:bI}{f:Nat->Option cv}{P:Nat->hD}(r:∀i h,f i=some h->dF S i (P i) h)(s:∀i j,f i≠none->f j≠none->i≠j->Apart i (P i) j (P j)){i:Nat}{p:hD}{h:cv}(at':dF n i p h)
  (fr:∀j g,f j=some g->j≠i->∀y o,(P j).has j y->S[y]? = some o->n[y]? = some o) (q:∀j,f j≠none->j≠i->Apart i p j (P j)):hC n (pt f i h):=by
 refine⟨λj=>if j=i then p else P j,λj g e=>?_,λj k m l ne=>?_⟩<;>dsimp only
 .by_cases c:j=i
  .subst c
   rw[iF]at e;cases e;rw[if_pos rfl];exact at'
  .rw[gM c]at e
   rw[if_neg c];exact(r j g e).keep (fr j g e c)
 .by_cases c:j=i
  .subst c
   rw[if_pos rfl,if_neg (anH ne)];rw[gM (anH ne)]at l;exact q k l (anH ne)
  .rw[gM c]at m
   rw[if_neg c]
   by_cases d:k=i
   .subst d
    rw[if_pos rfl];exact λx a b=>q j m c x b a
   .rw[gM d]at l
    rw[if_neg d];exact s j k m l ne
def hC.step{S:bI}{f:Nat->Option cv}(H:hC S f)(e:f i=some h){mf:dV}{r:R}(d:h.Do mf ds r h'):∃c,bQ S (mf (.ref i::ds)) r c/\hC c (pt f i h'):=by
 obtain⟨P,l,m⟩:=H;obtain⟨c,q,t,s⟩:=d S i (P i) (l i h e);refine⟨c,t,hC.put l m s.at' (λj g k ne y o p jE=>s.fr y o (λz=>m i j (by rw[e];intro z;cases z) (by rw[k];intro z;cases z) (anH ne) y z p) jE) λj n ne x a b=>?_⟩
 cases k:f j with
 |none=>exact n k|some g=>
  rcases s.nw x a with z|z
  .exact m i j (by rw[e];intro z;cases z) n (anH ne) x z b
  .have:=(l j g k).lt b
   omega
def hC.new{S:bI}{f:Nat->Option cv}(H:hC S f){n:Nat}(m:1<=n)(r:n<=6){c:D}(cD:b0 c=.v c)(q:o3 [c]=pure (.v (.ax true))) :
  ∃d,bQ (S++[.a8 "House" []]) (rY [.ref S.length,c,.int n]) (.v .aH) d/\hC d (pt f S.length (kf n c)):=by
 obtain⟨P,h,l⟩:=H;obtain⟨d,p,t,A,fr,le,k⟩:=Y3 S m r cD q;refine⟨d,t,hC.put h l A (λj g e ne y o s jE=>fr y o amw jE) λj i ne x a b=>?_⟩
 cases e:f j with
 |none=>exact i e|some g=>
  have:=(h j g e).lt b;have:=k x a;omega
def hC.at'{S:bI}{f:Nat->Option cv}(H:hC S f)(e:f i=some h):∃p,dF S i p h:=by
 obtain⟨P,a,_⟩:=H;exact⟨_,a i h e⟩
theorem Gk(m:fh a)(g:fh b)(hd:fh d)(i:1<=na)(n:na<=6)(c k:Nat->Int)(e:∀j,j<=20->0<=k j/\k j<=100)(J:ll [a,b,d] na w h 1) :
  ∀z,z<=20->∃hs:Nat->cv,hs 0=h/\(∀j,j<z->(hs j).Do o5 [.l [.str (a7 a),.str (a7 b),.str (a7 d)],.int na,.int (c j),.int (k j)] (.v .aH) (hs (j+1)))/\∃p,ll [a,b,d] na p (hs z) (1+z)
 |0,_=>⟨λ_=>h,rfl,λj f=>absurd f (am5 _),w,J⟩
 |z+1,hz=>by
  obtain⟨hs,t,u,p,x⟩:=Gk m g hd i n c k e J z (by omega);obtain⟨y,r,aE,s⟩:=Vd m g hd i n x (by omega) (c z) (k z) (e z (by omega)).1 (e z (by omega)).2;refine⟨λj=>if j<=z then hs j else r,by dsimp only;rw[if_pos (amt _)];exact t,λj f=>?_,y,by dsimp only;rw[if_neg (by omega)];exact s⟩;dsimp only;rw[if_pos (show j<=z by omega)]
  by_cases q:j=z
  .subst q
   rw[if_neg (show ¬j+1<=j by omega)];exact aE
  .rw[if_pos (show j+1<=z by omega)]
   exact u j (by omega)
end dI
namespace dI
open PySem PySem.Spec aA aC
def CN(ns:List Int)(k:Nat):nP [.l (ns.map D.int),.int (k:Nat)]=pure (.v (.int (ns.getD k 0))):=by
 simp only[nP,IK,IL]
 by_cases h:k<ns.length
 .simp[h,Sg h]
 .simp[h]
def Hw:∀(n:Nat)(d:D),Ok n d->jQ (n+1) [d,d]=pure (.v (.ax true)):=by
 have seq:∀(n:Nat)(xs:List D)(s:Slot),(∀x∈xs,jQ n [x,x]=pure (.v (.ax true)))->xs.length<=1000->(s=.v (.t xs)\/s=.b4 xs)->Cu (jQ n) [s,s,.e]=pure (.cp (.v (.ax true))):=λn xs s h hl hs=>by
  have g:∀j,j<2->∀s2,∃r,I j [s,s,s2]=pure r/\gW [r]=pure (.v (.int (xs.length:Nat)))/\∀(i:Nat)(hi:i<xs.length),aG r (.v (.int i))=pure (.v xs[i]):=λj q s2=>by
   have u:xs.length<=alP:=by rw[ama];omega
   rcases hs with rfl|rfl
   .exact⟨.v (.t xs),by match j,q with|0,_=>rfl|1,_=>rfl,by simp[u],λi hi=>by simp[B7 hi]⟩
   .exact⟨.b4 xs,by match j,q with|0,_=>rfl|1,_=>rfl,by simp[u],λi hi=>by simp[B7 hi]⟩
  obtain⟨U',e,s2,rfl⟩:=vB (b:=λx U=>EP (jQ n) (U.set 2 (.v x))) (ds:=ec 0 xs.length) (U:=[s,s,.e])
   (λi U=>∃s2,U=[s,s,s2]) ⟨_,rfl⟩ (λi x U c ⟨s2,E⟩=>by
    subst E;obtain⟨hi,rfl⟩:=AI c;obtain⟨y,f,_,M⟩:=g 0 (by decide) (.v (.int (0+(i:Nat))));obtain⟨H,a1,_,G⟩:=g 1 (by decide) (.v (.int (0+(i:Nat))));have w:(0:Int)+(i:Nat)=(i:Nat):=by omega
    rw[w]at f a1;refine⟨_,.inl (?_:_=pure (fG.bu [s,s,.v (.int (i:Nat))])),_,rfl⟩;show EP (jQ n) [s,s,.v (.int (0+(i:Nat)))]=_;rw[w];exact oN (Ai (iR (call_of (cons_of (fj (M i hi) f rfl) (cons_of (fj (G i hi) a1 rfl) rfl)) (h _ (anK hi))))))
  obtain⟨y,f,N,_⟩:=g 0 (by decide) .e;obtain⟨H,a1,bf,_⟩:=g 1 (by decide) .e;have k:-4611686018427387904<=(xs.length:Int)/\(xs.length:Int)<4611686018427387904:=by omega
  refine(?_:Cu (jQ n) [s,s,.e]=IJ (jQ n) [s,s,.e]).trans (fD ((iR (fj (r:=pure (.v (.ax false))) ?_ (nk N (cons_of f rfl)) (nk bf (cons_of a1 rfl)))).trans rfl) (cR (Mp (ds:=ec 0 xs.length) ?_ e) rfl))
  .rcases hs with rfl|rfl<;>rfl
  .simp
  .show(aa _ _ _ >>= _)=_
   rw[cons_of (nk bf (cons_of a1 rfl)) rfl];simp[k]
 have p:∀(F:bj)(d:D)(n:Nat),Ok n d->(∀xs,d≠.t xs)->(∀xs,d≠.l xs)->fnOf 2 3 (Ct F) [d,d]=pure (.v (.ax true)):=λF d n h K L=>by
  cases d with
  |aH=>rfl|ax b=>cases b<;>rfl
  |int i=>exact h5 rfl (fD rfl (fD rfl (st rfl (jl ((and_1 rfl).trans ((and_1 rfl).trans (by simp)))))))| str x=>exact h5 rfl (fD rfl (fD rfl (fD rfl (st rfl (jl ((and_1 rfl).trans (by simp[eq_str h.1])))))))|t xs=>exact absurd rfl (K xs)|l xs=>exact absurd rfl (L xs)| ref _=>exact absurd h.1 (by intro z;cases z)| fn _=>exact absurd h.1 (by intro z;cases z)| ty _=>exact absurd h.1 (by intro z;cases z)
 intro n
 induction n with
 |zero=>
  intro d h;exact p _ d 0 h (λxs e=>absurd h.1 (by rw[e];intro z;cases z)) (λxs e=>absurd h.1 (by rw[e];intro z;cases z))
 |succ n A=>
  intro d h;have a:∀xs:List D,hg xs n=true->(decide (xs.length<=1000)&&lW xs)=true->(∀x∈xs,jQ (n+1) [x,x]=pure (.v (.ax true)))/\xs.length<=1000:=λxs B m=>by
   rw[amc]at m;exact⟨λx c=>A x ⟨kG.mp B x c,uR.mp m.2 x c⟩,of_decide_eq_true m.1⟩
  cases d with
  |t xs=>
   obtain⟨p1,cj⟩:=a xs h.1 h.2;exact h5 rfl (fD rfl (fD rfl (fD rfl (fD rfl (seq (n+1) xs _ p1 cj (.inl rfl))))))
  |l xs=>
   obtain⟨p1,cj⟩:=a xs h.1 h.2;exact h5 rfl (fD rfl (fD rfl (fD rfl (fD rfl (seq (n+1) xs _ p1 cj (.inr rfl))))))
  |_=>exact p _ _ _ h (λ_ e=>by cases e) (λ_ e=>by cases e)
end dI
namespace dI
open PySem PySem.Spec aA aC iN fX i7
section
variable{S S1 aY:bI}{U:aK}
def ZW{ms:c0}{ds:List D}(h:aF S (ms U) rs)(e:kz rs=pure ds)(z:ds.length<=1000):aF S (dW ms U) (.fr ds):=h.bind ((aF.of e).bind ((EC z).bind (.of rfl)))
def aif{ms:hG}{ds:List D}(h:bQ S (ms U) rs S1)(e:kz rs=pure ds)(z:ds.length<=1000):bQ S (Bi ms U) (.fr ds) S1:=h.bind ((aF.of e).to.bind (by rw[if_pos z];rfl))
def Rb{m:eD}{ms:hG}{x:R}(h:bQ S (m U) x S1)(a:bQ S1 (ms U) xs aY)(hs:x.hu=true):bQ S (xN m ms U) (x::xs) aY:=h.bind (a.bind (by rw[if_pos hs];rfl))
def JW{i:Nat}{p:hD}{h:cv}(A:dF S i p h){m:Str}{mf:bj}{it:fH}{n:Nat}{xs:List D}(f:xs.length=n)(g:n<=6)(hi:aF S (it U) (ec 0 n))(e:∀(k:Nat) d,xs[k]? = some d->aF S (mf [.ref i,.int (k:Nat)]) (.v d))(b:hL 1 [0] U=[.e,.v (.ref i)])(c:p.aS.lookup m=none) :
  aF S (eA 1 [0] it eM (cP "House" m mf (I 1) (aa (I 0) ai)) U) (.fr xs):=by
 have ex:xs=(ame n).map λk=>xs.getD k .aH:=by
  refine List.ext_getElem? λi=>?_
  rw[al4]
  by_cases hi:i<n
  .rw[anp hi,al1 (by omega:i<xs.length)]
   show _=some (xs.getD i .aH);rw[amC,al1 (by omega:i<xs.length)];rfl
  .rw[aot (by omega),aot (by rw[amZ];omega)]
   rfl
 refine ED (ds:=ec 0 n) hi (by rw[mP,ama];omega) ?_;rw[b,Gb]
 conv=>rhs;rw[ex]
 refine zC ba (λk=>xs.getD k .aH) (ame n) λk a=>?_
 have a:=amz.mp a;exact f5 A.a8 (.of rfl) c (bT (x:=.v (.int k)) (.of rfl) cI) (e k _ (by
  rw[amC,al1 (by omega:k<xs.length)];rfl))
def Y4{i k:Nat}{p:hD}{h:cv}{a:bG}(H:dF S i p h)(e:h.as[k]? = some a):aF S (E' [.ref i,.int k]) (.v a.cS):=by
 obtain⟨x,ex,A⟩:=H.ex e;exact jO rfl (iD (f5 A.a8 (ts H ex rfl rfl) rfl cI (Pp A)))
end
def nL(h:cv):List D:=[.l h.ls,.l (h.as.map λa=>.t [.int a.cm,a.h,a.op]),.l h.bs,.l (h.as.map (·.cS)++h.as.map λa=>.ax a.bK),.l (h.as.map λa=>.str a.bP),.l h.rs,.int (h.ls.length:Nat)]
def zP{S:bI}{h:cv}(A:dF S i p h)(j:h.as.length=na)(n:na<=6)(g:h.bs.length=6):aF S (tT [.ref i,.int na]) (.fr (nL h)):=by
 have c:∀(f:bG->D){m:Str}{mf:bj}(τ:aK),(∀(k:Nat) a,h.as[k]? = some a->aF S (mf [.ref i,.int (k:Nat)]) (.v (f a)))->p.aS.lookup m=none->aF S (eA 1 [0] (gY (aa (I 1) ai)) eM (cP "House" m mf (I 1) (aa (I 0) ai)) (.v (.ref i)::.v (.int na)::τ)) (.fr (h.as.map f)):=λf {m mf} τ e l=>
  JW A (by rw[alM];exact j) n (.of (by
   have:-4611686018427387904<=(na:Int)/\(na:Int)<4611686018427387904:=by omega
   simp[this])) (λk d b=>by
    rw[al4]at b
    cases q:h.as[k]? with
    |none=>rw[q]at b;cases b
    |some a=>rw[q]at b;cases b;exact e k a q) rfl l
 refine EE rfl (ql (i0 (c (λa=>.t [.int a.cm,a.h,a.op]) _ (λk a e=>Nk A e) rfl) rfl) (ql (i0 (JW A g (by decide) (.of rfl) (λk d e=>TN A e) rfl rfl) rfl) (ql (i0 (r:=.fr (h.as.map (·.cS)++h.as.map λa=>.ax a.bK)) (cL (CM (by rw[alM,alM,ama];omega)) (c (·.cS) _ (λk a e=>Y4 A e) rfl) (c (λa=>.ax a.bK) _ (λk a e=>Nj A e) rfl)) rfl) (ql (i0 (c (λa=>.str a.bP) _ (λk a e=>Nl A e) rfl) rfl) (tu (ZW (bT (f5 A.a8 (.of rfl) rfl cI (sd A)) (bT (.of rfl) (bT (.of rfl) (bT (.of rfl) (bT (.of rfl) (bT (f5 A.a8 (.of rfl) rfl cI (D2 A)) (bT (qk A rfl) cI))))))) rfl (by simp[nL])))))))
def E3(O:Γ.Ok)(h:ju Γ L):aC.Ok 12 L:=by
 cases h with
 | @ask me k e s b c f=>exact w6 (f6 (by decide +kernel)) cQ cQ cQ (pe _ s) Pa|@tell me k e s p n d w b c f g=>
  obtain⟨bc,i,_,rfl⟩:=f;have os:=i.ok (by have:=O.w;omega) λz hz=>hz.ok
  exact w6 (f6 (by decide +kernel)) cQ cQ cQ (pe _ s) (w5 (pe _ p) cQ (Ph g) os)
 | @grant k a e s kp w b c f g o=>exact w6 (f6 (by decide +kernel)) cQ cQ cQ (pe _ s) (kg (pe _ kp) o)| @kept k a e s b c=>exact w6 (f6 (by decide +kernel)) cQ cQ cQ (pe _ s) Pa| @late k a e s p b c=>exact w6 (f6 (by decide +kernel)) cQ cQ cQ (pe _ s) (Pb (pe _ p))
def TH(h:n9 Γ b):aC.Ok 12 b:=by
 obtain⟨bk,rfl,c,a⟩:=h;have hl:=Jv c a;refine nV (n:=11) (by rw[alM];omega) λx e=>?_
 obtain⟨g,d,rfl⟩:=amd.mp e;exact w5 (n:=10) cQ (kg (n:=9) cQ cQ) (kg (n:=9) cQ cQ) (a g d).ok
def w9{xs:List D}(hl:xs.length<=1000)(h:∀x∈xs,aC.Ok n x):aC.Ok (n+1) (.l xs):=
 ⟨kG.mpr λx a=>(h x a).1,by show(decide (xs.length<=1000)&&lW xs)=true;rw[decide_eq_true hl,uR.mpr λx a=>(h x a).2];rfl⟩
def aaL(O:Γ.Ok)(H:ff Γ h):(aC.D.l (nL h)).bY 64=true:=by
 have g:∀{xs:List D},(∀x∈xs,aC.Ok 13 x)->(aC.D.l xs).bY 63=true:=λh=>kG.mpr λx b=>MA (by decide) (h x b).1
 have d:∀{f:bG->D},(∀k a,e4 Γ a k->aC.Ok 13 (f a))->∀x∈h.as.map f,aC.Ok 13 x:=λi x b=>by
  obtain⟨a,c,rfl⟩:=amd.mp b;obtain⟨k,e⟩:=aos.mp c;exact i k a (H.as k a e)
 refine kG.mpr ?_;unfold nL;simp only[ams];refine⟨g λx b=>kh (E3 O (H.ls x b)) (by decide),g (d λk a c=>?_),g λx b=>kh (TH (H.bs x b)) (by decide),g λx b=>(amy.mp b).elim (d (λk a c=>kh c.cS (by decide)) x) (d (f:=λa=>.ax a.bK) (λk a c=>ada) x),g (d λk a c=>f6 ?_),g H.rs,rfl,λ_ z=>nomatch z⟩
 .obtain⟨s,j,_,e⟩:=c.op
  rw[e];exact mJ (n:=12) cQ (kh c.hl.ok (by decide)) (kh (j.ok (by have:=O.w;omega) λz hz=>hz.ok) (by decide))
 .rcases c.bP with e|e|e<;>rw[e]<;>decide +kernel
def Oy(O:Γ.Ok)(H:ff Γ h):dX (.fr (nL h)) (.fr (nL h))=pure (.v (.ax false)):=by
 have g:=aaL O H;rw[sW (x:=.fr (nL h)) (y:=.fr (nL h)) g g];show pure (R.v (.ax (!eo (.l (nL h)) (.l (nL h)))))=_;rw[PE g];rfl
theorem G3{b:D->bX}(J:Nat->aK->bI->Prop):∀(ds:List D)(j:Nat)(U:aK)(S:bI),J j U S->(∀i d U S,ds[i]? = some d->J (j+i) U S->∃U' a,bQ S (b d U) (.bu U') a/\J (j+i+1) U' a)->∃U' a,bQ S (k6 b ds U) (.bu U') a/\J (j+ds.length) U' a
 |[],j,U,S,h,_=>⟨U,S,rfl,h⟩
 |d::ds,j,U,S,h,step=>by
  obtain⟨m,S1,n,f⟩:=step 0 d U S rfl h;obtain⟨k,c,l,g⟩:=G3 J ds (j+1) m S1 f λi e U S he hi=>by
   rw[show j+1+i=j+(i+1)by omega]at hi ⊢;exact step (i+1) e U S he hi
  exact⟨k,c,Rc n l,by rw[amk,show j+(ds.length+1)=j+1+ds.length by omega];exact g⟩
abbrev kr(L:List D)(na:Nat)(cD N:List D)(f g a e d b c:Slot):aK:=[.b4 L,.v (.int na),.v (.l cD),.v (.l N),f,g,a,e,d,b,c]
def O2(cD:hB hall)(W:List (List Nat))(na:Nat):ll W na (λ_=>[]) (kf na hall) 0 where
 ok:=acN (Γ:=jF W na λ_=>[]) (V0 W na _) cD
 lR:=λk A e=>by
  obtain⟨i,_,rfl⟩:=amd.mp (amh e);rfl
 nQ:=alQ _
 ds:=λk d x a=>by cases a
 ls:=alQ _
 rs:=alQ _
def L'{b:bX}{N:List D}{na:Nat}(m:Slot->aK){i z:Nat}{hs:Nat->cv}{c k:Nat->Int}(hd:∀j,j<z->(hs j).Do o5 [.l N,.int na,.int (c j),.int (k j)] (.v .aH) (hs (j+1)))
  (y:∀(j:Nat) S h n,j<z->bQ S (o5 [.ref i,.l N,.int na,.int (c j),.int (k j)]) (.v .aH) h->bQ S (b ((m n).set 8 (.v (.int (3+(j:Nat)))))) (.bu (m (.v (.int (3+(j:Nat)))))) h)
  {S:bI}{f:Nat->Option cv}(H:hC S f) (e:f i=some (hs 0)) (n:Slot):∃p h a,bQ S (k6 (λd U=>b (U.set 8 (.v d))) (ec 3 z) (m n)) (.bu (m p)) h/\hC h a/\a i=some (hs z)/\∀j,j≠i->a j=f j:=by
 obtain⟨U',h,t,p,a,rfl,H',r,E⟩:=G3 (b:=λd U=>b (U.set 8 (.v d))) (λj U T=>∃p a,U=m p/\hC T a/\a i=some (hs j)/\∀l,l≠i->a l=f l) (ec 3 z) 0 (m n) S ⟨n,f,rfl,H,e,λ_ _=>rfl⟩ (λj d U T A ⟨s,g,B,G,u,x⟩=>by
  subst B;obtain⟨q,rfl⟩:=AI A;rw[an3]at u ⊢;obtain⟨w,t,F⟩:=G.step u (hd j q);exact⟨_,w,y j T w s q t,_,_,rfl,F,iF,λl hl=>(gM hl).trans (x l hl)⟩)
 rw[an3,mP]at r;exact⟨p,h,a,t,H',r,E⟩
def rP(j:Nat):Int:=((3+j+(3+j) % 2:Nat):Int)
def rQ(j:Nat):Int:=((3+j+(1-(3+j) % 2):Nat):Int)
def par(j:Nat):((3+(j:Nat):Int) % 2=0/\rP j=3+(j:Nat)/\rQ j=3+(j:Nat)+1)\/((3+(j:Nat):Int) % 2=1/\rP j=3+(j:Nat)+1/\rQ j=3+(j:Nat)):=by
 unfold rP rQ;omega
def J0(xs:List D):(cutD xs (some (-3)) none).length<=3:=by
 unfold cutD;rw[amV,amL];unfold c4.cu;simp;omega
def zE{S:bI}{a:bt}{lo hi:lp}{l h:Option Int}(e:aF S (a U) (.fr xs))(av:lo U=pure l)(aE:hi U=pure h):aF S (oi a lo hi U) (.fr (cutD xs l h)):=e.bind ((aF.of av).bind ((aF.of aE).bind (.of rfl)))
def aau(ns:List Int)(az:ns.length<=63):∃aq,(Fe [.l (ns.map D.int)]).run []=.ok (.v (.ax true)) aq:=by
 have ra:nP [.l (ns.map D.int),.int 0]=pure (.v (.int (ns.getD 0 0))):=CN ns 0;have bf:nP [.l (ns.map D.int),.int 1]=pure (.v (.int (ns.getD 1 0))):=CN ns 1;have ae:nP [.l (ns.map D.int),.int 2]=pure (.v (.int (ns.getD 2 0))):=CN ns 2;generalize ns.getD 0 0=x0 at ra;generalize ns.getD 1 0=jr at bf;generalize ns.getD 2 0=lX at ae;obtain⟨na,nt,H,ke⟩:∃na:Nat,1+x0 % 3=(na:Nat)/\1<=na/\na<=3:=⟨(1+x0 % 3).toNat,by have:=mod_lt (a:=x0) (b:=3) (by decide);omega,by have:=mod_lt (a:=x0) (b:=3) (by decide);omega,by have:=mod_lt (a:=x0) (b:=3) (by decide);omega⟩;have p:na<=6:=by omega
 obtain⟨hq,xd,UZ,FI⟩:=EY (jr % 1000000000);obtain⟨p1,bq,U0,FJ⟩:=EY (lX % 1000000000);obtain⟨a,b,d,em,C,OU,OV⟩:=aat (x0 % 100000000000000000000);have Qr:b0 (iB hq xd)=.v (iB hq xd):=rfl;have Qs:b0 (iB p1 bq)=.v (iB p1 bq):=rfl;have Hg:=O2 (DG FI.ga FI.kH) [a,b,d] na;have bg:=O2 (DG FJ.ga FJ.kH) [a,b,d] na;have zu:=FI.is;have eR:=FJ.is;generalize iB hq xd=A at *;generalize iB p1 bq=B at *;obtain⟨M,UT,aiW,aiX,aiV⟩:∃M:Int,(if(15:Int)<(ns.length:Nat)then(15:Int)else(ns.length:Nat))=M/\M<=15/\M<=(ns.length:Nat)/\0<=M:=by
  by_cases q:(15:Int)<(ns.length:Nat)
  .rw[if_pos q];exact⟨_,rfl,by omega,by omega,by omega⟩
  .rw[if_neg q];exact⟨_,rfl,by omega,by omega,by omega⟩
 obtain⟨z,vy,alG⟩:∃z:Nat,(M-3).toNat=z/\z<=12:=⟨_,rfl,by omega⟩;have ha:∀j:Nat,j<z->d1 (ns.map D.int) (3+(j:Nat))=some (.int (ns.getD (3+j) 0)):=λj a'=>by
  have hl:3+j<ns.length:=by omega
  have:=B7 (xs:=ns.map D.int) (k:=3+j) (by rw[alM];exact hl);rw[show(3:Int)+(j:Nat)=((3+j:Nat):Int)by omega,this,List.getElem_map,amC,al1 hl];rfl
 obtain⟨X,L0,akO⟩:=Hg.ok.asker (k:=0) H;obtain⟨Y,Dc,rH⟩:=bg.ok.asker (k:=na-1) (by show na-1<na;omega);have JG:X.bP="calm"/\X.bK=false:=by obtain⟨i,_,rfl⟩:=amd.mp (amh L0);exact⟨rfl,rfl⟩
 have JH:Y.bP="calm"/\Y.bK=false:=by obtain⟨i,_,rfl⟩:=amd.mp (amh Dc);exact⟨rfl,rfl⟩
 obtain⟨uP,o0,g,hH,RK,_,_,_,aln,aft⟩:=Ew (by simp) p Hg (by omega) L0 JG.1 JG.2 (x:=none) λy e=>by cases e
 obtain⟨n3,ua,RQ,V,RL,_⟩:=Ew (by simp) p bg (by omega) Dc JH.1 JH.2 (x:=some (.put a 5)) λy e=>by cases e;exact⟨⟨C.hZ,by simp⟩,C.nb,AA (by decide) (by decide)⟩
 obtain⟨hs,Np,Eg,k3,E⟩:=Gk C OU OV H p (λj=>ns.getD (3+j) 0) rP (λj a'=>by unfold rP;omega) RK z (by omega);obtain⟨bM,MI,DL,sq,F⟩:=Gk C OU OV H p (λj=>ns.getD (3+j) 0) rQ (λj a'=>by unfold rQ;omega) RL z (by omega);have Hn:(jF [a,b,d] na k3).Ok:=ta (by simp) p (by have:=E.nQ;omega) E.ds;have aD:(jF [a,b,d] na sq).Ok:=ta (by simp) p (by have:=F.nQ;omega) F.ds;have hH:(kf na A).Do mA [.int 0,.aH] (.fr g) o0:=hH;have V:(kf na B).Do mA [.int ((na-1:Nat):Int),.t [.str "put",.str (a7 a),.int 5]] (.fr RQ) ua:=V;have acT:((na-1:Nat):Int)=(na:Int)-1:=by omega
 rw[acT]at V;have mW:ns.length<=alP:=anr (fU (by omega));have hV:-4611686018427387904<=M/\M<4611686018427387904:=by omega
 have se:∀{cD N:List D}{s4 s5 gq nZ R iG jm:Slot}{S:bI},aF S (tl (aa (af (.int 3)) (aa (cA yU (aa (cA gW (aa (I 0) ai)) (aa (af (.int 15)) ai))) ai)) (kr (ns.map D.int) na cD N s4 s5 gq nZ R iG jm)) (ec 3 z):=.of (by simp[mW,hV,vy,UT]);generalize ns.map D.int=L at *;have lJ:aG (.v (.l [D.str (a7 a),.str (a7 b),.str (a7 d)])) (.v (.int 0))=pure (.v (.str (a7 a))):=rfl;generalize LZ:[D.str (a7 a),.str (a7 b),.str (a7 d)]=N at *;obtain⟨S1,t1,J⟩:=hC.new (S:=[]) (f:=λ_=>none) ⟨λ_=>⟨0,0,0,0,[]⟩,λ_ _ e=>by(cases e),λ_ _ e=>absurd rfl e⟩ H p Qr zu;have J:hC S1 (pt (λ_=>none) 0 (kf na A)):=J;have bR:=J.lt iF;obtain⟨aY,ep,aI⟩:=J.new H p Qs eR;generalize fS:S1.length=j at *;have f2:pt (pt (λ_=>none) 0 (kf na A)) j (kf na B) 0=some (kf na A):=(gM (by omega)).trans iF;obtain⟨cN,t3,cZ⟩:=aI.step f2 hH;obtain⟨pX,xy,h1⟩:=cZ.step (i:=j) ((gM (by omega)).trans iF) V;obtain⟨cj,Z⟩:=aI.at' f2;have rc:=sd Z;have hi:=D2 Z;obtain⟨Av,Ro⟩:=cZ.at' (i:=j) ((gM (by omega)).trans iF);obtain⟨alH,q3,GA,R,gi,rfl,iq,LX,C9⟩:=G3 (b:=λd U=>Oc (U.set 8 (.v d))) (λl U T=>∃R f,U=kr L na [A,B] N (.v (.ref 0)) (.v (.ref j)) (.v (.l [.l [],.l [],.l g])) (.v (.l [.l [],.l [],.l g])) R .e .e/\hC T f/\f 0=some (hs l)/\f j=some (bM l)) (ec 3 z) 0 (kr L na [A,B] N (.v (.ref 0)) (.v (.ref j)) (.v (.l [.l [],.l [],.l g])) (.v (.l [.l [],.l [],.l g])) .e .e .e) pX
  ⟨_,_,rfl,h1,(gM (by omega)).trans (by rw[Np];exact iF),by rw[MI];exact iF⟩ (λl x U T P ⟨s,f,ay,G,qa,DH⟩=>by
   subst ay;obtain⟨hl,rfl⟩:=AI P;rw[an3]at qa DH ⊢;have w:=ha l hl;rcases par l with⟨pr,o,u⟩|⟨pr,o,u⟩
   .obtain⟨q5,Q,lh⟩:=G.step qa (Eg l hl)
    obtain⟨u_,W,qU⟩:=lh.step (i:=j) ((gM (by omega)).trans DH) (DL l hl);rw[o]at Q;rw[u]at W;refine⟨_,u_,dO (l0 (x_call (rs:=[.v (.ref 0),.v (.l N),.v (.int na),.v (.int (ns.getD (3+l) 0)),.v (.int (3+(l:Nat)))]) (.of (by simp[w,pr])) rfl Q)) (l0 (x_call (rs:=[.v (.ref j),.v (.l N),.v (.int na),.v (.int (ns.getD (3+l) 0)),.v (.int (3+(l:Nat)+1))]) (.of (by simp[w,pr])) rfl W)),_,_,rfl,qU,(gM (by omega)).trans iF,iF⟩
   .obtain⟨q5,Q,lh⟩:=G.step DH (DL l hl)
    obtain⟨u_,W,qU⟩:=lh.step (i:=0) ((gM (by omega)).trans qa) (Eg l hl);rw[u]at Q;rw[o]at W;refine⟨_,u_,dO (l0 (x_call (rs:=[.v (.ref j),.v (.l N),.v (.int na),.v (.int (ns.getD (3+l) 0)),.v (.int (3+(l:Nat)))]) (.of (by simp[w,pr])) rfl Q)) (l0 (x_call (rs:=[.v (.ref 0),.v (.l N),.v (.int na),.v (.int (ns.getD (3+l) 0)),.v (.int (3+(l:Nat)+1))]) (.of (by simp[w,pr])) rfl W)),_,_,rfl,qU,iF,(gM (by omega)).trans iF⟩)
 rw[an3,mP]at LX C9;obtain⟨Hs,agc,x4⟩:=iq.new H p Qs eR;have aah:=iq.lt C9;generalize hb:q3.length=k at *;obtain⟨aiZ,agd,i6⟩:=x4.step (i:=k) iF V;obtain⟨alg,Rp⟩:=x4.at' (i:=k) iF;obtain⟨qF,RT,f8,age,x5,LY,NR⟩:=L' (b:=Od) (N:=N) (na:=na) (λs=>kr L na [A,B] N (.v (.ref 0)) (.v (.ref j)) (.v (.l [.l [],.l [],.l g])) (.v (.l [.l [],.l [],.l g])) s (.v (.ref k)) .e) (i:=k) (z:=z) (hs:=bM) (c:=λj=>ns.getD (3+j) 0) (k:=rQ) DL (λl S aq s hl t=>by
  have w:=ha l hl;refine l0 (x_call (rs:=[.v (.ref k),.v (.l N),.v (.int na),.v (.int (ns.getD (3+l) 0)),.v (.int (rQ l))]) (.of ?_) rfl t);rcases par l with⟨pr,o,u⟩|⟨pr,o,u⟩<;>rw[u]<;>simp[w,pr]) i6 (by rw[MI];exact iF) R
 obtain⟨ai0,agf,u3⟩:=x5.new H p Qr zu;have ak7:=x5.lt LY;have ZM:f8 0=some (hs z):=(NR 0 (by omega)).trans ((gM (by omega)).trans ((gM (by omega)).trans LX));have ZN:f8 j=some (bM z):=(NR j (by omega)).trans ((gM (by omega)).trans ((gM (by omega)).trans C9));generalize L4:RT.length=m at *;obtain⟨ai1,bV,RC⟩:=u3.step (i:=m) iF hH;obtain⟨alh,Rq⟩:=u3.at' (i:=m) iF;obtain⟨alo,RU,Dp,cJ,x7,UY,u⟩:=L' (b:=Oe) (N:=N) (na:=na) (λs=>kr L na [A,B] N (.v (.ref 0)) (.v (.ref j)) (.v (.l [.l [],.l [],.l g])) (.v (.l [.l [],.l [],.l g])) s (.v (.ref k)) (.v (.ref m))) (i:=m) (z:=z) (hs:=hs) (c:=λj=>ns.getD (3+j) 0) (k:=rP) Eg (λl S aq s hl t=>by
  have w:=ha l hl;refine l0 (x_call (rs:=[.v (.ref m),.v (.l N),.v (.int na),.v (.int (ns.getD (3+l) 0)),.v (.int (rP l))]) (.of ?_) rfl t);rcases par l with⟨pr,o,u⟩|⟨pr,o,u⟩<;>rw[o]<;>simp[w,pr]) RC (by rw[Np];exact iF) qF
 have Vh:Dp 0=some (hs z):=(u 0 (by omega)).trans ((gM (by omega)).trans ((gM (by omega)).trans ZM));have Vi:Dp j=some (bM z):=(u j (by omega)).trans ((gM (by omega)).trans ((gM (by omega)).trans ZN));have Vj:Dp k=some (bM z):=(u k (by omega)).trans ((gM (by omega)).trans ((gM (by omega)).trans LY));obtain⟨xd,K⟩:=x7.at' Vh;obtain⟨alk,BA⟩:=x7.at' Vi;obtain⟨xe,BB⟩:=x7.at' Vj;obtain⟨F6,iI⟩:=x7.at' UY;have aaE:=zP K E.ok.na p E.ok.nb;have aaI:=zP iI E.ok.na p E.ok.nb;have aaG:=zP BA F.ok.na p F.ok.nb;have aaH:=zP BB F.ok.na p F.ok.nb;have al:jQ 15 [.l [.l [],.l [],.l g],.l [.l [],.l [],.l g]]=pure (.v (.ax true)):=Hw 14 _ (w9 (n:=13) (by simp) λx P=>by
  simp only[alY,amw,or_false]at P;have ht:aC.Ok 13 (.l g):=w9 (n:=12) (by omega) λy O=>by rw[aft]at O;obtain⟨i,_,rfl⟩:=amd.mp O;exact cQ
  rcases P with rfl|rfl|rfl
  .exact w9 (n:=12) (by simp) λy O=>nomatch O
  .exact w9 (n:=12) (by simp) λy O=>nomatch O
  .exact ht)
 have alu:=J0 (hs z).ls;have Q:=J0 (bM z).ls;have R4:jQ 15 [.l (cutD (hs z).ls (some (-3)) none++cutD (bM z).ls (some (-3)) none),.l (cutD (hs z).ls (some (-3)) none++cutD (bM z).ls (some (-3)) none)]=pure (.v (.ax true)):=Hw 14 _ (w9 (n:=13) (by rw[alN];omega) λx P=>by
  rcases amy.mp P with h|h
  .exact kh (E3 Hn (E.ok.ls x (CV h))) (by decide)
  .exact kh (E3 aD (F.ok.ls x (CV h))) (by decide))
 have aaN:g.length<=alP:=by rw[ama];omega
 refine⟨RU,GZ rfl ?_⟩;refine dO (U':=[.b4 L,.v (.int na),.e,.e,.e,.e,.e,.e,.e,.e,.e]) (aF.to (.of (by simp[ra,nt]))) ?_;refine dO (U':=[.b4 L,.v (.int na),.v (.l [A,B]),.e,.e,.e,.e,.e,.e,.e,.e]) (aF.to (.of (by simp[bf,ae,UZ,U0]))) ?_;refine dO (U':=kr L na [A,B] N .e .e .e .e .e .e .e) (aF.to (.of (by simp[ra,em]))) ?_;refine dO (U':=kr L na [A,B] N (.v (.ref 0)) .e .e .e .e .e .e) (sy (xP (rs:=[.v A,.v (.int na)]) (.of rfl) rfl t1) rfl) ?_;refine dO (U':=kr L na [A,B] N (.v (.ref 0)) (.v (.ref j)) .e .e .e .e .e) (sy (r:=.v (.ref j)) (d:=.ref j) (by rw[<-fS];exact xP (rs:=[.v B,.v (.int na)]) (.of rfl) rfl (by rw[fS];exact ep)) rfl) ?_;refine dO (U':=kr L na [A,B] N (.v (.ref 0)) (.v (.ref j)) (.v (.l [.l [],.l [],.l g])) .e .e .e .e) (sy (aif (ds:=[.l [],.l [],.l g]) (Rb (aF.to (f5 Z.a8 (.of rfl) rfl cI rc)) (Rb (aF.to (f5 Z.a8 (.of rfl) rfl cI hi)) (Bn (k7 (rs:=[.v (.int 0),.v .aH]) Z.a8 (.of rfl) rfl (aF.to (.of rfl)) rfl t3)) rfl) rfl) rfl (by simp)) rfl) ?_;refine dO (U':=kr L na [A,B] N (.v (.ref 0)) (.v (.ref j)) (.v (.l [.l [],.l [],.l g])) (.v (.l [.l [],.l [],.l g])) .e .e .e) (aF.to (.of (by simp[aaN]))) ?_;refine dO (U':=kr L na [A,B] N (.v (.ref 0)) (.v (.ref j)) (.v (.l [.l [],.l [],.l g])) (.v (.l [.l [],.l [],.l g])) .e .e .e) (l0 (k7 (rs:=[.v (.int ((na:Int)-1)),.v (.t [.str "put",.str (a7 a),.int 5])]) Ro.a8 (.of rfl) rfl (aF.to (.of (by simp[lJ]))) rfl xy)) ?_;refine dO (Bl se GA) ?_;refine dO (U':=kr L na [A,B] N (.v (.ref 0)) (.v (.ref j)) (.v (.l [.l [],.l [],.l g])) (.v (.l [.l [],.l [],.l g])) R (.v (.ref k)) .e) (sy (r:=.v (.ref k)) (d:=.ref k) (by rw[<-hb];exact xP (rs:=[.v B,.v (.int na)]) (.of rfl) rfl (by rw[hb];exact agc)) rfl) ?_;refine dO (l0 (k7 (rs:=[.v (.int ((na:Int)-1)),.v (.t [.str "put",.str (a7 a),.int 5])]) Rp.a8 (.of rfl) rfl (aF.to (.of (by simp[lJ]))) rfl agd)) ?_;refine dO (Bl se age) ?_;refine dO (U':=kr L na [A,B] N (.v (.ref 0)) (.v (.ref j)) (.v (.l [.l [],.l [],.l g])) (.v (.l [.l [],.l [],.l g])) qF (.v (.ref k)) (.v (.ref m))) (sy (r:=.v (.ref m)) (d:=.ref m) (by rw[<-L4];exact xP (rs:=[.v A,.v (.int na)]) (.of rfl) rfl (by rw[L4];exact agf)) rfl) ?_;refine dO (l0 (k7 (rs:=[.v (.int 0),.v .aH]) Rq.a8 (.of rfl) rfl (aF.to (.of rfl)) rfl bV)) ?_;refine dO (Bl se cJ) ?_;refine xR (je (cH (eJ (rs:=[.v (.l [.l [],.l [],.l g]),.v (.l [.l [],.l [],.l g])]) (.of rfl) (.of al)))) ?_;refine dO (aF.to ((f5 K.a8 (.of rfl) rfl cI (sd K)).bind (.of rfl))) ?_;refine dO (aF.to ((f5 K.a8 (.of rfl) rfl cI (D2 K)).bind (.of rfl))) ?_;refine xR (nI (cH (cL (Oy Hn E.ok) (eJ (rs:=[.v (.ref 0),.v (.int na)]) (.of rfl) aaE) (eJ (rs:=[.v (.ref m),.v (.int na)]) (.of rfl) aaI))) (cH (cL (Oy aD F.ok) (eJ (rs:=[.v (.ref j),.v (.int na)]) (.of rfl) aaG) (eJ (rs:=[.v (.ref k),.v (.int na)]) (.of rfl) aaH)))) ?_;exact aF.to (iD (eJ (bT (cL (CM (by rw[ama];omega)) (zE (f5 K.a8 (.of rfl) rfl cI (sd K)) rfl rfl) (zE (f5 BA.a8 (.of rfl) rfl cI (sd BA)) rfl rfl)) (bT (cL (CM (by rw[ama];omega)) (zE (f5 iI.a8 (.of rfl) rfl cI (sd iI)) rfl rfl) (zE (f5 BB.a8 (.of rfl) rfl cI (sd BB)) rfl rfl)) cI)) (.of R4)))
end dI
namespace PySem.W.Fast
noncomputable def zp:=PySem.Challenge.pw_oneslate_k43_houses_beside
noncomputable def zq:=zp.main.body
noncomputable def tw4643015751126723682:=(zq.drop 65).take 8
theorem te4643015751126723682:tw4643015751126723682=tw4643015751126723682:=rfl
noncomputable def tw5055586146757385091:=(zq.drop 0).take 11
theorem te5055586146757385091:tw5055586146757385091=tw5055586146757385091:=rfl
noncomputable def tw12391742015415606887:=(zq.drop 15).take 1
theorem te12391742015415606887:tw12391742015415606887=tw12391742015415606887:=rfl
noncomputable def tw17349467609852548587:=(zq.drop 11).take 2
theorem te17349467609852548587:tw17349467609852548587=tw17349467609852548587:=rfl
noncomputable def tw867986065171450124:=(zq.drop 27).take 15
theorem te867986065171450124:tw867986065171450124=tw867986065171450124:=rfl
noncomputable def tw797372600360112780:=(zq.drop 16).take 1
theorem te797372600360112780:tw797372600360112780=tw797372600360112780:=rfl
noncomputable def tw16666058445031272750:=(zq.drop 17).take 10
theorem te16666058445031272750:tw16666058445031272750=tw16666058445031272750:=rfl
noncomputable def tw7108664819522962447:=(zq.drop 73).take 9
theorem te7108664819522962447:tw7108664819522962447=tw7108664819522962447:=rfl
noncomputable def tw7674816830129337807:=(zq.drop 13).take 1
theorem te7674816830129337807:tw7674816830129337807=tw7674816830129337807:=rfl
noncomputable def tw10331696041375098192:=(zq.drop 83).take 10
theorem te10331696041375098192:tw10331696041375098192=tw10331696041375098192:=rfl
noncomputable def tw16494878949888892915:=(zq.drop 51).take 14
theorem te16494878949888892915:tw16494878949888892915=tw16494878949888892915:=rfl
noncomputable def tw7515196443069255609:=(zq.drop 93).take 1
theorem te7515196443069255609:tw7515196443069255609=tw7515196443069255609:=rfl
noncomputable def tw7055155210293308636:=(zq.drop 42).take 9
theorem te7055155210293308636:tw7055155210293308636=tw7055155210293308636:=rfl
noncomputable def tw5257145827132863388:=(zq.drop 82).take 1
theorem te5257145827132863388:tw5257145827132863388=tw5257145827132863388:=rfl
noncomputable def tw14721945786212000991:=(zq.drop 94).take 12
theorem te14721945786212000991:tw14721945786212000991=tw14721945786212000991:=rfl
noncomputable def tw10788332961409256863:=(zq.drop 14).take 1
theorem te10788332961409256863:tw10788332961409256863=tw10788332961409256863:=rfl
noncomputable def tw3794412013522204479:PySem.Program:={zp with main:={zp.main with body:=([1,2,3,4,5,7,8,9,11,12,13,14,15,16,17,19,20,21,22,23,24,25,26,27,28,29,30,31,32,34,35,36,37,38,40,41,42,43,44,45,46,47,48,50,51,52,53,54,55,56,57,58,59,60,62,63,64,65,66,67,68,69,70,71,72,73,74,75,77,78,79,80,82,84,85,86,87,88,89,91,92,93,95,96,97,98,99,100,101,102,103,104,105]:List Nat).filterMap fun i=>zp.main.body[i]?}}
theorem te3794412013522204479:tw3794412013522204479=tw3794412013522204479:=rfl
def te14510638352650163742:=0
def te4165700062777340290:=0
def te17729413773786733639:=0
def te15861964971649202360:=0
def te1908707249613721033:=0
def te16654661313882971996:=0
def te10524681559214574895:=0
def te9334682324367511335:=0
def te916649730633351219:=0
def te3641258931978785609:=0
def te18073125050241791515:=0
def te11265933945205864366:=0
def te658853822817045615:=0
def te11665977038157158486:=0
def te12636760235960017806:=0
def te3104229276321370795:=0
def te6611342408776401550:=0
def te3556263985879357674:=0
def te5616386625608925873:=0
def te14980161058319147869:=0
def te13351013909086521478:=0
def te9513327377214534525:=0
def te14528273707234271399:=0
def te13519364696738513145:=0
def te2566066592421828937:=0
def te13018592082132905912:=0
def te9947201715214080845:=0
def te472207945819826436:=0
def te2901044464168183976:=0
def te14760214898739144373:=0
def te7180998840788433365:=0
def te7923483022158994082:=0
def te3915527252340705202:=0
def te16159335566172873367:=0
def te12904571660439879399:=0
def te7582170257496177908:=0
def te17699331140242323798:=0
def te17260210075657698369:=0
def te15129728617146430427:=0
def te6693901702904877785:=0
def te13974748435277205681:=0
def te12848385546140266867:=0
def te14650062436398994440:=0
def te7139308979521411731:=0
def te14406051146565279536:=0
def te2209668649654671094:=0
def te18364217942448641028:=0
def te13596095527047049330:=0
def te15438751232671981745:=0
def te14610348521531625316:=0
def te4587828058823560612:=0
def te12716765846007339355:=0
def te596679617353854457:=0
def te11677640464805677017:=0
def te16618742977519521792:=0
def te1049320903970982158:=0
def te551442611859764931:=0
def te2539337557248744821:=0
def te14472434434567230325:=0
def te14959974287198098133:=0
def te3475395756796968232:=0
def te8722571145529216285:=0
def te7140129038200515816:=0
def te16414283243769067584:=0
def te14747703014847089436:=0
def te16076667698801413282:=0
def te6118452247913790179:=0
def te2614671195384206648:=0
def te10627060213815233212:=0
def te12794511282485372768:=0
def te795310936540900358:=0
def te9234450844656883578:=0
def te1750607923695614285:=0
def te16839873183375122597:=0
def te7900723957402304777:=0
def te18270362322549500073:=0
def te16436681879742332500:=0
def te10529632092549546545:=0
def te1803996712876061416:=0
def te3239804962536149630:=0
def te16563333397241798464:=0
def te13897910555638522474:=0
def te5746214169789245135:=0
def te3572641165560489889:=0
def te12690459223247454318:=0
def te7295487479630867582:=0
def te15876825235850979559:=0
def te8380834751699100554:=0
def te6280017011854539971:=0
def te619163663587981371:=0
def te11560597839237256573:=0
def te1708199596335596297:=0
def te53986271967414339:=0
def te14430531582778190942:=0
def te10070234599980476764:=0
def te10097497377721056671:=0
def te11262811977154798702:=0
def te770971261507984838:=0
def te11786773067855469637:=0
def te2432414945358382931:=0
def te8540571102869916761:=0
def te6274297806452028882:=0
def te4086152143783534656:=0
def te9844187868790759979:=0
def te4514502827509839834:=0
def te3872801524107495357:=0
def te9982265146013842841:=0
def te6019249287030744224:=0
def te12236464030541292821:=0
def te6107495188478982151:=0
def te8083098654641494902:=0
def te13784413149079860127:=0
def te13629795342653602108:=0
def te3604921764820338354:=0
def te11928489704349659736:=0
def te2385890269728673643:=0
def te4297252523180054731:=0
def te5190037425096039688:=0
def te4595445789563656094:=0
def te1835084861359633336:=0
def te17045834660953863140:=0
def te3294118821473089530:=0
def te1547989534953451633:=0
def te10053708897954980767:=0
def te3805999913006320581:=0
def te11928024864951254346:=0
def te2067789423600593062:=0
def te15010146453093921967:=0
def te13481859277213443616:=0
def te13865503157481106368:=0
def te7737952977134825559:=0
def te8942056342040767418:=0
def te8067554242780853884:=0
def te210261409891767336:=0
def te14376381583149131173:=0
def te8540232156789062463:=0
def te2807463952579848858:=0
def te1757898047723029566:=0
def te12515163655042636314:=0
def te10428341491293040961:=0
def te5576489019410148503:=0
def te1801786902433518160:=0
def te9908610356559245947:=0
def te5018776441235695912:=0
def te2805372934914432082:=0
def te15485730658428713127:=0
def te15706106842719818457:=0
def te13501982142908376707:=0
def te4532585998059577975:=0
def te11041040188218320276:=0
def te5417017707797167900:=0
def te141203165644070183:=0
def te2628932477934641675:=0
def te4443786962727409927:=0
def te5588847260182556163:=0
def te661690256411553756:=0
def te3293565310933033068:=0
def te6547972687406904912:=0
def te10173901957796333149:=0
def te18412746493623078946:=0
def te9138190964085394832:=0
def te8394236297719548517:=0
def te6422379656782358419:=0
def te8181394833095084087:=0
def te3875342717764917037:=0
def te14225026146572381184:=0
def te1403649078180693817:=0
def te2084616807989387576:=0
def te7142319548129017335:=0
def te2286770133935147272:=0
def te18121594682757496978:=0
def te4508077994309254090:=0
def te7554746403098277675:=0
def te17556595338524774873:=0
def te14194315113859280195:=0
def te4769807664374844788:=0
def te554408379216368989:=0
def te13690436198198164124:=0
def te2806976970775446920:=0
def te6351190203347105281:=0
def te1813019707137178677:=0
def te12179935750024717263:=0
def te1503831481519879722:=0
def te15500402445354507372:=0
def te14088193013298687064:=0
def te7998606100262289336:=0
def te13463362306156492144:=0
def te18443295629540965205:=0
def te13234335081567330811:=0
def te15389221544912187846:=0
def te7822555832986206387:=0
def te12274815601008483864:=0
def te2645582490448048803:=0
def te17122741291584847337:=0
def te18338801044921023601:=0
def te4724706668685344431:=0
def te7408025477456797787:=0
def te11128297987271656572:=0
def te2773565995691606363:=0
def te8327280273375639211:=0
def te16664421452769197791:=0
def te16589557001468802226:=0
def te7699719842851139015:=0
def te15379894494838671990:=0
def te4980591596580164960:=0
def te8708810667627388485:=0
def te13755933059286289656:=0
def te3894039463007276962:=0
def te11105786916137495812:=0
def te7714195556154385976:=0
def te8814164801533759197:=0
def te11470975992515252717:=0
def te3798463149265246309:=0
def te6434226133234433992:=0
def te1441983059218399524:=0
def te145356091979447017:=0
def te17283816475128601369:=0
def te13587494374512371961:=0
def te1701082929600769222:=0
def te13124917207823613377:=0
def te14341364124352081839:=0
def te993093807863100669:=0
def te12695675039803718953:=0
def te33352809304406502:=0
def te1217149941086283288:=0
def te13075286132276136931:=0
def te10414629441986288602:=0
def te10559645038823470731:=0
def te11163082629690151520:=0
def te6278046358653202223:=0
def te3343838913205896596:=0
def te10736054674284468224:=0
def te2249048465486181269:=0
def te15807566219536543157:=0
def te16901217040065489041:=0
def te10650311693591291387:=0
def te14182653804624813346:=0
def te3230311544538793487:=0
def te3842210423265998803:=0
def te6912497219048940790:=0
def te7165834807921190495:=0
def te14080303313231046732:=0
def te3196438745753208186:=0
def te18378654055130699988:=0
def te14095005717499636097:=0
def te14696977000743120007:=0
def te2482099717000224461:=0
def te3059106822072953232:=0
def te11466541705080361563:=0
def te6737493714510634735:=0
def te13919542172060498601:=0
def te5094804153905749667:=0
def te14163819902714326798:=0
def te8196060694792225844:=0
def te9410545234252515530:=0
def te6325576384375717423:=0
def te7406146011058417025:=0
def te7726995998819804425:=0
def te18097989521391004543:=0
def te15419834053176155594:=0
def te168479562276870733:=0
def te16370224493769660954:=0
def te9397513864361310241:=0
def te2830758322912447129:=0
def te16599023997963414096:=0
def te6697863130603381082:=0
def te9864072308973193918:=0
def te16018513236044532823:=0
def te2231131299076252006:=0
def te2280233659546671252:=0
def te7364895775945619416:=0
def te3842184281975426910:=0
def te11600456817317427529:=0
def te2802871287968034256:=0
def te2525445674762672313:=0
def te17189676986429250277:=0
def te4329315208808844899:=0
def te8932307884678174608:=0
def te14952708763017625085:=0
def te17306937699161436846:=0
def te7755994767029968634:=0
def te10563860696578236067:=0
def te10681400059781117841:=0
def te5816319678442843549:=0
def te4342444592411741535:=0
def te4501769477543648315:=0
def te3491750284829925807:=0
def te6209388552244966713:=0
def te14477295188935251394:=0
def te2542483444821408461:=0
def te15314815287750878061:=0
def te8390459993525723469:=0
def te6339662409322498290:=0
def te14441037043085607483:=0
def te14792329840813424784:=0
def te4115101055350481582:=0
def te5353588518917601509:=0
def te15069509012711847534:=0
def te2911117645993824441:=0
def te8755515480919015674:=0
def te16829670479872573018:=0
def te17369768267153450449:=0
def te9135638481578665103:=0
def te6916757502621472072:=0
def te16263355592406311160:=0
def te3708829317040476956:=0
def te16037732944622648929:=0
def te12148359209288380504:=0
def te7105260320586989597:=0
def te14091154765013786865:=0
def te13338035653436967703:=0
def te7093251031805955645:=0
def te12370160853723543750:=0
def te7415477601817825636:=0
def te568799607269474707:=0
def te11505137152813234890:=0
def te1236907505784073796:=0
def te9003459254679355403:=0
def te10385264690593286221:=0
def te9681911898941197099:=0
def te12037956436357708948:=0
def te1744364649692585301:=0
def te16827214335006592654:=0
def te17882934550450395097:=0
def te9778887067121979854:=0
def te7248244710034597114:=0
def te17649307862260414838:=0
def te17415675735144351514:=0
def te3142443374332303606:=0
def te10119389493669621590:=0
def te16747224944611757210:=0
def te11151298963993971201:=0
end PySem.W.Fast
open PySem PySem.W PyProof.Rows
set_option maxHeartbeats 0 in
theorem PySem.Challenge.cw_oneslate_k43_houses_beside_holds : PySem.Challenge.rw_oneslate_k43_houses_beside.Holds := by
 w_on;o_law;k_head;(case hw=>w_witness2)
 k_fill
 refine aC.ahj (l:=PySem.Challenge.rw_oneslate_k43_houses_beside) (k:=26) ["highest","with_cell","with_doing","with_page"] rfl rfl ⟨rfl,by decide,by decide⟩ ?aiO ?aiN (λw h Y=>PySem.W.km_in_of Y) ?F
 case aiO=>
  intro x aj
  repeat (rcases alY.mp aj with rfl|aj;· exact⟨_,rfl⟩)
  cases aj
 case aiN=>exact λp=>by kernel_rfl
 case F=>
  intro w mg fa h ei G vT
  have oj:aC.m3 (aA.iL ei) mg "Asker" dI.Al:=by
   dsimp only[aA.iL]
   refine' aC.JQ ei G ?a ?kX ?hd ?po ?mR ?mk ?wb ?na
   (case a=>k_is);(case kX=>k_is);(case hd=>k_is);(case po=>k_is);(case mR=>k_is);(case mk=>k_is);(case wb=>k_is)
   case na=>
    simp only[ams]
    repeat (refine⟨by k_is,?_⟩)
    exact λ_ h=>nomatch h
  have om:aC.m3 (aA.iL ei) mg "House" dI.Am:=by
   dsimp only[aA.iL]
   refine' aC.JQ ei G ?a ?kX ?hd ?po ?mR ?mk ?wb ?na
   (case a=>k_is);(case kX=>k_is);(case hd=>k_is);(case po=>k_is);(case mR=>k_is);(case mk=>k_is);(case wb=>k_is)
   case na=>
    simp only[ams]
    repeat (refine⟨by k_is,?_⟩)
    exact λ_ h=>nomatch h
  have CZ:aA.gO (aA.iL ei) mg "law" dI.xp ["script"]:=by
   dsimp only[aA.iL]
   refine' aC.LL ei G ?a ?l ?c ?k (λ_ _ _ _ _ _=>aC.pD λ_=>rfl)
   (case a=>k_is);(case l=>k_is);(case c=>k_is);(case k=>k_is)
  letI:aA.a4:=aC.uH (aA.iL ei) ["highest","with_cell","with_doing","with_page"]
  have EB:aC.KTab PySem.Challenge.rw_oneslate_k43_houses_beside.prog w (aA.iL ei) mg "FORMS" dI.zF:=by
   dsimp only[aA.iL]
   refine' aC.aag ei G ?a ?s ?l ?k ?f
   (case a=>k_is);(case s=>decide);(case l=>k_is)
   case k=>
    intro e he
    repeat (rcases alY.mp he with rfl|he;· first|exact⟨"put",rfl,rfl⟩|exact⟨"add",rfl,rfl⟩|exact⟨"swap",rfl,rfl⟩|exact⟨"take",rfl,rfl⟩|exact⟨"renew",rfl,rfl⟩|exact⟨"free",rfl,rfl⟩|exact⟨"sure",rfl,rfl⟩|exact⟨"move",rfl,rfl⟩|exact⟨"end",rfl,rfl⟩)
    cases he
   case f=>exact⟨_,_,rfl,⟨_,rfl⟩,(aC.oV (xs:=["name","number"]) (by k_is) (by decide +kernel) (by exact⟨_,_,rfl,⟨_,_,rfl,rfl⟩⟩)),⟨_,_,rfl,⟨_,rfl⟩,(aC.oV (xs:=["name","number"]) (by k_is) (by decide +kernel) (by exact⟨_,_,rfl,⟨_,_,rfl,rfl⟩⟩)),⟨_,_,rfl,⟨_,rfl⟩,(aC.oV (xs:=["name","number","number"]) (by k_is) (by decide +kernel) (by exact⟨_,_,rfl,⟨_,_,rfl,⟨_,_,rfl,rfl⟩⟩⟩)),⟨_,_,rfl,⟨_,rfl⟩,(aC.oV (xs:=["fence"]) (by k_is) (by decide +kernel) (by exact⟨_,_,rfl,rfl⟩)),⟨_,_,rfl,⟨_,rfl⟩,(aC.oV (xs:=["fence"]) (by k_is) (by decide +kernel) (by exact⟨_,_,rfl,rfl⟩)),⟨_,_,rfl,⟨_,rfl⟩,(aC.oV (xs:=["fence"]) (by k_is) (by decide +kernel) (by exact⟨_,_,rfl,rfl⟩)),⟨_,_,rfl,⟨_,rfl⟩,(aC.oV (xs:=["fence","name","number"]) (by k_is) (by decide +kernel) (by exact⟨_,_,rfl,⟨_,_,rfl,⟨_,_,rfl,rfl⟩⟩⟩)),⟨_,_,rfl,⟨_,rfl⟩,(aC.oV (xs:=["hall"]) (by k_is) (by decide +kernel) (by exact⟨_,_,rfl,rfl⟩)),⟨_,_,rfl,⟨_,rfl⟩,(aC.oV (xs:=[]) (by k_is) (by decide +kernel) (by exact rfl)),rfl⟩⟩⟩⟩⟩⟩⟩⟩⟩
  have AX:aC.u2 PySem.Challenge.rw_oneslate_k43_houses_beside.prog w (aA.iL ei) mg "DOERS" dI.hv:=by
   dsimp only[aA.iL]
   refine' aC.VA ei G ?a ?l ?k ?f
   (case a=>k_is);(case l=>k_is)
   case k=>
    intro e he
    repeat (rcases alY.mp he with rfl|he;· first|exact⟨"put",rfl,rfl⟩|exact⟨"add",rfl,rfl⟩|exact⟨"swap",rfl,rfl⟩|exact⟨"take",rfl,rfl⟩|exact⟨"renew",rfl,rfl⟩|exact⟨"free",rfl,rfl⟩|exact⟨"sure",rfl,rfl⟩|exact⟨"move",rfl,rfl⟩|exact⟨"end",rfl,rfl⟩)
    cases he
   case f=>
    simp only[ams]
    repeat (refine⟨⟨_,by k_is,by k_is⟩,?_⟩)
    exact λ_ h=>nomatch h
  have EO:=by
   refine' aC.zO (x:="highest") (st:=dI.Qo) (ln:=["highest","with_cell","with_doing","with_page"]) ei G ?o7 ?q9 ?rT ?cD ?dz ?r7 ?av ?aE ?cX ?eZ ?lB ?ow ?nn ?ii
   (case o7=>decide);(case q9=>k_is);(case rT=>k_is);(case cD=>exact rfl);(case dz=>k_is);(case r7=>exact rfl);(case av=>exact rfl);(case aE=>exact rfl);(case cX=>exact rfl);(case eZ=>exact rfl);(case lB=>exact rfl);(case ow=>exact rfl);(case nn=>decide)
   case ii=>
    intro y aX bB
    repeat (rcases alY.mp aX with rfl|aX;· first|rfl|(refine' aC.Aj ?bq ?bO bB;(case bq=>refine' aC.xE ?a1 ?a2 ?fI ?iQ ?jz;(case a1=>k_is);(case a2=>k_is);(case fI=>exact rfl);(case iQ=>k_is);(case jz=>exact rfl));(case bO=>decide)))
    cases aX
  have EU:=by
   refine' aC.zO (x:="with_cell") (st:=dI.Gh) (ln:=["highest","with_cell","with_doing","with_page"]) ei G ?o7 ?q9 ?rT ?cD ?dz ?r7 ?av ?aE ?cX ?eZ ?lB ?ow ?nn ?ii
   (case o7=>decide);(case q9=>k_is);(case rT=>k_is);(case cD=>exact rfl);(case dz=>k_is);(case r7=>exact rfl);(case av=>exact rfl);(case aE=>exact rfl);(case cX=>exact rfl);(case eZ=>exact rfl);(case lB=>exact rfl);(case ow=>exact rfl);(case nn=>decide)
   case ii=>
    intro y aX bB
    repeat (rcases alY.mp aX with rfl|aX;· first|rfl|(refine' aC.Aj ?bq ?bO bB;(case bq=>refine' aC.xE ?a1 ?a2 ?fI ?iQ ?jz;(case a1=>k_is);(case a2=>k_is);(case fI=>exact rfl);(case iQ=>k_is);(case jz=>exact rfl));(case bO=>decide)))
    cases aX
  have EV:=by
   refine' aC.zO (x:="with_doing") (st:=dI.Gi) (ln:=["highest","with_cell","with_doing","with_page"]) ei G ?o7 ?q9 ?rT ?cD ?dz ?r7 ?av ?aE ?cX ?eZ ?lB ?ow ?nn ?ii
   (case o7=>decide);(case q9=>k_is);(case rT=>k_is);(case cD=>exact rfl);(case dz=>k_is);(case r7=>exact rfl);(case av=>exact rfl);(case aE=>exact rfl);(case cX=>exact rfl);(case eZ=>exact rfl);(case lB=>exact rfl);(case ow=>exact rfl);(case nn=>decide)
   case ii=>
    intro y aX bB
    repeat (rcases alY.mp aX with rfl|aX;· first|rfl|(refine' aC.Aj ?bq ?bO bB;(case bq=>refine' aC.xE ?a1 ?a2 ?fI ?iQ ?jz;(case a1=>k_is);(case a2=>k_is);(case fI=>exact rfl);(case iQ=>k_is);(case jz=>exact rfl));(case bO=>decide)))
    cases aX
  have EW:=by
   refine' aC.zO (x:="with_page") (st:=dI.Gj) (ln:=["highest","with_cell","with_doing","with_page"]) ei G ?o7 ?q9 ?rT ?cD ?dz ?r7 ?av ?aE ?cX ?eZ ?lB ?ow ?nn ?ii
   (case o7=>decide);(case q9=>k_is);(case rT=>k_is);(case cD=>exact rfl);(case dz=>k_is);(case r7=>exact rfl);(case av=>exact rfl);(case aE=>exact rfl);(case cX=>exact rfl);(case eZ=>exact rfl);(case lB=>exact rfl);(case ow=>exact rfl);(case nn=>decide)
   case ii=>
    intro y aX bB
    repeat (rcases alY.mp aX with rfl|aX;· first|rfl|(refine' aC.Aj ?bq ?bO bB;(case bq=>refine' aC.xE ?a1 ?a2 ?fI ?iQ ?jz;(case a1=>k_is);(case a2=>k_is);(case fI=>exact rfl);(case iQ=>k_is);(case jz=>exact rfl));(case bO=>decide)))
    cases aX
  have kt:aA.ya (aA.iL ei):=aA.aaa _
  have Ru:aC.G9 mg:=by constructor<;>exact PySem.W.mg_none_of ei G (by k_is)
  refine aC.R7 vT CZ (λ_ _ _ _ _ _ _=>rfl) (λbase TM f fd F=>aC.aao (dI.FK ⟨?_,?_,?_,?_,?_,?_,?_,?_,?_,?_,?_,?_,?_,?_,?_,?_,?_,?_,?_,?_,?_,?_,?_,?_,?_,?_,?_,?_,?_,?_,?_,?_,?_,?_,?_,?_,?_,?_,?_,?_,?_,?_,?_,?_,?_,?_,?_,?_,?_,?_,?_,?_,?_,?_,?_,?_,?_,?_,?_,?_,?_,?_,?_,?_,?_,?_,?_,?_,?_,?_,?_,?_,?_,?_,?_,?_,?_,?_,?_,?_,?_,?_,?_,?_,?_,?_,?_,?_,?_,?_,?_,?_,?_,?_,?_,?_,?_,?_,?_,?_,?_,?_,?_,?_,?_,?_,?_,?_,?_,CZ,oj,om,?_,?_,?_,?_,?_,?_,?_,?_,AX,EB,EO,EU,EV,EW,TM,Ru,kt⟩ F) dI.aau)
  all_goals first
  |(refine' ⟨_,PySem.W.mg_of ei G ?a,?b⟩;(case a=>k_is);(case b=>first|exact rfl|exact⟨_,rfl⟩))
  |((try dsimp only[aA.iL]);refine' ⟨aC.LL ei G ?a ?l ?c ?k (λ_ _ _ _ _ _=>by first|exact aC.QW rfl|exact aC.pD λ_=>rfl|exact aC.qJ λ_ _=>rfl|exact aC.qK λ_ _ _=>rfl|exact aC.A_ λ_ _ _ _=>rfl|exact aC.A' λ_ _ _ _ _=>rfl|exact aC.Ba λ_ _ _ _ _ _=>rfl|exact aC.GO λ_ _ _ _ _ _ _=>rfl),aC.s7 (by kernel_rfl)⟩;(case a=>k_is);(case l=>k_is);(case c=>k_is);(case k=>k_is))
  |(dsimp only[aA.iL]at oj ⊢;refine' ⟨aC.LM ei G oj ?a ?f ?i ?l ?c ?k (λ_ _ _ _ _ _=>by first|exact aC.pD λ_=>rfl|exact aC.qJ λ_ _=>rfl|exact aC.qK λ_ _ _=>rfl|exact aC.A_ λ_ _ _ _=>rfl|exact aC.A' λ_ _ _ _ _=>rfl|exact aC.Ba λ_ _ _ _ _ _=>rfl|exact aC.GO λ_ _ _ _ _ _ _=>rfl),aC.s7 (by kernel_rfl)⟩;(case a=>k_is);(case f=>k_is);(case i=>k_is);(case l=>k_is);(case c=>k_is);(case k=>k_is))
  |(dsimp only[aA.iL]at om ⊢;refine' ⟨aC.LM ei G om ?a ?f ?i ?l ?c ?k (λ_ _ _ _ _ _=>by first|exact aC.pD λ_=>rfl|exact aC.qJ λ_ _=>rfl|exact aC.qK λ_ _ _=>rfl|exact aC.A_ λ_ _ _ _=>rfl|exact aC.A' λ_ _ _ _ _=>rfl|exact aC.Ba λ_ _ _ _ _ _=>rfl|exact aC.GO λ_ _ _ _ _ _ _=>rfl),aC.s7 (by kernel_rfl)⟩;(case a=>k_is);(case f=>k_is);(case i=>k_is);(case l=>k_is);(case c=>k_is);(case k=>k_is))
  |(dsimp only[aA.iL]at oj ⊢;refine' ⟨aC.LN ei G oj ?a ?f ?i ?l ?t ?c ?k rfl (λ_ _ _ _ _ _=>by first|exact aC.pD λ_=>⟨_,rfl,rfl⟩|exact aC.qJ λ_ _=>⟨_,rfl,rfl⟩|exact aC.qK λ_ _ _=>⟨_,rfl,rfl⟩) (λ_ _ _ _ _ _=>by first|exact aC.pD λ_=>⟨_,rfl,rfl⟩|exact aC.qJ λ_ _=>⟨_,rfl,rfl⟩|exact aC.qK λ_ _ _=>⟨_,rfl,rfl⟩),aC.s7 (by kernel_rfl)⟩;(case a=>k_is);(case f=>k_is);(case i=>k_is);(case l=>k_is);(case t=>k_is);(case c=>k_is);(case k=>k_is))
  |(dsimp only[aA.iL]at om ⊢;refine' ⟨aC.LN ei G om ?a ?f ?i ?l ?t ?c ?k rfl (λ_ _ _ _ _ _=>by first|exact aC.pD λ_=>⟨_,rfl,rfl⟩|exact aC.qJ λ_ _=>⟨_,rfl,rfl⟩|exact aC.qK λ_ _ _=>⟨_,rfl,rfl⟩) (λ_ _ _ _ _ _=>by first|exact aC.pD λ_=>⟨_,rfl,rfl⟩|exact aC.qJ λ_ _=>⟨_,rfl,rfl⟩|exact aC.qK λ_ _ _=>⟨_,rfl,rfl⟩),aC.s7 (by kernel_rfl)⟩;(case a=>k_is);(case f=>k_is);(case i=>k_is);(case l=>k_is);(case t=>k_is);(case c=>k_is);(case k=>k_is))
