import PyProof.Rows.All
import Wide.All
import OpenK.AllK
import Wide.FinOn
import Lean
import PyProof.EqAt
import PyProof.EqKinds
import PyProof.TupleCall
import KE.KSortTup
import PyProof.ZipIter
import KE.KMinKey
import KE.KRevSl
import PyProof.Rows.EnumRows
import PyProof.EnumStmt
import KE.KIntText
import PySem.Challenge.RW_oneslate_k33_an_asker_tells
set_option Elab.async false
set_option linter.all false
set_option maxRecDepth 100000
set_option bootstrap.genMatcherCode false
open Array renaming length_toList->aiE,getD_eq_getD_getElem?->alI,getElem?_toList->amA
open Bool renaming false_ne_true->ahV,and_eq_true->aix,eq_iff_iff->ajg,false_eq_true->akg
open False renaming elim->air
open ForInStep renaming yield->alm
open Int renaming le_refl->akI,emod_lt_of_pos->alF,fdiv_eq_ediv_of_nonneg->alM,toNat_natCast->alT,emod_nonneg->amq
open List renaming length_map->ahJ,getElem?_eq_some_iff->ahN,mem_cons->ahP,mem_cons_of_mem->ahR,length_append->ahS,map_cons->ahT,size_toArray->ahW,length_cons->ahX,getElem?_set_ne->ahZ,mem_cons_self->ah0,getElem?_append_right->ah2,getElem?_map->aia,getElem?_append_left->aic,mem_singleton->aij,getD_eq_getElem?_getD->ail,getElem?_eq_getElem->ait,length_set->aiu,mem_of_getElem?->aiw,length_nil->aiy,range->aiz,length_drop->aiA,lookup_cons->aiB,mem_append_right->aiD,find?_cons_of_neg->aiF,map_append->aiG,replicate->aiH,getElem?_set_self->aiJ,mem_map->aiK,mem_append->aiL,find?_cons_of_pos->aiP,nodup_cons->aiR,length_replicate->aiU,zip_cons_cons->aiY,all_eq_true->aiZ,mem_range->ai4,append_nil->ai7,length->ai8,forall_mem_cons->ajb,not_mem_nil->ajc,lookup->ajm,any_cons->ajs,getElem?_replicate->ajD,length_take->ajH,pairwise_cons->ajJ,mem_filter->ajM,find?_cons->ajN,toArray->aj4,zip_nil_left->akq,append_assoc->akr,length_singleton->akx,drop_drop->aky,map_map->akz,all_cons->akD,mem_map_of_mem->akJ,of_mem_zip->akL,getElem?_zip_eq_some->akN,zip_nil_right->akS,take_of_length_le->ak3,take_length->ak8,map_fst_zip->ak9,length_filter_le->alf,mem_append_left->alg,length_zip->alo,filterMap_cons->als,take_zero->alv,drop->alE,prefix_append->alG,find?_eq_none->alH,take_add_one->alV,pairwise_map->alW,pairwise_iff_getElem->al0,mem_of_find?_eq_some->al3,map_nil->amb,prefix_refl->amc,length_eq_zero_iff->amk,forIn_cons->amo,drop_eq_nil_of_le->amv,length_pos_of_mem->amw,take_nil->amG
open List.Nodup renaming length_le_of_subset->alr
open List.Pairwise renaming nil->alU
open Nat renaming le_refl->ahM,ne_of_lt->ah5,le_of_ble_eq_true->ah7,zero_le->aib,lt_irrefl->aii,lt_of_lt_of_le->aio,le_trans->aiS,le_of_lt->ai5,le_of_eq->ajn,sub_self->ajw,le_add_right->aj6,le_succ->akl,not_lt_zero->akO,zero_add->akU,lt_succ_of_lt->akZ,lt_succ_self->al8
open Ne renaming symm->aks
open Option renaming map_eq_some_iff->akp,bind_eq_some_iff->ami
open Option.some renaming inj->aih,injEq->amQ
open Or renaming inr->aiI,inl->ajE
open PyProof.Rows renaming seqObj->aiq,IntsAre->aiM,envOfC->aiT,slot_tuple_getitem->aiV,KeyOrd->ajl,callWith_type1->ajI,get?_update_seq->ajP,listUpdate_at->aka,envOfC->akw,AllBare->alb,seqEpoch_at->aly,size_push'->al1,KeyKind->amD,strKind->amE,lt_int->amH,gt_int->amI,Call_->amP
open PySem renaming wpAny_bind->ahH,starEach->ahK,Shared->ahL,wpAny_pure->ahO,sizeLine->ahQ,Program->ah1,assignEach->ah4,Around->ah6,sizeLine_eq->ah8,backTo->aie,mainGlobals->aik,foldedSetIterable->aip,compareOp->ais,wpAny_mono->aiv,bootBuiltins->aiC,wpAny_seqItems->aiQ,FuncData->aiW,wpAny_truthy_bool->ai2,wpAny_holding->ai3,keywordEach->ai6,wpAny_field->ai9,swapsWith->aje,mem_of_lookup->ajf,wpAny_Call_Name_kw->ajh,wpAny_tryCatch->ajj,wpAny_callSpecial?_slot->ajk,wpAny_letGo->ajo,sysModules->ajq,attributeBase->ajr,backToKw->ajv,Stmt->ajy,holding->ajz,wpAny_pyIter_list->ajA,wpAny_newObj_type->ajB,behindInMarks->ajC,binaryOp->ajF,wpAny_setField_rec->ajK,plainId_quiet->ajS,rawInt->ajT,getMethod->ajW,bindArgs->ajZ,codeAny_mono->aj0,wpAny_call_entry->aj2,IsPair->aj5,assign->akc,pyNext->akd,wpAny_pyIter_tuple->ake,closureFor->akf,seqItems?->akh,codeAny_builtin->aki,wpAny_updateSeq->akj,NameKind->akm,richCompare_meets_room->akn,standAt->akt,codeAny->akv,PassesOwn->akA,callWith->akB,wpAny_newList->akF,richCompare->akG,sliceBounds->akH,wpAny_passesOwn->akK,Arguments->akR,getItem->akX,Keyword->akY,Paired->ak0,strKind->ak6,wpAny_forIn_list->ak7,Builtin->alc,codeAmong->ald,DictEntry->ale,letOwnedTupleGo->ali,IsPart->alj,wpAny_rule->aln,wpAny_updateSeq_pair->alq,tupleKind->alA,findBy->alB,tupleKind_room_in1->alC,wpAny_standAt->alQ,wpAny_onRaise->alR,builtinsNs->alX,defaultsOf->al2,callerA->al6,valueAt->al7,wpAny_execs_nil->aml,TriplesOk->amn,subscripted->amt
open PySem.Around renaming under_plainId->ajx,under->amM
open PySem.AutoSeq1 renaming sub_tuple_tuple->aj1
open PySem.BindsTo renaming of_defaults->amJ
open PySem.Builtin renaming bitNot->ajd,bitAnd->aku,bitOr->ak5
open PySem.Builtin.Builtins renaming bindParams->ajL
open PySem.Builtin.Int renaming intBits->ai0,intTooBig->amz
open PySem.Builtin.List renaming listTooLong->akT
open PySem.Builtin.Slice renaming slicePlaces->ajV,sliceAdjust->akM,sliceApplied->alN
open PySem.Builtin.SmallTypes renaming nextOf->aiO,ownedTupleIsFree->aji,ownedTupleHandOut->akV
open PySem.Builtin.Str renaming occurrences->aj9
open PySem.Builtin.Tuple renaming tupleCompareSizes->aju,tupleExact->aj3,tupleItemsOf->alO
open PySem.Calls renaming callWith_builtin->ako,spliced_cons->akQ,evalArgs_plain->alk,Name_function_global->alL,spliced_nil->alS
open PySem.F renaming plain_max_loop->ain,entry_max_loop->ajp,slot_dict_get->ajO,slot_tuple_iterator_next->ajR,slot_list_append->aj7,type_list_append->aj8,entry_dict_get->ak1,slot_zip_next->alp,args_tuple_iterator_next_1->alx,entry_tuple_iterator_next->alJ,slot_dict_getitem->alZ,args_tuple_lt_2->amf,args_dict_get_3->amg,plainAttrs_dict->amh,plainAttrs_list->amj,entry_tuple_lt->ams,slot_tuple_lt->amx,type_dict_get->amy
open PySem.Heap renaming get?_push_of_some->ahI,get?_push_size->ahU,lt_size->ahY,get?_push_ne->ajU,size_push->ajY,SameBut->alh,size_update->amd,IsTuple->ame,get?_update_other->amu
open PySem.Heap.IsTuple renaming push->amR
open PySem.Heap.SameBut renaming update->ai1
open PySem.NameKind renaming free->akE,cell->alP
open PySem.Obj renaming mapSeq->aim
open PySem.Paired renaming length->amF
open PySem.PassesOwn renaming never->akk
open PySem.PyData renaming strOk->ah9,eqv->amB
open PySem.SeqAt renaming shaped->amO
open PySem.SeqAt.EqAt renaming int_str->amK,str_int->amL,int_int->amN
open PySem.Shared renaming heap->ak4
open PySem.Str renaming ofString->ah3
open PySem.Value renaming ref->aid,isStrOf->aiN,none->aiX,bool->akb,notImplemented->akC,type->akW,int->ala,str->alz
open PySem.W renaming mg_none_of->aif,fnOf->ajt,keepIn->ajG,findIn->ajQ,emptyDict->ajX,instObj->akP,nsIn->ak2,codeIn->alu,mg_of->alw,kia_one->alD,kia_tup->alK,plainGet->alY,callWith_K->al9,cellsFrom_some->ama,methodCall_KW->amm,hasDictIn->amr
open PySem.Walks renaming list->amC
open Sum renaming inl->al4,inr->al5
open True renaming intro->aja
abbrev aP:=PySem.W.Frag
abbrev bk:=PySem.Str->Option PySem.Value
abbrev cu:=PySem.Value->PySem.Shared->Prop
abbrev cP:=List (PySem.Addr×PySem.Obj)
noncomputable section
namespace aF
open PySem PySem.Spec PyProof.Rows
abbrev Key:=Sum Int Str
def r4:Key->Value->Bool
 |.inl k,v=>Value.isInt k v|.inr x,v=>aiN x v
def W_(w:World):Key->Int
 |.inl k=>hashInt k|.inr x=>hashStr w x
theorem n2:∀{k:Key}{v:Value},r4 k v=true->(∃i t,k=al4 i/\v=ala i t)\/(∃x t,k=al5 x/\v=alz x t)
 |.inl i,v,h=>by
  obtain⟨t,e⟩:=Value.isInt_shape (k:=i) (v:=v) h;exact .inl ⟨i,t,rfl,e⟩
 |.inr x,v,h=>by
  obtain⟨t,e⟩:=Value.isStrOf_shape (x:=x) (v:=v) h;exact .inr ⟨x,t,rfl,e⟩
theorem W'(i:Int)(t:Tok):r4 (.inl i) (.int i t)=true:=by simp[r4,Value.isInt]
theorem Xa(x:Str)(t:Tok):r4 (.inr x) (.str x t)=true:=by simp[r4,aiN]
theorem Xb(a b:Int):decide ((al4 a:Key)=al4 b)=(a==b):=by
 by_cases e:a=b
 ·subst e;simp
 ·have h:¬(al4 a:Key)=al4 b:=fun q=>e (Sum.inl.inj q)
  rw[decide_eq_false h];exact(beq_eq_false_iff_ne.mpr e).symm
theorem Xe(a b:Str):decide ((al5 a:Key)=al5 b)=decide (a=b):=by
 by_cases e:a=b
 ·subst e;simp
 ·have h:¬(al5 a:Key)=al5 b:=fun q=>e (Sum.inr.inj q)
  rw[decide_eq_false h,decide_eq_false e]
theorem Xc(a:Int)(b:Str):decide ((al4 a:Key)=al5 b)=false:=decide_eq_false (fun q=>nomatch q)
theorem Xd(a:Str)(b:Int):decide ((al5 a:Key)=al4 b)=false:=decide_eq_false (fun q=>nomatch q)
def iQ(prog:ah1)(w:World):KeyKind prog w Key where
 is:=r4
 hash:=W_ w
 inj:=fun v a b ao aa=>by
  rcases n2 ao with⟨i,t,rfl,rfl⟩ | ⟨x,t,rfl,rfl⟩
  ·rcases n2 aa with⟨j,u,rfl,e⟩ | ⟨y,u,rfl,e⟩
   ·injection e with aq _;rw[aq]
   ·exact nomatch e
  ·rcases n2 aa with⟨j,u,rfl,e⟩ | ⟨y,u,rfl,e⟩
   ·exact nomatch e
   ·injection e with aq _;rw[aq]
 byValue:=fun k v h=>by
  rcases n2 h with⟨i,t,rfl,rfl⟩ | ⟨x,t,rfl,rfl⟩<;>rfl
 pyHash:=fun bz h=>by
  rcases n2 bz with⟨i,t,rfl,rfl⟩ | ⟨x,t,rfl,rfl⟩
  ·exact wpAny_pyHash_int h
  ·exact wpAny_pyHash_str h
 eqBool:=fun cb bz h=>by
  rcases n2 cb with⟨i,t,rfl,rfl⟩ | ⟨x,t,rfl,rfl⟩
  ·rcases n2 bz with⟨j,u,rfl,rfl⟩ | ⟨y,u,rfl,rfl⟩
   ·rw[Xb]at h;exact wpAny_eqBool_int h
   ·rw[Xc]at h;exact amK i t y u _ _ _ _ h
  ·rcases n2 bz with⟨j,u,rfl,rfl⟩ | ⟨y,u,rfl,rfl⟩
   ·rw[Xd]at h;exact amL x t j u _ _ _ _ h
   ·rw[Xe]at h;exact wpAny_eqBool_str h
 «strs»:=fun k x t v h=>by
  rcases n2 h with⟨i,u,rfl,e⟩ | ⟨y,u,rfl,e⟩
  ·exact nomatch e
  ·injection e with aq _
   subst aq;cases v<;>rfl
theorem X8(prog:ah1)(w:World)(i:Int)(t:Tok):(iQ prog w).is (.inl i) (.int i t)=true:=W' i t
theorem X9(prog:ah1)(w:World)(x:Str)(t:Tok):(iQ prog w).is (.inr x) (.str x t)=true:=Xa x t
inductive V where
 |aW | aA (b:Bool) | int (i:Int) | str (x:Str) | wH (b:Array UInt8) | w_ (b:UInt64) | ref (a:Addr) | ty (n:String)
 deriving DecidableEq
def RelV:V->Value->Prop
 |.aW,u=>u=aiX|.aA b,u=>u=akb b|.int i,u=>∃t,u=ala i t|.str x,u=>∃t,u=alz x t|.wH b,u=>∃t,u=Value.bytes b t|.w_ b,u=>∃t,u=Value.float b t|.ref a,u=>u=aid a|.ty n,u=>u=akW n
abbrev Vals:List V->List Value->Prop:=ak0 RelV
theorem Vals.length{xs:List V}{us:List Value}(r:Vals xs us):xs.length=us.length:=amF r
theorem Vals.get:∀{xs:List V}{us:List Value}{i:Nat}{x:V},Vals xs us->xs[i]? = some x->∃u,us[i]? = some u/\RelV x u
 | _,_,_,_,.nil,e=>by simp at e| _,_,0,_,.cons r _,e=>by simp at e;subst e;exact⟨_,rfl,r⟩|_,_,i+1,x,.cons _ t,e=>by
  obtain⟨u,ae,ag⟩:=Vals.get (i:=i) (x:=x) t (by simpa using e);exact⟨u,by simpa using ae,ag⟩
theorem Vals.append:∀{xs ys:List V}{us ws:List Value},Vals xs us->Vals ys ws->Vals (xs++ys) (us++ws)
 |_,_,_,_,.nil,s=>s|_,_,_,_,.cons r t,s=>.cons r (Vals.append t s)
theorem Vals.take:∀{xs:List V}{us:List Value}(n:Nat),Vals xs us->Vals (xs.take n) (us.take n)
 |_,_,0,_=>.nil|_,_,_+1,.nil=>.nil|_,_,n+1,.cons r t=>.cons r (Vals.take n t)
theorem Vals.drop:∀{xs:List V}{us:List Value}(n:Nat),Vals xs us->Vals (xs.drop n) (us.drop n)
 |_,_,0,r=>r|_,_,_+1,.nil=>.nil|_,_,n+1,.cons _ t=>Vals.drop n t
def ig:Option V->Option Value->Prop
 |some v,some u=>RelV v u|none,none=>True|_,_=>False
def fV{κ:Type}:List (κ×V)->List (κ×Value)->Prop:=ak0 fun(p:κ×V) (q:κ×Value)=>p.1=q.1/\RelV p.2 q.2
def cw:Key->V
 |.inl i=>.int i|.inr x=>.str x
inductive gx where
 |lst (xs:List V)
 |tup (xs:List V)
 |e7 (aw:List (Key×V)) | g_ (aw:List (List Key×V))
 |set (S:Int->Bool) (n:Nat)
 |ins (C bV:Addr) (aV:List (Str×V))
 |own (x:Addr)
 |Ej (aV:List (Str×V))
 |met (f x:Addr)
 |vf (lo ay:Int)
 |bW (o:Obj) (u:gx)
 |f5 (ps:Array Value)
 |ext (pQ:Heap->Prop)
abbrev av:=Addr->Option gx
def upd(H:av)(a:Addr)(o:gx):av:=fun b=>if b=a then some o else H b
theorem de:upd H a o a=some o:=by unfold upd;rw[if_pos rfl]
theorem cX{H:av}(h:b≠a):upd H a o b=H b:=by unfold upd;rw[if_neg h]
theorem adi:upd (upd H a o) a u=upd H a u:=by
 funext b;unfold upd;split<;>rfl
theorem CK{H:av}(h:H a=some o)(h':H b=some u)(d:o≠u):a≠b:=by
 intro e;subst e;rw[h]at h';exact d (aih h')
theorem j7{H:av}(h:H a=some o)(h':H b=none):a≠b:=by
 intro e;subst e;rw[h]at h';cases h'
section
variable(P:ah1)(w:World)
def gz(H:av)(h:Heap)(a:Addr):gx->Prop
 |.lst xs=>xs.length<=ahQ/\∃(its:List Value)(n:Nat),Vals xs its/\h.get? a=some { cls:=.type "list",data:=.seq its.toArray n }|.tup xs=>xs.length<=ahQ/\∃its:List Value,Vals xs its/\IsTup h a its.toArray|.e7 aw=>aw.length<=ahQ/\(a==ajq)=false/\∃vs,fV aw vs/\h.DictOf (iQ P w) a vs|.g_ aw=>aw.length<=ahQ/\(a==ajq)=false/\∃xs:List (List Key×Addr×Value),
   ak0 (fun(p:List Key×V) (q:List Key×Addr×Value)=>p.1=q.1/\H q.2.1=some (.tup (p.1.map cw))/\RelV p.2 q.2.2) aw xs/\
   ∃o ax cI,h.get? a=some o/\o.ExactDict/\o.data=.dict ax cI/\ax.toList=xs.map (entryOfKey (alA (iQ P w)))/\(xs.map (·.1)).Nodup
 |.set S n=>h.SetOf (intKind P w) a S n|.ins C bV aV=>H bV=some (.own a)/\aV.length<=1000/\bV≠a/\h.get? a=some (akP C bV)/\
   ∃d7,h.Ns1 bV d7/\(∀f,ig (aV.lookup f) (d7 f))/\Within d7 (aV.map (·.1))
 |.own _=>∃o,h.get? a=some o|.Ej aV=>∃d7,h.Ns1 a d7/\∀f,ig (aV.lookup f) (d7 f)|.vf lo ay=>∃t u v,h.get? a=some { cls:=.type "range",data:=.fields #[.int lo t,.int ay u,.int 1 v] }|.bW o u=>h.get? a=some o/\gz H h a u|.f5 ps=>h.get? a=some { cls:=.none,data:=.fields ps }|.met f x=>h.get? a=some (W.methodObj (.ref f) (.ref x))|.ext pQ=>pQ h/\(∃o,h.get? a=some o)/\∀ae ag:Heap,pQ ae->(∀o,ae.get? a=some o->ag.get? a=some o)->pQ ag
def e4(H:av)(h:Heap):Prop:=∀a o,H a=some o->gz P w H h a o
end
section
variable{P:ah1}{w:World}{H H':av}{h h':Heap}{a:Addr}{o:gx}
theorem gz.lt(x:gz P w H h a o):a<h.objs.size:=by
 cases o with
 |lst xs=>obtain⟨_,_,_,_,e⟩:=x;exact ahY e
 |tup xs=>obtain⟨_,_,_,p⟩:=x;exact p.lt
 |e7 aw=>obtain⟨_,_,_,_,o,_,_,e,_⟩:=x;exact ahY e
 |g_ aw=>obtain⟨_,_,_,_,o,_,_,e,_⟩:=x;exact ahY e
 |set S n=>obtain⟨o,_,_,_,e,_⟩:=x;exact ahY e
 |ins C bV aV=>obtain⟨_,_,_,e,_⟩:=x;exact ahY e
 |own y=>obtain⟨_,e⟩:=x;exact ahY e
 |Ej aV=>obtain⟨_,⟨_,_,_,e,_⟩,_⟩:=x;exact ahY e
 |vf lo ay=>obtain⟨_,_,_,e⟩:=x;exact ahY e
 |bW bA u=>obtain⟨e,_⟩:=x;exact ahY e
 |f5 ps=>exact ahY (show h.get? a=some _ from x)|met f y=>exact ahY (show h.get? a=some _ from x)|ext pQ=>obtain⟨_,⟨_,e⟩,_⟩:=x;exact ahY e
theorem ak0.Cz{α β:Type}{F G:α->β->Prop}:∀{pe:List α}{l₂:List β},ak0 F pe l₂->(∀a b,F a b->G a b)->ak0 G pe l₂
 |_,_,.nil,_=>.nil|_,_,.cons r t,f=>.cons (f _ _ r) (ak0.Cz t f)
theorem gz.q3(x:gz P w H h a o)(k:∀b u,(b=a\/H b=some (.own a))->h.get? b=some u->h'.get? b=some u)
  (bc:∀b,H b=some (.own a)->H' b=some (.own a)) (bG:∀b xs,H b=some (.tup xs)->H' b=some (.tup xs)):gz P w H' h' a o:=by
 induction o with
 |lst xs=>obtain⟨z,its,n,r,e⟩:=x;exact⟨z,its,n,r,k _ _ (.inl rfl) e⟩
 |tup xs=>obtain⟨z,its,r,bA,e,c⟩:=x;exact⟨z,its,r,bA,k _ _ (.inl rfl) e,c⟩
 |e7 aw=>obtain⟨z,y,vs,r,bA,ax,cI,e,c⟩:=x;exact⟨z,y,vs,r,bA,ax,cI,k _ _ (.inl rfl) e,c⟩
 |g_ aw=>
  obtain⟨z,y,xs,r,bA,ax,cI,e,c⟩:=x;exact⟨z,y,xs,ak0.Cz r fun p q z=>⟨z.1,bG _ _ z.2.1,z.2.2⟩,bA,ax,cI,k _ _ (.inl rfl) e,c⟩
 |set S n=>obtain⟨bA,ax,cI,t,e,c⟩:=x;exact⟨bA,ax,cI,t,k _ _ (.inl rfl) e,c⟩
 |ins C bV aV=>
  obtain⟨d,z,ne,e,d7,⟨c1,ax,cI,aD,c⟩,r⟩:=x;exact⟨bc _ d,z,ne,k _ _ (.inl rfl) e,d7,⟨c1,ax,cI,k _ _ (.inr d) aD,c⟩,r⟩
 |own y=>obtain⟨bA,e⟩:=x;exact⟨bA,k _ _ (.inl rfl) e⟩
 |Ej aV=>obtain⟨d7,⟨c1,ax,cI,e,c⟩,r⟩:=x;exact⟨d7,⟨c1,ax,cI,k _ _ (.inl rfl) e,c⟩,r⟩
 |vf lo ay=>obtain⟨t,u,v,e⟩:=x;exact⟨t,u,v,k _ _ (.inl rfl) e⟩
 |bW bA u a9=>obtain⟨e,q⟩:=x;exact⟨k _ _ (.inl rfl) e,a9 q⟩
 |f5 ps=>
  have e:h.get? a=some { cls:=.none,data:=.fields ps }:=x;show h'.get? a=some { cls:=.none,data:=.fields ps };exact k a _ (.inl rfl) e
 |met f y=>
  have e:h.get? a=some (W.methodObj (.ref f) (.ref y)):=x;show h'.get? a=some (W.methodObj (.ref f) (.ref y));exact k a _ (.inl rfl) e
 |ext pQ=>obtain⟨p,⟨o,e⟩,st⟩:=x;exact⟨st _ _ p fun o q=>k _ _ (.inl rfl) q,⟨o,k _ _ (.inl rfl) e⟩,st⟩
theorem e4.lt(x:e4 P w H h)(e:H a=some o):a<h.objs.size:=(x a o e).lt
theorem e4.fresh(x:e4 P w H h)(e:h.objs.size<=a):H a=none:=by
 cases q:H a with
 |none=>rfl|some u=>exact absurd (aio (x.lt q) e) (aii _)
theorem e4.kept(x:e4 P w H h)(k:∀b u,h.get? b=some u->h'.get? b=some u):e4 P w H h':=fun a o e=>
 (x a o e).q3 (fun b u _ q=>k b u q) (fun _ q=>q) fun _ _ q=>q
theorem e4.laid(x:e4 P w H h)(k:∀b u,h.get? b=some u->h'.get? b=some u)(aI:h.objs.size<=a)(new:gz P w (upd H a o) h' a o):e4 P w (upd H a o) h':=fun b u e=>by
 have aH:=x.fresh aI
 by_cases aa:b=a
 ·subst aa;rw[de]at e;cases e;exact new
 ·rw[cX aa]at e
  exact(x b u e).q3 (fun c v _ q=>k c v q) (fun c q=>by rw[cX (j7 q aH)];exact q) fun c xs q=>by rw[cX (j7 q aH)];exact q
end
def fH(H:av)(a:Addr)(u:gx):Prop:=H a=some u\/∃o,H a=some (.bW o u)
theorem fH.ok(r:fH H a u)(x:e4 P w H h):gz P w H h a u:=by
 rcases r with r | ⟨o,r⟩
 ·exact x a u r
 ·obtain⟨_,q⟩:=x a _ r
  exact q
def tg:Option gx->Prop
 |some (.lst _)=>True|some (.e7 _)=>True|some (.g_ _)=>True|some (.set _ _)=>True|some (.ins _ _ _)=>True|some (.ext _)=>True|_=>False
section
variable{P:ah1}{w:World}{H:av}{h h':Heap}{x e:Addr}{o':gx}
theorem e4.write(ok:e4 P w H h)(j6:tg (H x))(he:e=x\/H e=some (.own x))(k:∀b u,b≠e->h.get? b=some u->h'.get? b=some u)(rW:∃u,h'.get? e=some u)
  (new:gz P w (upd H x o') h' x o'):e4 P w (upd H x o') h':=fun b u q=>by
 have Ko:∀c y,H c=some (.own y)->c≠x:=fun c y r z=>by subst z;rw[r]at j6;exact j6
 have YA:∀c xs,H c=some (.tup xs)->c≠x:=fun c xs r z=>by subst z;rw[r]at j6;exact j6
 by_cases aa:b=x
 ·subst aa;rw[de]at q;cases q;exact new
 ·rw[cX aa]at q
  by_cases qi:b=e
  ·have eA:H b=some (.own x):=by
    rcases he with z | z
    ·exact absurd (qi.trans z) aa
    ·rw[qi];exact z
   rw[q]at eA;cases eA;obtain⟨v,bz⟩:=rW;exact⟨v,by rw[qi];exact bz⟩
  ·refine(ok b u q).q3 (fun c v aE r=>k c v ?_ r) (fun c r=>by rw[cX (Ko c b r)];exact r) fun c xs r=>by rw[cX (YA c xs r)];exact r
   rcases aE with rfl | aE
   ·exact qi
   ·rintro rfl
    rcases he with z | z
    ·exact Ko c b aE z
    ·rw[aE]at z;cases z;exact aa rfl
end
structure gA(aV ex:List Addr)(H H':av)(h h':Heap):Prop where
 keep:∀b o,h.get? b=some o->H b=none->b∉aV->b∉ex->h'.get? b=some o
 slot:∀b o,h.get? b=some o->H b=none->b∈aV->b∉ex->∃cA,h'.get? b=some { o with slots:=cA }
 free:∀b o,h.get? b=some o->H b=none->b∉ex->H' b=none
 there:∀b o,h.get? b=some o->b∉ex->∃o',h'.get? b=some o'
 pJ:∀b xs,H b=some (.tup xs)->H' b=some (.tup xs)
 nM:∀b o u,H b=some (.bW o u)->H' b=some (.bW o u)
 oo:∀b ps,H b=some (.f5 ps)->∃more,H' b=some (.f5 (ps++more))
section
variable{aV ex:List Addr}{H H1:av}{h ae h':Heap}{a x e:Addr}{o:gx}
theorem gA.any(u:gA aV ex H H1 h ae)(q:h.get? b=some bA)(n:H b=none)(ah:b∉ex):∃cA,ae.get? b=some { bA with slots:=cA }:=by
 by_cases aa:b∈aV
 ·exact u.slot b bA q n aa ah
 ·exact⟨bA.slots,u.keep b bA q n aa ah⟩
theorem gA.kept(k:∀b u,h.get? b=some u->h'.get? b=some u):gA aV ex H H h h':=
 ⟨fun b bA q _ _ _=>k b bA q,fun b bA q _ _ _=>⟨bA.slots,k b bA q⟩,fun _ _ _ n _=>n,fun b bA q _=>⟨bA,k b bA q⟩,fun _ _ q=>q,fun _ _ _ q=>q,fun _ ps q=>⟨#[],by rw[q];simp⟩⟩
theorem gA.refl:gA aV ex H H h h:=gA.kept fun _ _ q=>q
theorem gA.laid(k:∀b u,h.get? b=some u->h'.get? b=some u)(aI:h.objs.size<=a)(aH:H a=none):gA aV ex H (upd H a o) h h' where
 keep:=fun b u q _ _ _=>k b u q
 slot:=fun b u q _ _ _=>⟨u.slots,k b u q⟩
 free:=fun b u q n _=>by rw[cX (ah5 (aio (ahY q) aI))];exact n
 there:=fun b u q _=>⟨u,k b u q⟩
 pJ:=fun b xs q=>by rw[cX (j7 q aH)];exact q
 nM:=fun b u xs q=>by rw[cX (j7 q aH)];exact q
 oo:=fun b ps q=>⟨#[],by rw[cX (j7 q aH),q];simp⟩
theorem gA.write(j6:tg (H x))(he:e=x\/H e=some (.own x))(k:∀b u,b≠e->h.get? b=some u->h'.get? b=some u)(rW:∃u,h'.get? e=some u):gA aV ex H (upd H x o) h h':=by
 have ah:∀b,H b=none->b≠x:=fun b n z=>by subst z;rw[n]at j6;exact j6
 have aa:∀b,H b=none->b≠e:=fun b n z=>by
  subst z;rcases he with r | r
  ·exact ah b n r
  ·rw[n]at r;cases r
 have hm:∀b u,H b=some u->¬tg (some u)->b≠x:=fun b u q nm z=>by subst z;rw[q]at j6;exact nm j6
 refine⟨fun b u q n _ _=>k b u (aa b n) q,fun b u q n _ _=>⟨u.slots,k b u (aa b n) q⟩,fun b u q n _=>by rw[cX (ah b n)];exact n,fun b u q _=>?_,
  fun b xs q=>by rw[cX (hm b _ q fun z=>z)];exact q,fun b u xs q=>by rw[cX (hm b _ q fun z=>z)];exact q,fun b ps q=>⟨#[],by rw[cX (hm b _ q fun z=>z),q];simp⟩⟩
 by_cases qi:b=e
 ·subst qi;exact rW
 ·exact⟨u,k b u qi q⟩
end
def y4(h:Heap)(H:av):List Addr:=(aiz h.objs.size).filter fun a=>(H a).isSome
def nU(h:Heap)(H:av):Heap:=W.hideAll h (y4 h H)
theorem VE(h:Heap)(H:av):(nU h H).objs.size=h.objs.size:=W.hideAll_size _ _
theorem Bt{h:Heap}{H:av}(e:h.get? b=some o)(n:H b=none):(nU h H).get? b=some o:=
 W.hideAll_get _ e fun hm=>by
  have q:(H b).isSome=true:=(ajM.mp hm).2;rw[n]at q;simp at q
theorem YI{h:Heap}{H:av}(e:(nU h H).get? b=some o):h.get? b=some o/\H b=none:=by
 have cf:h.get? b=some o:=W.of_hideAll (y4 h H) e;refine⟨cf,?_⟩
 cases q:H b with
 |none=>rfl|some x=>
  have hm:b∈y4 h H:=ajM.mpr ⟨ai4.mpr (ahY cf),by simp[q]⟩;have z:(nU h H).get? b=none:=W.hideAll_none (y4 h H) hm;rw[z]at e;cases e
def Ow(g h:Heap)(L:Addr):List (Addr×Obj):=(aiz h.objs.size).filterMap fun a=>if a=L\/(g.get? a).isSome=true then none else(h.get? a).map fun o=>(a,o)
def rest(g h:Heap)(L d:Addr):List (Addr×Obj):=(Ow g h L).filter fun p=>decide (p.1≠d)
structure Mod(K:aP)(mg:bk)(base:Heap):Prop where
 r5:K.In base
 glob:base.Ns aik mg
 blt:∃c0,base.Ns alX c0/\∀x:Str,x≠"__name__"->c0 x=aiC x
 nolimit:base.NoLimit
structure aQ where
 prog:ah1
 w:World
 K:aP
 mg:Str->Option Value
 base:Heap
 A:ah6
 N:List Str
 gN:ahL
 H₀:av
 env:Env
 outer:List Env
 stack:List Env
 ex:List Addr
 fn:Str->Bool
 calm:Bool
 nd:List (Addr×Obj)
 dA:Value->ahL->Prop
def lQ(l:List Env):List Addr:=l.filterMap (·.frame)
abbrev aQ.aV(X:aQ):List Addr:=lQ X.outer
def p0(sc:Scope)(x:Str):Prop:=sc.names.lookup x=some .local\/sc.names.lookup x=some .cell\/sc.names.lookup x=some .free
def Loc(sc:Scope)(x:Str):Prop:=sc.names.lookup x=some .local\/sc.names.lookup x=some .cell
def Look(env:Env)(h:Heap)(m:bk)(x:Str)(u:Value):Prop:=
 (env.kindOf x=some .local/\m x=some u)\/((env.kindOf x=some .cell\/env.kindOf x=some .free)/\∃c,env.cells.lookup x=some c/\h.IsCell c (some u))
structure aQ.Ok(X:aQ):Prop where
 mod:Mod X.K X.mg X.base
 kind:X.env.scope.kind=.function
 glob:X.env.globals=aik
 blt:X.env.builtins=alX
 above:X.gN.heap.objs.size<=X.env.locals
 inj:∀x y c,X.env.cells.lookup x=some c->X.env.cells.lookup y=some c->x=y
 has:∀x,(X.env.kindOf x=some .cell\/X.env.kindOf x=some .free)->∃c,X.env.cells.lookup x=some c
 tF:∀x c,X.fn x=true->X.env.cells.lookup x=some c->X.gN.heap.objs.size<=c
 hd:X.calm=true->X.A.handled=none
 frames:X.A.frames=some X.stack
 yU:X.stack=X.outer\/(X.stack=X.env::X.outer/\X.env.frame=some X.env.locals)
 w7:∀b∈X.ex,b≠X.env.locals/\∀x c,X.env.cells.lookup x=some c->c≠b
 bs:∀b o,X.base.get? b=some o->X.gN.heap.get? b=some o/\X.H₀ b=none
 lE:X.base.objs.size<=X.gN.heap.objs.size
 uW:∀b o,X.base.get? b=some o->b∉X.ex
 tM:∀b∈X.ex,b∉X.aV
 kn:X.gN.heap.FunFrames X.base X.outer
 oV:∀b∈X.aV,X.H₀ b=none
structure Inv(X:aQ)(pinZ:cP)(σ:List (Option V))(H:av)(s:ahL):Prop where
 ok:X.Ok
 os:s.os=X.gN.os
 bare:alb s.gens
 base:gA X.aV X.ex X.H₀ H X.gN.heap s.heap
 loc:∃m,s.heap.Ns X.env.locals m/\∀(i:Nat)(x:Str)(v:V),X.N[i]? = some x->σ[i]? = some (some v)->p0 X.env.scope x->∃u,RelV v u/\Look X.env s.heap m x u
 cell:∀x c,X.env.cells.lookup x=some c->∃v,s.heap.IsCell c v
 free:H X.env.locals=none
 lP:∀x c,X.env.cells.lookup x=some c->H c=none
 pin:∀p∈X.nd++pinZ,s.heap.get? p.1=some p.2/\H p.1=none/\p.1≠X.env.locals/\p.1∉X.aV/\∀v,p.2.data≠.cell v
 bF:e4 X.prog X.w H s.heap
 len:σ.length=X.N.length
section
variable{X:aQ}{pinZ:cP}{σ:List (Option V)}{H H':av}{s:ahL}{h':Heap}
theorem aQ.Ok.Yu(ok:X.Ok)(e:X.base.get? b=some o):b∉X.aV:=fun aa=>by
 have:=(ok.kn.mem aa).1;rw[e]at this;cases this
theorem Inv.bs(I:Inv X pinZ σ H s):∀b o,X.base.get? b=some o->s.heap.get? b=some o/\H b=none:=fun b o e=>
 ⟨I.base.keep b o (I.ok.bs b o e).1 (I.ok.bs b o e).2 (I.ok.Yu e) (I.ok.uW b o e),I.base.free b o (I.ok.bs b o e).1 (I.ok.bs b o e).2 (I.ok.uW b o e)⟩
theorem Inv.eP(I:Inv X pinZ σ H s):∀b o,X.base.get? b=some o->s.heap.get? b=some o:=fun b o e=>(I.bs b o e).1
theorem Inv.mod(I:Inv X pinZ σ H s):Mod X.K X.mg X.base:=I.ok.mod
theorem Inv.eZ(I:Inv X pinZ σ H s):X.K.In s.heap:=I.ok.mod.r5.keeps I.eP
theorem Inv.fr(I:Inv X pinZ σ H s):∃m,Fr X.base X.env.locals s.heap m:=
 let⟨m,aH,_⟩:=I.loc
 ⟨m,aH,I.eP,aiS I.ok.lE I.ok.above⟩
theorem Inv.lt(I:Inv X pinZ σ H s):X.env.locals<s.heap.objs.size:=let⟨_,aH,_⟩:=I.loc;aH.lt
theorem Inv.ll(I:Inv X pinZ σ H s):X.gN.heap.objs.size<=s.heap.objs.size:=aiS I.ok.above (ai5 I.lt)
theorem Inv.Yw(I:Inv X pinZ σ H s)(h:s.heap.objs.size<=a):a∉X.aV:=fun aa=>by
 obtain⟨_,o,bc,_⟩:=I.ok.kn.mem aa;exact absurd (aio (ahY bc) (aiS I.ll h)) (aii _)
theorem Inv.p6(I:Inv X pinZ σ H s):∀x c,X.env.cells.lookup x=some c->c≠X.env.locals:=fun x c e z=>by
 obtain⟨v,o,bc,hd⟩:=I.cell x c e;obtain⟨m,⟨o',ax,cI,hZ,ub,_⟩,_⟩:=I.loc;rw[z,hZ]at bc;cases bc;rw[ub]at hd;cases hd
theorem Inv.kn(I:Inv X pinZ σ H s):s.heap.FunFrames X.base X.outer:=by
 have all:∀(l:List Env),(∀b∈lQ l,b∈X.aV)->X.gN.heap.FunFrames X.base l->s.heap.FunFrames X.base l:=by
  intro l
  induction l with
  |nil=>intro _ _;trivial|cons env r a9=>
   intro aC aj;obtain⟨az,⟨L,o,hf,aH,bc,hd⟩,aG⟩:=aj;have k5:L∈X.aV:=aC L (by unfold lQ;rw[als,hf];exact ah0);obtain⟨cA,e⟩:=I.base.slot L o bc (I.ok.oV L k5) k5 fun z=>I.ok.tM L z k5
   exact⟨az,⟨L,_,hf,aH,e,hd⟩,a9 (fun b aa=>aC b (by unfold lQ;rw[als,hf];exact ahR _ aa)) aG⟩
 exact all X.outer (fun _ aa=>aa) I.ok.kn
theorem Inv.stack(I:Inv X pinZ σ H s):s.heap.FunFrames X.base X.stack:=by
 rcases I.ok.yU with e | ⟨e,hf⟩
 ·rw[e];exact I.kn
 ·rw[e]
  obtain⟨m,aH,_⟩:=I.loc;refine .cons (by rw[I.ok.kind];decide) hf aH ?_ I.kn;exact Heap.get?_none_of_le (aiS I.ok.lE I.ok.above)
theorem Inv.DR(I:Inv X pinZ σ H s):∀b∈lQ X.stack,b∈X.env.locals::X.aV:=fun b aa=>by
 rcases I.ok.yU with e | ⟨e,hf⟩
 ·rw[e]at aa;exact ahR _ aa
 ·rw[e]at aa
  unfold lQ at aa;rw[als,hf]at aa;exact aa
theorem Inv.MG(I:Inv X pinZ σ H s):∀b∈lQ X.stack,H b=none:=fun b aa=>by
 rcases ahP.mp (I.DR b aa)with e | aa
 ·rw[e];exact I.free
 ·obtain⟨_,o,bc,_⟩:=I.ok.kn.mem aa
  exact I.base.free b o bc (I.ok.oV b aa) fun z=>I.ok.tM b z aa
theorem Inv.step{g':Array GenState}{t':Nat}{d':Drawn}{ch:List Addr}(I:Inv X pinZ σ H s)
  (mS:∀b∈ch,(b∈X.ex\/X.gN.heap.objs.size<=b)/\b≠X.env.locals/\(∀x c,X.env.cells.lookup x=some c->c≠b)/\∀p∈X.nd++pinZ,p.1≠b)
  (keep:∀b o,b≠X.env.locals->b∉X.aV->b∉ch->s.heap.get? b=some o->H b=none->h'.get? b=some o)
  (slot:∀b o,b≠X.env.locals->b∈X.aV->b∉ch->s.heap.get? b=some o->H b=none->∃cA,h'.get? b=some { o with slots:=cA }) (free:∀b o,b∉ch->s.heap.get? b=some o->H b=none->H' b=none)
  (there:∀b o,b∉ch->s.heap.get? b=some o->∃o',h'.get? b=some o')
  (pJ:∀b xs,H b=some (.tup xs)->H' b=some (.tup xs)) (nM:∀b o u,H b=some (.bW o u)->H' b=some (.bW o u)) (oo:∀b ps,H b=some (.f5 ps)->∃more,H' b=some (.f5 (ps++more)))
  (ns:∀m,s.heap.Ns X.env.locals m->h'.Ns X.env.locals m) (bF:e4 X.prog X.w H' h') (aS:alb g') :
  Inv X pinZ σ H' { s with heap:=h',gens:=g',drawn:=d',toks:=t' }:=by
 have Kg:∀b o,X.gN.heap.get? b=some o->b≠X.env.locals:=fun b o e=>ah5 (aio (ahY e) I.ok.above)
 have yo:∀b o,X.gN.heap.get? b=some o->b∉X.ex->b∉ch:=fun b o e ah aa=>by
  rcases(mS b aa).1 with z | z
  ·exact ah z
  ·exact absurd (aio (ahY e) z) (aii _)
 have cellK:∀x c,X.env.cells.lookup x=some c->∀v,s.heap.IsCell c v->h'.IsCell c v:=fun x c e v aX=>by
  obtain⟨o,bc,hd⟩:=aX;have uS:c∉ch:=fun z=>(mS c z).2.2.1 x c e rfl
  by_cases aE:c∈X.aV
  ·obtain⟨cA,q⟩:=slot c o (I.p6 x c e) aE uS bc (I.lP x c e)
   exact⟨_,q,hd⟩
  ·exact⟨o,keep c o (I.p6 x c e) aE uS bc (I.lP x c e),hd⟩
 refine⟨I.ok,I.os,aS,⟨fun b o e n aa ah=>?_,fun b o e n aa ah=>?_,fun b o e n ah=>?_,fun b o e ah=>?_,fun b xs e=>pJ b xs (I.base.pJ b xs e),fun b o xs e=>nM b o xs (I.base.nM b o xs e),fun b ps e=>?_⟩,?_,fun x c e=>?_,?_,fun x c e=>?_,fun p aI=>?_,bF,I.len⟩
 ·exact keep b o (Kg b o e) aa (yo b o e ah) (I.base.keep b o e n aa ah) (I.base.free b o e n ah)
 ·obtain⟨cA,aq⟩:=I.base.slot b o e n aa ah
  obtain⟨vq,aD⟩:=slot b _ (Kg b o e) aa (yo b o e ah) aq (I.base.free b o e n ah);exact⟨vq,aD⟩
 ·obtain⟨o',aq⟩:=I.base.there b o e ah
  exact free b o' (yo b o e ah) aq (I.base.free b o e n ah)
 ·obtain⟨o',aq⟩:=I.base.there b o e ah
  exact there b o' (yo b o e ah) aq
 ·obtain⟨mZ,aq⟩:=I.base.oo b ps e
  obtain⟨r',aD⟩:=oo b _ aq;exact⟨mZ++r',by rw[aD,Array.append_assoc]⟩
 ·obtain⟨m,aH,aj⟩:=I.loc
  refine⟨m,ns m aH,fun i x v aq aD cQ=>?_⟩;obtain⟨u,r,l⟩:=aj i x v aq aD cQ;refine⟨u,r,?_⟩;rcases l with l | ⟨k,c,e,z⟩
  ·exact .inl l
  ·exact .inr ⟨k,c,e,cellK x c e _ z⟩
 ·obtain⟨v,z⟩:=I.cell x c e
  exact⟨v,cellK x c e v z⟩
 ·obtain⟨m,⟨o,_,_,bc,_⟩,_⟩:=I.loc
  exact free _ o (fun z=>(mS _ z).2.1 rfl) bc I.free
 ·obtain⟨v,o,bc,hd⟩:=I.cell x c e
  exact free c o (fun z=>(mS c z).2.2.1 x c e rfl) bc (I.lP x c e)
 ·obtain⟨e,n,ne,pv,d⟩:=I.pin p aI
  have uS:p.1∉ch:=fun z=>(mS p.1 z).2.2.2 p aI rfl
  exact⟨keep p.1 p.2 ne pv uS e n,free p.1 p.2 uS e n,ne,pv,d⟩
theorem Inv.un{t':Nat}(I:Inv X pinZ σ H s)(u:gA X.aV [] H H' s.heap h')(bF:e4 X.prog X.w H' h'):Inv X pinZ σ H' { s with heap:=h',toks:=t' }:=by
 obtain⟨m,⟨o,ax,cI,bc,r⟩,_⟩:=id I.loc;obtain⟨cA,k5⟩:=u.any bc I.free (by simp);exact I.step (g':=s.gens) (d':=s.drawn) (ch:=[]) (fun _ z=>nomatch z) (fun b o _ aa _ e n=>u.keep b o e n aa (by simp)) (fun b o _ aa _ e n=>u.slot b o e n aa (by simp)) (fun b o _ e n=>u.free b o e n (by simp)) (fun b o _ e=>u.there b o e (by simp)) u.pJ u.nM u.oo (fun ee hm=>by
  obtain⟨o',AN,AI,hZ,bL⟩:=hm;rw[bc]at hZ;cases hZ;exact⟨_,AN,AI,k5,bL⟩) bF I.bare
theorem Inv.call{g':Array GenState}{t':Nat}{d':Drawn}{ch:List Addr}(I:Inv X pinZ σ H s)(u:gA (lQ X.stack) ch H H' s.heap h')(bF:e4 X.prog X.w H' h')(aS:alb g')
  (mS:∀b∈ch,(b∈X.ex\/X.gN.heap.objs.size<=b)/\b≠X.env.locals/\(∀x c,X.env.cells.lookup x=some c->c≠b)/\∀p∈X.nd++pinZ,p.1≠b) :
  Inv X pinZ σ H' { s with heap:=h',gens:=g',drawn:=d',toks:=t' }:=by
 obtain⟨m,⟨o,ax,cI,bc,r⟩,_⟩:=id I.loc;obtain⟨cA,k5⟩:=u.any bc I.free fun z=>(mS _ z).2.1 rfl
 exact I.step (ch:=ch) mS (fun b o k5 aa aE e n=>u.keep b o e n (fun z=>(ahP.mp (I.DR b z)).elim k5 aa) aE) (fun b o _ _ aE e n=>u.any e n aE) (fun b o aE e n=>u.free b o e n aE) (fun b o aE e=>u.there b o e aE) u.pJ u.nM u.oo (fun ee hm=>by
  obtain⟨o',AN,AI,hZ,bL⟩:=hm;rw[bc]at hZ;cases hZ;exact⟨_,AN,AI,k5,bL⟩) bF aS
theorem Inv.turned{t':Nat}{it:Addr}(I:Inv X pinZ σ H s)(k:∀b o,b≠it->s.heap.get? b=some o->h'.get? b=some o)(aH:H it=none)(k5:it≠X.env.locals)
  (ae:it∈X.ex\/X.gN.heap.objs.size<=it) (ag:∀x c,X.env.cells.lookup x=some c->c≠it) (bK:∀p∈X.nd++pinZ,p.1≠it):Inv X pinZ σ H { s with heap:=h',toks:=t' }:=by
 have uU:∀b u,H b=some u->b≠it:=fun b u e z=>by rw[z,aH]at e;cases e
 refine I.step (g':=s.gens) (d':=s.drawn) (ch:=[it]) (fun b aa=>?_) (fun b o _ _ aE e _=>k b o (fun z=>aE (by simp[z])) e) (fun b o _ _ aE e _=>⟨o.slots,k b o (fun z=>aE (by simp[z])) e⟩) (fun _ _ _ _ n=>n)
  (fun b o aE e=>⟨o,k b o (fun z=>aE (by simp[z])) e⟩) (fun _ _ e=>e) (fun _ _ _ e=>e) (fun b ps e=>⟨#[],by rw[e];simp⟩) (fun m hm=>?_) (fun b u e=>?_) I.bare
 ·have e:b=it:=by simpa using aa
  subst e;exact⟨ae,k5,ag,bK⟩
 ·obtain⟨o,ax,cI,bc,r⟩:=hm
  exact⟨o,ax,cI,k _ o (aks k5) bc,r⟩
 ·refine(I.bF b u e).q3 (fun c v aE q=>k c v ?_ q) (fun _ q=>q) fun _ _ q=>q
  rcases aE with z | z
  ·rw[z];exact uU b u e
  ·exact uU c _ z
theorem Inv.tok(I:Inv X pinZ σ H s)(t:Nat):Inv X pinZ σ H { s with toks:=t }:=I.un (h':=s.heap) (t':=t) gA.refl I.bF
theorem Inv.kept{t':Nat}(I:Inv X pinZ σ H s)(k:∀b u,s.heap.get? b=some u->h'.get? b=some u):Inv X pinZ σ H { s with heap:=h',toks:=t' }:=I.un (gA.kept k) (I.bF.kept k)
theorem Inv.laid{t':Nat}(I:Inv X pinZ σ H s)(k:∀b u,s.heap.get? b=some u->h'.get? b=some u)(aI:s.heap.objs.size<=a)(new:gz X.prog X.w (upd H a o) h' a o) :
  Inv X pinZ σ (upd H a o) { s with heap:=h',toks:=t' }:=I.un (gA.laid k aI (I.bF.fresh aI)) (I.bF.laid k aI new)
theorem Inv.write{x e:Addr}{o:gx}{t':Nat}(I:Inv X pinZ σ H s)(j6:tg (H x))(he:e=x\/H e=some (.own x))(k:∀b u,b≠e->s.heap.get? b=some u->h'.get? b=some u)(rW:∃u,h'.get? e=some u)
  (new:gz X.prog X.w (upd H x o) h' x o):Inv X pinZ σ (upd H x o) { s with heap:=h',toks:=t' }:=I.un (gA.write j6 he k rW) (I.bF.write j6 he k rW new)
theorem Inv.weak{σ':List (Option V)}(I:Inv X pinZ σ H s)(aj:σ'.length=σ.length)(w:∀(i:Nat) v,σ'[i]? = some (some v)->σ[i]? = some (some v)):Inv X pinZ σ' H s:=
 ⟨I.ok,I.os,I.bare,I.base,let⟨m,aH,VL⟩:=I.loc;⟨m,aH,fun i x v aq aD cQ=>VL i x v aq (w i v aD) cQ⟩,I.cell,I.free,I.lP,I.pin,I.bF,aj.trans I.len⟩
theorem Inv.KX(I:Inv X pinZ σ H s)(h:∀p∈ZU,s.heap.get? p.1=some p.2/\H p.1=none/\p.1≠X.env.locals/\p.1∉X.aV/\∀v,p.2.data≠.cell v):Inv X ZU σ H s:=
 ⟨I.ok,I.os,I.bare,I.base,I.loc,I.cell,I.free,I.lP,fun p aI=>(aiL.mp aI).elim (fun z=>I.pin p (alg _ z)) (h p),I.bF,I.len⟩
theorem Km{N:List Str}(hN:N.Nodup){i j:Nat}{x:Str}(a:N[i]? = some x)(b:N[j]? = some x):i=j:=by
 obtain⟨ae,aq⟩:=ahN.mp a;obtain⟨ag,aD⟩:=ahN.mp b;exact(List.getElem_inj hN).mp (aq.trans aD.symm)
theorem MI{M:Model}{A:ah6}{E:cu}{i:Nat}{x:Str}{v:V}{u:Value}{Q:Unit->ahL->Prop}(I:Inv X pinZ σ H s)(hN:X.N.Nodup)(ay:X.N[i]? = some x)(ah:Loc X.env.scope x)(r:RelV v u)
  (h:∀aM,Inv X pinZ (σ.set i (some v)) H aM->(∃a,alh a s.heap aM.heap/\(a=X.env.locals\/X.env.cells.lookup x=some a))->Q () aM) (hf:X.fn x=true\/X.env.scope.names.lookup x=some .local:=by first | exact .inl rfl | exact .inr rfl | assumption):wpAny M A (storeName X.env x u) Q E s:=by
 obtain⟨m,aH,aj⟩:=id I.loc;have Vd:(X.env.scope.kind==.class||(X.env.scope.kind==.module&&X.env.locals != X.env.globals))=false:=by rw[I.ok.kind];rfl
 have Ie:i<σ.length:=by rw[I.len];exact(ahN.mp ay).1
 have p6:=I.p6;have tracked:∀{a:Addr}{h':Heap},(∃o,s.heap.get? a=some o/\H a=none)->alh a s.heap h'->e4 X.prog X.w H h':=fun{a h'} ao aC b bA e=>by
  obtain⟨_,_,xu⟩:=ao;refine(I.bF b bA e).q3 (fun c eL aE q=>(aC.2 c ?_).trans q) (fun _ q=>q) fun _ _ q=>q
  rintro rfl;rcases aE with rfl | aE
  ·rw[xu]at e;cases e
  ·rw[xu]at aE;cases aE
 rcases ah with az | az
 ·refine wpAny_storeName_local az aH (fun h' VR aC=>?_) Vd
  obtain⟨YF,_,_,lZ,_⟩:=id aH;refine h _ ⟨I.ok,I.os,I.bare,⟨fun b o e n aa ah=>?_,fun b o e n aa ah=>?_,I.base.free,fun b o e ah=>?_,I.base.pJ,I.base.nM,I.base.oo⟩,⟨_,VR,fun j y e2 aq aD cQ=>?_⟩,fun y c e=>?_,I.free,I.lP,fun p aI=>?_,tracked ⟨YF,lZ,I.free⟩ aC,by simpa using I.len⟩ ⟨_,aC,.inl rfl⟩
  ·exact(aC.2 b (ah5 (aio (ahY e) I.ok.above))).trans (I.base.keep b o e n aa ah)
  ·obtain⟨cA,aq⟩:=I.base.slot b o e n aa ah
   exact⟨cA,(aC.2 b (ah5 (aio (ahY e) I.ok.above))).trans aq⟩
  ·obtain⟨o',aq⟩:=I.base.there b o e ah
   exact⟨o',(aC.2 b (ah5 (aio (ahY e) I.ok.above))).trans aq⟩
  ·by_cases aZ:j=i
   ·subst aZ
    rw[ay]at aq;cases aq;rw[aiJ Ie]at aD;cases aD;exact⟨u,r,.inl ⟨az,by simp⟩⟩
   ·rw[ahZ (aks aZ)]at aD
    obtain⟨u',bL,q⟩:=aj j y e2 aq aD cQ;refine⟨u',bL,?_⟩;rcases q with⟨k,e⟩ | ⟨k,c,e,z⟩
    ·refine .inl ⟨k,?_⟩
     have:y≠x:=fun e=>aZ (Km hN aq (e▸ay))
     simp[this,e]
    ·exact .inr ⟨k,c,e,z.sameBut aC (p6 y c e)⟩
  ·obtain⟨eL,z⟩:=I.cell y c e
   exact⟨eL,z.sameBut aC (p6 y c e)⟩
  ·obtain⟨e,n,ne,pv,d⟩:=I.pin p aI
   exact⟨(aC.2 p.1 ne).trans e,n,ne,pv,d⟩
 ·have Br:X.fn x=true:=by
   rcases hf with z | z
   ·exact z
   ·rw[z]at az;cases az
  obtain⟨c,aE⟩:=I.ok.has x (.inl az);obtain⟨eL,z⟩:=I.cell x c aE;refine wpAny_storeName_cell I.ok.kind az aE z (fun h' xq aC=>?_);obtain⟨dw,r0,VY⟩:=id z;refine h { s with heap:=h' } ⟨I.ok,I.os,I.bare,⟨fun b o e n aa ah=>?_,fun b o e n aa ah=>?_,I.base.free,fun b o e ah=>?_,I.base.pJ,I.base.nM,I.base.oo⟩,⟨m,aH.sameBut aC (aks (p6 x c aE)),fun j y e2 aq aD cQ=>?_⟩,fun y c' e=>?_,I.free,I.lP,fun p aI=>?_,tracked ⟨dw,r0,I.lP x c aE⟩ aC,by simpa using I.len⟩ ⟨c,aC,.inr aE⟩
  ·exact(aC.2 b (ah5 (aio (ahY e) (I.ok.tF x c Br aE)))).trans (I.base.keep b o e n aa ah)
  ·obtain⟨cA,aq⟩:=I.base.slot b o e n aa ah
   exact⟨cA,(aC.2 b (ah5 (aio (ahY e) (I.ok.tF x c Br aE)))).trans aq⟩
  ·obtain⟨o',aq⟩:=I.base.there b o e ah
   exact⟨o',(aC.2 b (ah5 (aio (ahY e) (I.ok.tF x c Br aE)))).trans aq⟩
  ·by_cases aZ:j=i
   ·subst aZ
    rw[ay]at aq;cases aq;rw[aiJ Ie]at aD;cases aD;exact⟨u,r,.inr ⟨.inl az,c,aE,xq⟩⟩
   ·rw[ahZ (aks aZ)]at aD
    obtain⟨u',bL,q⟩:=aj j y e2 aq aD cQ;refine⟨u',bL,?_⟩;rcases q with q | ⟨k,c',e,kQ⟩
    ·exact .inl q
    ·refine .inr ⟨k,c',e,kQ.sameBut aC ?_⟩
     rintro rfl;exact aZ (Km hN aq (I.ok.inj _ _ _ e aE▸ay))
  ·by_cases qj:c'=c
   ·subst qj;exact⟨_,xq⟩
   ·obtain⟨gj,d2⟩:=I.cell y c' e
    exact⟨gj,d2.sameBut aC qj⟩
  ·obtain⟨e,n,ne,pv,d⟩:=I.pin p aI
   refine⟨(aC.2 p.1 ?_).trans e,n,ne,pv,d⟩;intro q;rw[q,r0]at e;have eA:dw=p.2:=aih e;exact d eL (by rw[<-eA];exact VY)
theorem MH{M:Model}{A:ah6}{E:cu}{i:Nat}{x:Str}{v:V}{u:Value}{Q:Unit->ahL->Prop}(I:Inv X pinZ σ H s)(hN:X.N.Nodup)(ay:X.N[i]? = some x)(ah:Loc X.env.scope x)(r:RelV v u)
  (h:∀aM,Inv X pinZ (σ.set i (some v)) H aM->Q () aM) (hf:X.fn x=true\/X.env.scope.names.lookup x=some .local:=by first | exact .inl rfl | exact .inr rfl | assumption):wpAny M A (storeName X.env x u) Q E s:=
 MI I hN ay ah r (fun aM hL _=>h aM hL) hf
theorem Inv.QM{aM:ahL}{ch:List Addr}(I:Inv X pinZ σ H s)(bc:aM.os=s.os)(u:gA (lQ X.stack) ch H H' s.heap aM.heap)(bF:e4 X.prog X.w H' aM.heap)(aS:alb aM.gens)
  (mS:∀b∈ch,(b∈X.ex\/X.gN.heap.objs.size<=b)/\b≠X.env.locals/\(∀x c,X.env.cells.lookup x=some c->c≠b)/\∀p∈X.nd++pinZ,p.1≠b):Inv X pinZ σ H' aM:=by
 obtain⟨h',g',d',t',o'⟩:=aM;have e:o'=s.os:=bc;subst e;exact I.call (g':=g') (t':=t') (d':=d') u bF aS mS
end
abbrev gn:=Value->Option Addr->av->Prop
abbrev St:=List (Option V)
abbrev cZ:=V->av->Prop
abbrev TE:=St->av->cZ->Prop
abbrev TT:=St->av->(Bool->av->Prop)->Prop
abbrev fW:=St->av->(List V->av->Prop)->Prop
structure Ends where
 bq:St->av->Prop
 cS:cZ
 eP:St->av->Prop:=fun _ _=>False
 b':St->av->Prop:=fun _ _=>False
abbrev gT:=Ends->St->av->Prop
def g7(X:aQ)(pinZ:cP)(σ:St)(Q:cZ)(u:Value)(aM:ahL):Prop:=∃v H',Inv X pinZ σ H' aM/\RelV v u/\Q v H'
def zE(X:aQ)(pinZ:cP)(σ:St)(Q:Bool->av->Prop)(b:Bool)(aM:ahL):Prop:=∃H',Inv X pinZ σ H' aM/\Q b H'
def NX(X:aQ)(pinZ:cP)(σ:St)(Q:List V->av->Prop)(us:List Value)(aM:ahL):Prop:=∃vs H',Inv X pinZ σ H' aM/\Vals vs us/\Q vs H'
def rv(X:aQ)(pinZ:cP)(D:Ends)(f:Flow)(aM:ahL):Prop:=
 match f with
 |.next=>∃σ' H',Inv X pinZ σ' H' aM/\D.bq σ' H'|.brk=>∃σ' H',Inv X pinZ σ' H' aM/\D.eP σ' H'|.cont=>∃σ' H',Inv X pinZ σ' H' aM/\D.b' σ' H'|.ret u=>∃v σ' H',Inv X pinZ σ' H' aM/\RelV v u/\D.cS v H'
def bQ(X:aQ)(e:Expr)(t:TE):Prop:=
 ∀(pinZ:cP)(s:ahL)(σ:St)(H:av)(Q:cZ),Inv X pinZ σ H s->t σ H Q->wpAny (model X.prog X.w) X.A (eval e X.env) (g7 X pinZ σ Q) X.dA s
def iD(X:aQ)(e:Expr)(t:TT):Prop:=
 ∀(pinZ:cP)(s:ahL)(σ:St)(H:av)(Q:Bool->av->Prop),Inv X pinZ σ H s->t σ H Q->wpAny (model X.prog X.w) X.A (isTrue e X.env (eval e X.env)) (zE X pinZ σ Q) X.dA s
def lA(X:aQ)(e:Expr)(t:TT):Prop:=
 ∀(whole:Sem Value)(pinZ:cP)(s:ahL)(σ:St)(H:av)(Q:Bool->av->Prop),Inv X pinZ σ H s->t σ H Q->wpAny (model X.prog X.w) X.A (isTrue e X.env whole) (zE X pinZ σ Q) X.dA s
theorem lA.pt{t:TT}(h:lA X e t):iD X e t:=h _
def e5(X:aQ)(ax:List Expr)(t:fW):Prop:=
 ∀(pos:Pos)(pinZ:cP)(s:ahL)(σ:St)(H:av)(Q:List V->av->Prop),Inv X pinZ σ H s->t σ H Q->wpAny (model X.prog X.w) X.A (spliced (aie pos (ahK ax X.env))) (NX X pinZ σ Q) X.dA s
def iB(X:aQ)(st:Stmt)(t:gT):Prop:=
 ∀(pinZ:cP)(s:ahL)(σ:St)(H:av)(D:Ends),Inv X pinZ σ H s->t D σ H->wpAny (model X.prog X.w) X.A (exec st X.env) (rv X pinZ D) X.dA s
def iC(X:aQ)(st:List Stmt)(t:gT):Prop:=
 ∀(pinZ:cP)(s:ahL)(σ:St)(H:av)(D:Ends),Inv X pinZ σ H s->t D σ H->wpAny (model X.prog X.w) X.A (execs st X.env) (rv X pinZ D) X.dA s
theorem bR{α:Type}{t:Sem α}{Q fF:α->ahL->Prop}{M:Model}{A:ah6}{E:cu}{s:ahL}(h:wpAny M A t Q E s)(iH:∀a s,Q a s->fF a s):wpAny M A t fF E s:=aiv h iH fun _ _ x=>x
section
variable{X:aQ}
def acQ(i:Nat):TE:=fun σ H Q=>∃v,σ[i]? = some (some v)/\Q v H
def om(v:V):TE:=fun _ H Q=>Q v H
theorem yG(hN:X.N[i]? = some x)(bz:p0 X.env.scope x)(hd:(x==("__debug__":Str))=false:=by decide)(gq:(x==("__classdict__":Str))=false:=by decide):bQ X (.Name x pos) (acQ i):=by
 intro pinZ s σ H Q I h;obtain⟨v,e,h⟩:=h;obtain⟨m,aH,aj⟩:=I.loc;obtain⟨u,r,l⟩:=aj i x v hN e bz;have fin:g7 X pinZ σ Q u s:=⟨v,H,I,r,h⟩;rcases l with⟨az,hm⟩ | ⟨az,c,aE,H8⟩
 ·exact wpAny_Name (wpAny_loadName_local I.ok.kind az aH hm fin) hd
 ·rcases az with az | az
  ·exact wpAny_Name (wpAny_loadName_cell I.ok.kind az aE H8 fin) hd
  ·exact wpAny_Name (wpAny_loadName_free I.ok.kind az aE H8 fin gq) hd
theorem ZA{i j pos}:bQ X (.Constant (.int i) j pos) (om (.int i)):=fun _ _ _ H _ I h=>wpAny_Constant_int ⟨.int i,H,I.tok _,⟨_,rfl⟩,h⟩
theorem Zl{b j pos}:bQ X (.Constant (.bool b) j pos) (om (.aA b)):=fun _ _ _ H _ I h=>Constant_bool ⟨.aA b,H,I,rfl,h⟩
theorem ZH{j pos}:bQ X (.Constant .none j pos) (om .aW):=fun _ _ _ H _ I h=>Constant_none ⟨.aW,H,I,rfl,h⟩
theorem KQ{x j pos}:bQ X (.Constant (.str x) j pos) (om (.str x)):=fun _ _ _ H _ I h=>Calls.Constant_str ⟨.str x,H,I.tok _,⟨_,rfl⟩,h⟩
def d3(X:aQ)(x:Str):Prop:=X.env.kindOf x=some .globalImplicit
theorem r8{E:cu}{pinZ:cP}{s:ahL}{σ:St}{H:av}{x:Str}{u:Value}{pos:Pos}{Q:cu}(I:Inv X pinZ σ H s)(aS:d3 X x)(hm:X.mg x=some u)(h:Q u s)
  (hd:(x==("__debug__":Str))=false:=by decide):wpAny (model X.prog X.w) X.A (eval (.Name x pos) X.env) Q E s:=
 alL I.ok.kind aS (Calls.loadGlobal_global (by rw[I.ok.glob];exact I.mod.glob.keeps I.eP) hm h) hd
theorem pb{E:cu}{pinZ:cP}{s:ahL}{σ:St}{H:av}{x:Str}{u:Value}{pos:Pos}{Q:cu}(I:Inv X pinZ σ H s)(aS:d3 X x)(hm:X.mg x=none)(bz:aiC x=some u)(h:Q u s)
  (aH:x≠"__name__":=by decide) (hd:(x==("__debug__":Str))=false:=by decide):wpAny (model X.prog X.w) X.A (eval (.Name x pos) X.env) Q E s:=by
 obtain⟨c0,ae,ag⟩:=I.mod.blt;exact alL I.ok.kind aS (Calls.loadGlobal_builtin (by rw[I.ok.glob];exact I.mod.glob.keeps I.eP) hm (by rw[I.ok.blt];exact ae.keeps I.eP) ((ag x aH).trans bz) h) hd
theorem Zz{v:V}(aS:d3 X x)(hm:X.mg x=some u)(r:RelV v u)(hd:(x==("__debug__":Str))=false:=by decide):bQ X (.Name x pos) (om v):=
 fun _ _ _ H _ I h=>r8 I aS hm ⟨v,H,I,r,h⟩ hd
theorem u5{v:V}(aS:d3 X x)(hm:X.mg x=none)(bz:aiC x=some u)(r:RelV v u)(aH:x≠"__name__":=by decide)(hd:(x==("__debug__":Str))=false:=by decide):bQ X (.Name x pos) (om v):=
 fun _ _ _ H _ I h=>pb I aS hm bz ⟨v,H,I,r,h⟩ aH hd
variable{a b:Expr}{b0 cU:TE}{pos:Pos}
def Of(X:aQ)(op:CmpOp)(a b:Expr)(t:TE):Prop:=
 ∀(pinZ:cP)(s:ahL)(σ:St)(H:av)(Q:cZ),Inv X pinZ σ H s->t σ H Q->
  wpAny (model X.prog X.w) X.A (eval a X.env) (fun v df=>wpAny (model X.prog X.w) X.A (eval b X.env) (fun u md=>wpAny (model X.prog X.w) X.A (ais op v u) (g7 X pinZ σ Q) X.dA md) X.dA df) X.dA s
theorem Yt(b:Expr)(h:op≠.In)(ag:op≠.NotIn):ajC op b=false:=by
 have aq:(op==CmpOp.In)=false:=by cases op<;>first | rfl | exact absurd rfl h
 have aD:(op==CmpOp.NotIn)=false:=by cases op<;>first | rfl | exact absurd rfl ag
 cases b<;>simp[ajC,aq,aD]
def MN(t:TE):TT:=fun σ H Q=>t σ H fun x H1=>∃c,x=.aA c/\Q c H1
theorem ahu{t:TE}(h:Of X op a b t)(ae:ajC op b=false:=by first | exact Yt _ (by decide) (by decide) | rfl):iD X (.Compare a [op] [b] pos) (MN t):=by
 intro pinZ s σ H Q I hw;refine wpAny_isTrue_Compare1 (bR (h pinZ s σ H _ I hw) fun v s1 ae=>bR ae fun u s2 ag=>bR ag fun c s3 ⟨x,H1,a8,bu,ba⟩=>?_) ae;obtain⟨d,rfl,q⟩:=ba;cases bu;exact ai2 ⟨H1,a8,q⟩
theorem K4{e:Expr}{t:TE}(h:bQ X e t)(he:∀whole,isTrue e X.env whole=(do let v <-whole;akt e.pos;ajz [v] (truthy v)):=by intro _;rfl):iD X e (MN t):=by
 intro pinZ s σ H Q I hw;refine isTrue_plain (bR (h pinZ s σ H _ I hw) fun v s1 ⟨x,H1,a8,bu,ba⟩=>?_) (he _);obtain⟨d,rfl,q⟩:=ba;cases bu;exact ai2 ⟨H1,a8,q⟩
variable{nj yW:TT}{rest:List Expr}
def aco(t u:TT):TT:=fun σ H Q=>t σ H fun c H1=>if c=true then u σ H1 Q else Q false H1
def acI(t u:TT):TT:=fun σ H Q=>t σ H fun c H1=>if c=true then Q true H1 else u σ H1 Q
def acG(t:TT):TT:=fun σ H Q=>t σ H fun c H1=>Q (!c) H1
theorem Z'(ao:iD X a nj):lA X (.BoolOp .And [a] pos) nj:=by
 intro rd pinZ s σ H Q I h;refine isTrue_and (bR (ao pinZ s σ H Q I h) fun c s1 e=>?_)
 cases c with
 |true=>exact isTrue_and_nil e|false=>exact e
theorem aab(ao:iD X a nj):lA X (.BoolOp .Or [a] pos) nj:=by
 intro rd pinZ s σ H Q I h;refine isTrue_or (bR (ao pinZ s σ H Q I h) fun c s1 e=>?_)
 cases c with
 |false=>exact isTrue_or_nil e|true=>exact e
theorem Z_(ao:iD X a nj)(aa:lA X (.BoolOp .And (b::rest) pos) yW):lA X (.BoolOp .And (a::b::rest) pos) (aco nj yW):=by
 intro rd pinZ s σ H Q I h;refine isTrue_and (bR (ao pinZ s σ H _ I h) fun c s1 aX=>?_);obtain⟨H1,a8,ba⟩:=aX
 cases c with
 |true=>exact aa rd pinZ s1 σ H1 Q a8 ba|false=>exact⟨H1,a8,ba⟩
theorem aaa(ao:iD X a nj)(aa:lA X (.BoolOp .Or (b::rest) pos) yW):lA X (.BoolOp .Or (a::b::rest) pos) (acI nj yW):=by
 intro rd pinZ s σ H Q I h;refine isTrue_or (bR (ao pinZ s σ H _ I h) fun c s1 aX=>?_);obtain⟨H1,a8,ba⟩:=aX
 cases c with
 |true=>exact⟨H1,a8,ba⟩|false=>exact aa rd pinZ s1 σ H1 Q a8 ba
theorem K3(ao:iD X a nj):iD X (.UnaryOp .Not a pos) (acG nj):=by
 intro pinZ s σ H Q I h;exact isTrue_not (ao pinZ s σ H (fun c H1=>Q (!c) H1) I h)
def acp(b0 cU:TE):TE:=fun σ H Q=>b0 σ H fun x H1=>∃c,x=.aA c/\if c=true then cU σ H1 Q else Q (.aA false) H1
def acH(b0:TE):TE:=fun σ H Q=>b0 σ H fun x H1=>∃c,x=.aA c/\Q (.aA (!c)) H1
theorem ZJ{op}{t:TE}(h:bQ X a t):bQ X (.BoolOp op [a] pos) t:=fun pinZ s σ H Q I hw=>BoolOp_one (h pinZ s σ H Q I hw)
theorem Zk(ao:bQ X a b0)(aa:bQ X (.BoolOp .And (b::rest) pos) cU):bQ X (.BoolOp .And (a::b::rest) pos) (acp b0 cU):=by
 intro pinZ s σ H Q I h;refine BoolOp_and (bR (ao pinZ s σ H _ I h) fun v s1 aX=>?_);obtain⟨x,H1,a8,bu,ba⟩:=aX;obtain⟨c,rfl,ba⟩:=ba;cases bu;refine ai2 ?_
 cases c with
 |true=>exact aa pinZ s1 σ H1 Q a8 ba|false=>exact⟨.aA false,H1,a8,rfl,ba⟩
theorem ZI(ao:bQ X a b0):bQ X (.UnaryOp .Not a pos) (acH b0):=by
 intro pinZ s σ H Q I h;refine UnaryOp_ (bR (ao pinZ s σ H _ I h) fun v s1 aX=>?_);obtain⟨x,H1,a8,bu,ba⟩:=aX;obtain⟨c,rfl,ba⟩:=ba;cases bu;exact not_of (ai2 ⟨.aA (!c),H1,a8,rfl,ba⟩)
end
def c3(K:aP)(H:av)(a:Addr)(xs:List V):Prop:=
 fH H a (.lst xs)\/
  ∃(o:Obj)(its:Array Value)(n:Nat),K.lookup a=some o/\o.cls=.type "list"/\o.dict=none/\o.data=.seq its n/\its.size<=ahQ/\Vals xs its.toList
def dp(K:aP)(H:av)(a:Addr)(xs:List V):Prop:=
 fH H a (.tup xs)\/
  ∃(o:Obj)(its:Array Value)(n:Nat),K.lookup a=some o/\o.cls=.type "tuple"/\o.data=.seq its n/\its.size<=ahQ/\Vals xs its.toList
def Ot:Value->Option V
 |.none=>some .aW|.bool b=>some (.aA b)|.int i _=>some (.int i)|.str x _=>some (.str x)|.bytes b _=>some (.wH b)|.float b _=>some (.w_ b)|.ref a=>some (.ref a)|.type n=>some (.ty n)|_=>none
theorem RelV.abs(r:RelV x u):Ot u=some x:=by
 cases x with
 |aW=>cases r;rfl
 |aA _=>cases r;rfl
 |int _=>obtain⟨t,rfl⟩:=r;rfl
 |str _=>obtain⟨t,rfl⟩:=r;rfl
 |wH _=>obtain⟨t,rfl⟩:=r;rfl
 |w_ _=>obtain⟨t,rfl⟩:=r;rfl
 |ref _=>cases r;rfl
 |ty _=>cases r;rfl
theorem RelV.inj(r:RelV x u)(q:RelV y u):x=y:=aih (r.abs.symm.trans q.abs)
theorem Vals.inj:∀{xs ys:List V}{us:List Value},Vals xs us->Vals ys us->xs=ys
 |_,_,_,.nil,.nil=>rfl| _,_,_,.cons r t,.cons bL t'=>by rw[r.inj bL,Vals.inj t t']
section
variable{X:aQ}{pinZ:cP}{σ:St}{H:av}{s:ahL}{a:Addr}{xs ys:List V}
theorem c3.of{K:aP}(h:H a=some (.lst xs)):c3 K H a xs:=.inl (.inl h)
theorem dp.of{K:aP}(h:H a=some (.tup xs)):dp K H a xs:=.inl (.inl h)
theorem Inv.list(I:Inv X pinZ σ H s)(h:c3 X.K H a xs):∃its:List Value,Vals xs its/\PlainL s.heap a its.toArray/\xs.length<=ahQ:=by
 rcases h with h | ⟨o,its,n,az,aE,hd,aC,hz,r⟩
 ·obtain⟨z,its,n,r,e⟩:=h.ok I.bF
  exact⟨its,r,⟨_,n,e,rfl,rfl,rfl⟩,z⟩
 ·refine⟨its.toList,r,⟨o,n,I.eZ a o az,aE,hd,by simpa using aC⟩,?_⟩
  have e:=r.length;simp only[aiE]at e;omega
theorem Inv.tuple(I:Inv X pinZ σ H s)(h:dp X.K H a xs):∃its:List Value,Vals xs its/\IsTup s.heap a its.toArray/\xs.length<=ahQ:=by
 rcases h with h | ⟨o,its,n,az,aE,aC,hz,r⟩
 ·obtain⟨z,its,r,p⟩:=h.ok I.bF
  exact⟨its,r,p,z⟩
 ·refine⟨its.toList,r,⟨o,I.eZ a o az,aE,n,by simpa using aC⟩,?_⟩
  have e:=r.length;simp only[aiE]at e;omega
theorem Inv.Cr(I:Inv X pinZ σ H s)(h:c3 X.K H a xs)(h':c3 X.K H a ys):xs=ys:=by
 obtain⟨its,r,⟨o,n,e,_,_,d⟩,_⟩:=I.list h;obtain⟨its',bL,⟨o',e0,cf,_,_,d'⟩,_⟩:=I.list h';rw[e]at cf;cases cf;rw[d]at d';injection d' with fz _
 have:its=its':=by simpa using congrArg Array.toList fz
 subst this;exact r.inj bL
theorem Inv.M7(I:Inv X pinZ σ H s)(h:dp X.K H a xs)(h':dp X.K H a ys):xs=ys:=by
 obtain⟨its,r,⟨o,e,_,n,d⟩,_⟩:=I.tuple h;obtain⟨its',bL,⟨o',cf,_,e0,d'⟩,_⟩:=I.tuple h';rw[e]at cf;cases cf;rw[d]at d';injection d' with fz _
 have:its=its':=by simpa using congrArg Array.toList fz
 subst this;exact r.inj bL
end
abbrev aQ.mj(X:aQ)(E:cu):aQ:={ X with dA:=E }
abbrev aQ.gr(X:aQ):aQ:=X.mj fun _ _=>False
theorem aQ.Ok.mj{X:aQ}(ok:X.Ok)(E:cu):(X.mj E).Ok:=
 ⟨ok.mod,ok.kind,ok.glob,ok.blt,ok.above,ok.inj,ok.has,ok.tF,ok.hd,ok.frames,ok.yU,ok.w7,ok.bs,ok.lE,ok.uW,ok.tM,ok.kn,ok.oV⟩
theorem aQ.Ok.oq{X:aQ}(ok:(X.mj E).Ok):X.Ok:=
 ⟨ok.mod,ok.kind,ok.glob,ok.blt,ok.above,ok.inj,ok.has,ok.tF,ok.hd,ok.frames,ok.yU,ok.w7,ok.bs,ok.lE,ok.uW,ok.tM,ok.kn,ok.oV⟩
section
variable{X:aQ}{pinZ:cP}{σ:St}{H:av}{s:ahL}{E:cu}
theorem Inv.mj(I:Inv X pinZ σ H s)(E:cu):Inv (X.mj E) pinZ σ H s:=⟨I.ok.mj E,I.os,I.bare,I.base,I.loc,I.cell,I.free,I.lP,I.pin,I.bF,I.len⟩
theorem Inv.oq(I:Inv (X.mj E) pinZ σ H s):Inv X pinZ σ H s:=⟨I.ok.oq,I.os,I.bare,I.base,I.loc,I.cell,I.free,I.lP,I.pin,I.bF,I.len⟩
theorem rv.oq{D:Ends}(h:rv (X.mj E) pinZ D f aM):rv X pinZ D f aM:=by
 cases f with
 |next=>obtain⟨σ',H',I,q⟩:=h;exact⟨σ',H',I.oq,q⟩
 |brk=>obtain⟨σ',H',I,q⟩:=h;exact⟨σ',H',I.oq,q⟩
 |cont=>obtain⟨σ',H',I,q⟩:=h;exact⟨σ',H',I.oq,q⟩
 |ret u=>obtain⟨v,σ',H',I,r,q⟩:=h;exact⟨v,σ',H',I.oq,r,q⟩
theorem bQ.gr{t:TE}(h:bQ X.gr e t):bQ X e t:=fun pinZ s σ H Q I hw=>
 aiv (h pinZ s σ H Q (I.mj _) hw) (fun _ _ ⟨v,H',hL,r,q⟩=>⟨v,H',hL.oq,r,q⟩) fun _ _ z=>air z
theorem iC.gr{st:List Stmt}{t:gT}(h:iC X.gr st t):iC X st t:=fun pinZ s σ H D I hw=>
 aiv (h pinZ s σ H D (I.mj _) hw) (fun _ _ q=>q.oq) fun _ _ z=>air z
end
section
variable{X:aQ}{st:Stmt}{rest:List Stmt}{t u:gT}{e:Expr}{te:TE}{pos:Pos}
def acE:gT:=fun D σ H=>D.bq σ H
def acL(t u:gT):gT:=fun D σ H=>t { D with bq:=u D } σ H
theorem Z6:iC X [] acE:=fun _ _ σ H _ I h=>aml ⟨σ,H,I,h⟩
theorem K1(ae:iB X st t)(ag:iC X rest u):iC X (st::rest) (acL t u):=by
 intro pinZ s σ H D I h;refine wpAny_execs_cons (bR (ae pinZ s σ H { D with bq:=u D } I h) fun f s1 q=>?_)
 cases f with
 |next=>
  obtain⟨σ',H',hL,q⟩:=q;exact ag pinZ s1 σ' H' D hL q
 |ret v=>exact q|brk=>exact q|cont=>exact q
theorem K2(ae:iB X st t):iC X [st] t:=by
 intro pinZ s σ H D I h;refine wpAny_execs_cons (bR (ae pinZ s σ H D I h) fun f s1 q=>?_)
 cases f with
 |next=>exact aml q
 |ret v=>exact q|brk=>exact q|cont=>exact q
theorem Inv.quiet(I:Inv X pinZ σ H s):interactive X.env=false:=by simp[interactive,I.ok.kind]
def acy(te:TE):gT:=fun D σ H=>te σ H fun _ H1=>D.bq σ H1
theorem Dj(he:bQ X e te)(aC:aje e none pos.line X.env=pure false:=by rfl):iB X (.Expr e pos) (acy te):=by
 intro pinZ s σ H D I h;exact wpAny_Expr_any (bR (he pinZ s σ H _ I h) fun v s1 ⟨x,H1,a8,bu,ba⟩=>⟨σ,H1,a8,ba⟩) I.quiet aC
def acK(te:TE):gT:=fun D σ H=>te σ H D.cS
theorem Dk(he:bQ X e te):iB X (.Return (some e) pos) (acK te):=by
 intro pinZ s σ H D I h;exact wpAny_Return_some (bR (he pinZ s σ H _ I h) fun v s1 ⟨x,H1,a8,bu,ba⟩=>⟨x,σ,H1,a8,bu,ba⟩)
def acA(c:TT)(t u:gT):gT:=fun D σ H=>c σ H fun b H1=>if b=true then t D σ H1 else u D σ H1
theorem K0(aE:iD X c sP)(ao:iC X a t)(aa:iC X b u):iB X (.If c a b pos) (acA sP t u):=by
 intro pinZ s σ H D I h;refine wpAny_If (bR (aE pinZ s σ H _ I h) fun d s1 aX=>?_);obtain⟨H1,a8,ba⟩:=aX
 cases d with
 |true=>exact ao pinZ s1 σ H1 D a8 ba|false=>exact aa pinZ s1 σ H1 D a8 ba
def acD:gT:=fun _ _ _=>False
theorem Z5:iB X st acD:=fun _ _ _ _ _ _ h=>h.elim
end
abbrev i4:=V->St->av->(St->av->Prop)->Prop
abbrev oO:=List V->St->av->(St->av->Prop)->Prop
def oJ(X:aQ)(target:Expr)(t:i4):Prop:=
 ∀(pinZ:cP)(s:ahL)(σ:St)(H:av)(v:V)(u:Value)(Q:St->av->Prop),Inv X pinZ σ H s->RelV v u->t v σ H Q->
  wpAny (model X.prog X.w) X.A (akc target X.env u) (fun _ aM=>∃σ' H',Inv X pinZ σ' H' aM/\Q σ' H') X.dA s
def jT(X:aQ)(ts:List Expr)(t:oO):Prop:=
 ∀(pinZ:cP)(s:ahL)(σ:St)(H:av)(vs:List V)(us:List Value)(Q:St->av->Prop),Inv X pinZ σ H s->Vals vs us->t vs σ H Q->
  wpAny (model X.prog X.w) X.A (assignInOrder ((ah4 ts X.env).map (·.2)) us) (fun _ aM=>∃σ' H',Inv X pinZ σ' H' aM/\Q σ' H') X.dA s
section
variable{X:aQ}{pos:Pos}
def k4(i:Nat):i4:=fun v σ H Q=>Q (σ.set i (some v)) H
theorem u7(hN:X.N.Nodup)(ay:X.N[i]? = some x)(ah:Loc X.env.scope x)(hf:X.fn x=true\/X.env.scope.names.lookup x=some .local:=by first | exact .inl rfl | exact .inr rfl | assumption):oJ X (.Name x pos) (k4 i):=by
 intro pinZ s σ H v u Q I r h;exact wpAny_assign_Name (MH I hN ay ah r (fun aM hL=>⟨_,H,hL,h⟩) hf)
def HA:oO:=fun vs σ H Q=>vs=[]/\Q σ H
def Hz(t:i4)(u:oO):oO:=fun vs σ H Q=>∃v r,vs=v::r/\t v σ H fun σ' H'=>u r σ' H' Q
theorem ZR:jT X [] HA:=by
 intro pinZ s σ H vs us Q I r h;obtain⟨e,h⟩:=h;subst e;cases r;exact assignInOrder_nil ⟨σ,H,I,h⟩
theorem ZQ{e:Expr}{ax:List Expr}{t:i4}{u:oO}(ae:oJ X e t)(ag:jT X ax u)
  (aC:(ah4 (e::ax) X.env).map (·.2)=akc e X.env::(ah4 ax X.env).map (·.2):=by rfl):jT X (e::ax) (Hz t u):=by
 intro pinZ s σ H vs us Q I r h;obtain⟨v,D7,aq,h⟩:=h;subst aq
 cases r with
 |cons r bo=>
  rw[aC];refine assignInOrder_cons (bR (ae pinZ s σ H _ _ _ I r h) fun _ s1 aX=>?_);obtain⟨hJ,H1,a8,ba⟩:=aX;exact ag pinZ s1 hJ H1 _ _ Q a8 bo ba
def oW(K:aP)(n:Nat)(t:oO):i4:=fun v σ H Q=>∃a xs,v=.ref a/\dp K H a xs/\xs.length=n/\t xs σ H Q
theorem qT{ax:List Expr}{k:Nat}{t:oO}{n:Nat}(aE:X.calm=true)(h:jT X ax t)
  (aH:(ah4 ax X.env).length=n:=by rfl) (eE:(ah4 ax X.env).findIdx? (·.1)=none:=by rfl):oJ X (.Tuple ax k pos) (oW X.K n t):=by
 intro pinZ s σ H v u Q I r hw;obtain⟨a,xs,aq,a4,aj,hw⟩:=hw;subst aq;cases r;obtain⟨its,bI,bG,hz⟩:=I.tuple a4;refine assign_Tuple_tuple (I.ok.hd aE) bG (by simp[aH,<-aj,bI.length]) eE fun h' ah=>?_
 have a8:Inv X pinZ σ H { s with heap:=h' }:=I.kept (t':=s.toks) fun b o e=>ah b o (ah5 (ahY e)) e
 exact h pinZ _ σ H xs _ Q a8 (by simpa using bI) hw
def sM(te:TE)(g:i4):gT:=fun D σ H=>te σ H fun x H1=>g x σ H1 D.bq
theorem Z2{cc e:Expr}{te:TE}{g:i4}(he:bQ X e te)(aS:oJ X cc g)(aC:swapsWithSole [cc] e pos.line X.env=pure false:=by rfl)(hw:swappedStores [cc] e X.env=pure none:=by rfl)
  (ae:(ah4 [cc] X.env).map (·.2)=[akc cc X.env]:=by rfl):iB X (.Assign [cc] e pos) (sM te g):=by
 intro pinZ s σ H D I h;refine wpAny_Assign_stores (bR (he pinZ s σ H _ I h) fun v s1 ⟨x,H1,a8,bu,ba⟩=>?_) aC hw;rw[ae];exact bR (aS pinZ s1 σ H1 x v _ a8 bu ba) fun _ s2 q=>q
theorem Dl(hN:X.N.Nodup)(ay:X.N[i]? = some x)(ah:Loc X.env.scope x)(he:bQ X e te)(aC:aje e (some (.Name x pos')) pos.line X.env=pure false:=by rfl)(hf:X.fn x=true\/X.env.scope.names.lookup x=some .local:=by first | exact .inl rfl | exact .inr rfl | assumption) :
  iB X (.Assign [.Name x pos'] e pos) (sM te (k4 i)):=by
 intro pinZ s σ H D I h;refine wpAny_Assign_Name (bR (he pinZ s σ H _ I h) fun v s1 ⟨y,H1,a8,bu,ba⟩=>?_) aC;exact MH a8 hN ay ah bu (fun s2 bM=>⟨_,H1,bM,ba⟩) hf
end
structure hM where
 go:Nat->av->Prop
 ox:Nat->av->V->av->Prop
 stop:Nat->av->Prop
def gk(X:aQ)(pinZ:cP)(H:av)(b:Addr):Prop:=
 H b=none/\b≠X.env.locals/\b∉X.aV/\(b∈X.ex\/X.gN.heap.objs.size<=b)/\(∀x c,X.env.cells.lookup x=some c->c≠b)/\∀p∈X.nd++pinZ,p.1≠b
theorem Inv.nK{H H':av}{s:ahL}(I:Inv X pinZ σ H s)(aa:s.heap.objs.size<=b)(aH:H' b=none):gk X pinZ H' b:=by
 refine⟨aH,Nat.ne_of_gt (aio I.lt aa),I.Yw aa,.inr (aiS I.ll aa),fun x c e z=>?_,fun p aI z=>?_⟩
 ·obtain⟨v,q⟩:=I.cell x c e
  exact absurd (aio q.lt (by rw[z];exact aa)) (aii _)
 ·exact absurd (aio (ahY (I.pin p aI).1) (by rw[z];exact aa)) (aii _)
structure Turn(P:ah1)(w:World)(K:aP)(cc:Expr)(b9:hM)(aL:List Addr)(it:Addr)(fw:Nat->Heap->Prop):Prop where
 mem:it∈aL
 obj:∀i h,fw i h->∀b∈aL,∃o,h.get? b=some o/\∀v,o.data≠.cell v
 keep:∀i h h',fw i h->(∀b∈aL,∀o,h.get? b=some o->h'.get? b=some o)->fw i h'
 item:∀(X:aQ),X.prog=P->X.w=w->X.K=K->X.calm=true->∀(i:Nat)(pinZ:cP)(s:ahL)(σ:St)(H:av)(E:cu),Inv X pinZ σ H s->(∀b∈aL,gk X pinZ H b)->fw i s.heap->b9.go i H->
  wpAny (model P w) X.A (akd (.ref it)) (fun r s1=>∃u,r=some u/\
   wpAny (model P w) X.A (ali cc (.ref it) u) (fun _ s2=>∃x H',Inv X pinZ σ H' s2/\RelV x u/\b9.ox i H x H'/\fw (i+1) s2.heap/\∀b∈aL,H' b=none) E s1) E s
 done:∀(X:aQ),X.prog=P->X.w=w->X.K=K->X.calm=true->∀(i:Nat)(pinZ:cP)(s:ahL)(σ:St)(H:av)(E:cu),Inv X pinZ σ H s->(∀b∈aL,gk X pinZ H b)->fw i s.heap->b9.stop i H->
  wpAny (model P w) X.A (akd (.ref it)) (fun r s1=>r=none/\Inv X pinZ σ H s1) E s
 self:∀(A:ah6)(i:Nat)(s:ahL)(Q:cu)(E:cu),fw i s.heap->Q (.ref it) s->wpAny (model P w) A (pyIter (.ref it)) Q E s
abbrev TI:=St->av->(hM->av->Prop)->Prop
def EI(X:aQ)(pinZ:cP)(σ:St)(cc:Expr)(R:hM->av->Prop)(xO:Value)(s2:ahL):Prop:=
 ∃(it:Addr)(aL:List Addr)(fw:Nat->Heap->Prop)(b9:hM)(H':av),xO=.ref it/\Inv X pinZ σ H' s2/\Turn X.prog X.w X.K cc b9 aL it fw/\fw 0 s2.heap/\(∀b∈aL,gk X pinZ H' b)/\R b9 H'
def jU(X:aQ)(cc iter:Expr)(wi:TI):Prop:=
 ∀(pinZ:cP)(s:ahL)(σ:St)(H:av)(R:hM->av->Prop),Inv X pinZ σ H s->wi σ H R->
  wpAny (model X.prog X.w) X.A (eval iter X.env) (fun v s1=>wpAny (model X.prog X.w) X.A (pyIter v) (EI X pinZ σ cc R) X.dA s1) X.dA s
theorem t4{M:Model}{A:ah6}{E:cu}{s:ahL}{cc:Expr}{it:Addr}{u:Value}{o:Obj}{n:String}{vs:Array Value}{Q:Unit->ahL->Prop}(bc:s.heap.get? it=some o)(aE:o.cls=.type n)(hd:o.data=.fields vs)
    (aH:["enumerate","zip","dict_itemiterator","dict_reverseitemiterator","odict_iterator","itertools.zip_longest","itertools.pairwise"].contains n=false) (iH:Q () s):wpAny M A (ali cc (.ref it) u) Q E s:=by
  unfold ali;cases cc<;>first
    |exact ahO iH
    | (cases u<;>first
        |exact ahO iH
        | (refine ahH (wpAny_load bc ?_)
           rw[aE,hd];show wpAny M A (if(["enumerate","zip","dict_itemiterator","dict_reverseitemiterator","odict_iterator","itertools.zip_longest","itertools.pairwise"].contains n&&vs[0]? == some (ajT _))=true then _ else _) Q E s;rw[if_neg (by intro h;rw[aH,Bool.false_and]at h;cases h)];exact ahO iH))
def lz(K:aP)(a:Addr):hM:=
 ⟨fun i H=>∃xs x,c3 K H a xs/\xs[i]? = some x,fun i H x H'=>H'=H/\∀xs,c3 K H a xs->xs[i]? = some x,fun i H=>∃xs,c3 K H a xs/\xs.length<=i⟩
def ro(K:aP)(a:Addr):hM:=
 ⟨fun i H=>∃xs x,dp K H a xs/\xs[i]? = some x,fun i H x H'=>H'=H/\∀xs,dp K H a xs->xs[i]? = some x,fun i H=>∃xs,dp K H a xs/\xs.length<=i⟩
def rm(lo:Int)(n:Nat):hM:=⟨fun i _=>i<n,fun i H x H'=>H'=H/\x=.int (lo+i),fun i _=>n<=i⟩
theorem ac8{P:ah1}{w:World}{K:aP}{cc:Expr}(a it:Addr):Turn P w K cc (lz K a) [it] it (fun i h=>h.IsListIter it a i) where
 mem:=by simp
 obj:=fun i h st b aa=>by
  have e:b=it:=by simpa using aa
  subst e;obtain⟨o,e,c,d⟩:=st;exact⟨o,e,fun v z=>by rw[d]at z;cases z⟩
 keep:=fun i h h' st k=>st.at fun o e=>k it (by simp) o e
 item:=by
  intro X dM hw gf aE i pinZ s σ H E I hf st aS;subst dM hw gf;obtain⟨xs,x,a4,ah⟩:=aS;obtain⟨its,bI,p,hz⟩:=I.list a4;obtain⟨u,cb,dD⟩:=bI.get ah;obtain⟨f0,f1,f2,gC,f4,gD⟩:=hf it (by simp);refine wpAny_pyNext_list_item st p.isList (x:=u) (by simpa using cb) fun h' b3 kH=>?_
  have a8:Inv X pinZ σ H { s with heap:=h' }:=I.turned (t':=s.toks) (fun b o aa e=>(kH.2 b aa).trans e) f0 f1 gC f4 gD;obtain⟨o,e,c,d⟩:=id b3;exact⟨u,rfl,t4 (s:={ s with heap:=h' }) e c d (by decide) ⟨x,H,a8,dD,⟨rfl,fun ys a'=>by rw[I.Cr a' a4];exact ah⟩,b3,fun b aa=>(hf b aa).1⟩⟩
 done:=by
  intro X dM hw gf aE i pinZ s σ H E I hf st aS;subst dM hw gf;obtain⟨xs,a4,ah⟩:=aS;obtain⟨its,bI,p,hz⟩:=I.list a4;obtain⟨f0,f1,f2,gC,f4,gD⟩:=hf it (by simp);have aj:=bI.length;exact wpAny_pyNext_list_end (I.ok.hd aE) st p.isList (by simp;omega) fun h' cJ=>⟨rfl,I.turned (t':=s.toks) (fun b o aa e=>cJ b o aa e) f0 f1 gC f4 gD⟩
 self:=fun _ _ _ _ _ st h=>wpAny_pyIter_listiter st h
theorem ada{P:ah1}{w:World}{K:aP}{cc:Expr}(a it:Addr):Turn P w K cc (ro K a) [it] it (fun i h=>h.IsTupleIter it a i) where
 mem:=by simp
 obj:=fun i h st b aa=>by
  have e:b=it:=by simpa using aa
  subst e;obtain⟨o,e,c,d⟩:=st;exact⟨o,e,fun v z=>by rw[d]at z;cases z⟩
 keep:=fun i h h' st k=>st.at fun o e=>k it (by simp) o e
 item:=by
  intro X dM hw gf aE i pinZ s σ H E I hf st aS;subst dM hw gf;obtain⟨xs,x,a4,ah⟩:=aS;obtain⟨its,bI,p,hz⟩:=I.tuple a4;obtain⟨u,cb,dD⟩:=bI.get ah;obtain⟨f0,f1,f2,gC,f4,gD⟩:=hf it (by simp);refine wpAny_pyNext_tuple_item st (show s.heap.IsTuple a its.toArray from p) (x:=u) (by simpa using cb) fun h' b3 kH=>?_
  have a8:Inv X pinZ σ H { s with heap:=h' }:=I.turned (t':=s.toks) (fun b o aa e=>(kH.2 b aa).trans e) f0 f1 gC f4 gD;obtain⟨o,e,c,d⟩:=id b3;exact⟨u,rfl,t4 (s:={ s with heap:=h' }) e c d (by decide) ⟨x,H,a8,dD,⟨rfl,fun ys a'=>by rw[I.M7 a' a4];exact ah⟩,b3,fun b aa=>(hf b aa).1⟩⟩
 done:=by
  intro X dM hw gf aE i pinZ s σ H E I hf st aS;subst dM hw gf;obtain⟨xs,a4,ah⟩:=aS;obtain⟨its,bI,p,hz⟩:=I.tuple a4;obtain⟨f0,f1,f2,gC,f4,gD⟩:=hf it (by simp);have aj:=bI.length;exact wpAny_pyNext_tuple_end (I.ok.hd aE) st (show s.heap.IsTuple a its.toArray from p) (by simp;omega) fun h' cJ=>⟨rfl,I.turned (t':=s.toks) (fun b o aa e=>cJ b o aa e) f0 f1 gC f4 gD⟩
 self:=fun _ _ _ _ _ st h=>wpAny_pyIter_tupleiter st h
theorem ac9{P:ah1}{w:World}{K:aP}{cc:Expr}(it:Addr)(lo:Int)(n:Nat):Turn P w K cc (rm lo n) [it] it (fun i h=>IsRangeIter h it (lo+(i:Nat)*1) ((n:Int)-(i:Nat)) 1) where
 mem:=by simp
 obj:=fun i h st b aa=>by
  have e:b=it:=by simpa using aa
  subst e;exact⟨_,st,fun v z=>by
   have kQ:Data.fields _=Data.cell v:=z;cases kQ⟩
 keep:=fun i h h' st k=>k it (by simp) _ st
 item:=by
  intro X dM hw gf aE i pinZ s σ H E I hf st aS;subst dM hw gf;obtain⟨f0,f1,f2,gC,f4,gD⟩:=hf it (by simp);have W:=Walks.range (prog:=X.prog) (w:=X.w) (I.ok.hd aE) it lo 1 n;refine W.item i s _ _ aS st fun v h' tk bz b3 eG=>?_
  obtain⟨t,rfl⟩:=bz;have a8:Inv X pinZ σ H { s with heap:=h',toks:=tk }:=I.turned (fun b o aa e=>eG b o (by simpa using aa) e) f0 f1 gC f4 gD;refine⟨_,rfl,t4 (s:={ s with heap:=h',toks:=tk }) (n:="range_iterator") b3 rfl rfl (by decide) ⟨.int (lo+i),H,a8,⟨t,?_⟩,⟨rfl,rfl⟩,b3,fun b aa=>(hf b aa).1⟩⟩;rw[Int.mul_one]
 done:=by
  intro X dM hw gf aE i pinZ s σ H E I hf st aS;subst dM hw gf;obtain⟨f0,f1,f2,gC,f4,gD⟩:=hf it (by simp);exact wpAny_pyNext_range_end (I.ok.hd aE) st (by have:n<=i:=aS;omega) fun h' cJ=>⟨rfl,I.turned (t':=s.toks) (fun b o aa e=>cJ b o aa e) f0 f1 gC f4 gD⟩
 self:=fun _ _ _ _ _ st h=>wpAny_pyIter_rangeiter st h
section
variable{X:aQ}{cc:Expr}
def Wg(K:aP)(tl:TE):TI:=fun σ H R=>tl σ H fun x H1=>∃a,x=.ref a/\(∃xs,c3 K H1 a xs)/\R (lz K a) H1
def Wh(K:aP)(tl:TE):TI:=fun σ H R=>tl σ H fun x H1=>∃a,x=.ref a/\(∃xs,dp K H1 a xs)/\R (ro K a) H1
theorem Dh(aj:bQ X l tl):jU X cc l (Wg X.K tl):=by
 intro pinZ s σ H R I h;refine bR (aj pinZ s σ H _ I h) fun v s1 aX=>?_
 obtain⟨x,H1,a8,bu,ba⟩:=aX;obtain⟨a,e,⟨xs,a4⟩,q⟩:=ba;subst e;cases bu;obtain⟨its,bI,p,hz⟩:=a8.list a4;refine ajA p.isList ?_;refine⟨s1.heap.objs.size,[s1.heap.objs.size],_,_,H1,rfl,a8.kept (t':=s1.toks) fun b o e=>ahI _ e,ac8 a _,⟨_,ahU _ rfl,rfl,rfl⟩,fun b aa=>?_,q⟩;have e:b=s1.heap.objs.size:=by simpa using aa
 subst e;exact a8.nK (ahM _) (a8.bF.fresh (ahM _))
theorem KV(aj:bQ X l tl):jU X cc l (Wh X.K tl):=by
 intro pinZ s σ H R I h;refine bR (aj pinZ s σ H _ I h) fun v s1 aX=>?_
 obtain⟨x,H1,a8,bu,ba⟩:=aX;obtain⟨a,e,⟨xs,a4⟩,q⟩:=ba;subst e;cases bu;obtain⟨its,bI,p,hz⟩:=a8.tuple a4;refine ake (show s1.heap.IsTuple a its.toArray from p) ?_;refine⟨s1.heap.objs.size,[s1.heap.objs.size],_,_,H1,rfl,a8.kept (t':=s1.toks) fun b o e=>ahI _ e,ada a _,⟨_,ahU _ rfl,rfl,rfl⟩,fun b aa=>?_,q⟩;have e:b=s1.heap.objs.size:=by simpa using aa
 subst e;exact a8.nK (ahM _) (a8.bF.fresh (ahM _))
theorem aas{pinZ:cP}{σ:St}{H:av}{s:ahL}{R:hM->av->Prop}{E:cu}{lo ay:Int}{t u v:Tok}{tk:Nat}(I:Inv X pinZ σ H s)(ae:-(2 ^ 62)<=lo)(ag:lo<2 ^ 62)(bK:-(2 ^ 62)<=ay)(dt:ay<2 ^ 62)
  (q:R (rm lo (ay-lo).toNat) H):wpAny (model X.prog X.w) X.A (pyIter (.ref s.heap.objs.size)) (EI X pinZ σ cc R) E { s with heap:=s.heap.push { cls:=.type "range",data:=.fields #[.int lo t,.int ay u,.int 1 v] },toks:=tk }:=by
 refine wpAny_pyIter_range (IsRange.new ..) (small_one ae ag bK dt) ?_;have a8:Inv X pinZ σ H { s with heap:=s.heap.push { cls:=.type "range",data:=.fields #[.int lo t,.int ay u,.int 1 v] },toks:=tk }:=I.kept fun b o e=>ahI _ e
 refine⟨(s.heap.push { cls:=.type "range",data:=.fields #[.int lo t,.int ay u,.int 1 v] }).objs.size,[(s.heap.push { cls:=.type "range",data:=.fields #[.int lo t,.int ay u,.int 1 v] }).objs.size],_,_,H,rfl,
  a8.kept (t':=tk) fun b o e=>ahI _ e,ac9 _ lo (ay-lo).toNat,?_,fun b aa=>?_,q⟩
 ·have aq:lo+((0:Nat):Int)*1=lo:=by simp
  have aD:(((ay-lo).toNat:Nat):Int)-((0:Nat):Int)=Builtin.Range.rangeSize lo ay 1:=by rw[rangeSize_one];split<;>omega
  show IsRangeIter _ _ (lo+((0:Nat):Int)*1) ((((ay-lo).toNat:Nat):Int)-((0:Nat):Int)) 1;rw[aq,aD];exact ahU _ rfl
 ·have e:b=(s.heap.push { cls:=.type "range",data:=.fields #[.int lo t,.int ay u,.int 1 v] }).objs.size:=by simpa using aa
  subst e;exact a8.nK (ahM _) (a8.bF.fresh (ahM _))
def BK(b0:fW):TI:=fun σ H R=>b0 σ H fun vs H1=>∃j:Int,vs=[.int j]/\-(2 ^ 62)<=j/\j<2 ^ 62/\R (rm 0 j.toNat) H1
theorem KU(aS:d3 X "range")(hm:X.mg "range"=none)(ao:e5 X [a] b0)(aC:ahK [a] X.env=[(false,eval a X.env)]:=by rfl):jU X cc (.Call (.Name "range" p) [a] [] pos) (BK b0):=by
 intro pinZ s σ H R I h;refine Call_ (pb I aS hm boot_range (ajI (bR (ao pos pinZ s σ H _ I h) fun us s1 ⟨vs,H1,a8,bu,ba⟩=>?_) aC rfl));obtain⟨j,e,ba,bU,q⟩:=ba;subst e
 cases bu with
 |cons r bo=>
  cases bo;obtain⟨t,rfl⟩:=r;exact call_range_1 (aas a8 (by omega) (by omega) ba bU (by simpa using q))
def pH(wi:TI)(g:i4)(cU:gT):gT:=fun D σ H=>wi σ H fun b9 H1=>∃W:Nat->Nat->St->av->Prop,(∃m,W 0 m σ H1)/\∀i m σ H,W i m σ H->
 (b9.stop i H/\D.bq σ H)\/(b9.go i H/\∃N:St->av->Prop,(∀σ' H',N σ' H'->∃ee,ee<m/\W (i+1) ee σ' H')/\∀x H',b9.ox i H x H'->g x σ H' fun c6 aJ=>cU { D with bq:=N,b':=N,eP:=D.bq } c6 aJ)
def qU(aL:List Addr)(h:Heap):List (Addr×Obj):=aL.filterMap fun b=>(h.get? b).map fun o=>(b,o)
theorem yn{h:Heap}(aa:b∈aL)(e:h.get? b=some o):(b,o)∈qU aL h:=List.mem_filterMap.mpr ⟨b,aa,by rw[e];rfl⟩
theorem YJ{h:Heap}(aI:p∈qU aL h):p.1∈aL/\h.get? p.1=some p.2:=by
 obtain⟨b,aa,e⟩:=List.mem_filterMap.mp aI
 cases q:h.get? b with
 |none=>rw[q]at e;cases e
 |some o=>
  rw[q]at e;have cf:(b,o)=p:=aih e;subst cf;exact⟨aa,q⟩
theorem Inv.pinned{s:ahL}(I:Inv X pinZ σ H s)(hf:∀b∈aL,gk X pinZ H b)(bc:∀b∈aL,∃o,s.heap.get? b=some o/\∀v,o.data≠.cell v):Inv X (pinZ++qU aL s.heap) σ H s:=
 I.KX fun p aI=>(aiL.mp aI).elim (fun z=>I.pin p (aiD _ z)) fun z=>by
  obtain⟨aa,e⟩:=YJ z;obtain⟨f0,f1,f2,_⟩:=hf p.1 aa;obtain⟨o,cf,d⟩:=bc p.1 aa;rw[e]at cf;cases cf;exact⟨e,f0,f1,f2,d⟩
theorem Inv.vE(I:Inv X (pinZ++pl) σ H s):Inv X pinZ σ H s:=I.KX fun p aI=>I.pin p (aiD _ (alg _ aI))
theorem sD{iter:Expr}{body:List Stmt}{wi:TI}{g:i4}{cU:gT}{pos:Pos}(aI:akA (model X.prog X.w) X.A X.env X.dA)(aE:X.calm=true)(ay:jU X cc iter wi)(aS:oJ X cc g)(aa:iC X body cU)
  (aC:∀x,aip iter X.env x=pure x:=by intro _;rfl):iB X (.For cc iter body [] pos) (pH wi g cU):=by
 intro pinZ s σ H D I h;refine wpAny_For (bR (ay pinZ s σ H _ I h) fun v s1 ae=>bR ae fun xO s2 ag=>?_) aC;obtain⟨it,aL,fw,b9,aJ,e,bM,T,cv,f2,W,⟨m0,q'⟩,turn⟩:=ag;subst e;have q2:∀{H':av},(∀b∈aL,H' b=none)->∀b∈aL,gk X pinZ H' b:=fun aH b aa=>⟨aH b aa,(f2 b aa).2⟩
 refine codeAny_forLoop_any (fun n aM=>∃i σ' H',Inv X pinZ σ' H' aM/\fw i aM.heap/\(∀b∈aL,H' b=none)/\W i n σ' H') ?_ m0 ⟨0,σ,aJ,bM,cv,fun b aa=>(f2 b aa).1,q'⟩;rintro n s3 ⟨i,vO,cG,dr,gL,Hw,ov⟩;rcases turn i n vO cG ov with⟨stop,yK⟩ | ⟨go,N,hN,step⟩
 ·refine akK aI (bR (T.done X rfl rfl rfl aE i pinZ s3 vO cG X.dA dr (q2 Hw) gL stop) fun r s4 aX=>?_)
  obtain⟨aG,i2⟩:=aX;subst aG;exact aml ⟨vO,cG,i2,yK⟩
 ·refine akK aI (bR (T.item X rfl rfl rfl aE i pinZ s3 vO cG X.dA dr (q2 Hw) gL go) fun r s4 aX=>?_)
  obtain⟨u,aG,dt⟩:=aX;subst aG;refine akK aI (bR dt fun _ s5 aX=>?_);obtain⟨x,kX,rl,Dr,aeo,sJ,xd⟩:=aX;have N':=rl.pinned (q2 xd) (T.obj _ _ sJ);refine akK aI (bR (aS _ s5 vO kX x u _ N' Dr (step x kX aeo)) fun _ gK aX=>?_);obtain⟨afj,N5,td,aad⟩:=aX;refine akK aI (bR (aa _ gK afj N5 _ td aad) fun f hA pE=>?_);have again:∀{mr:St}{jR:av},Inv X (pinZ++qU aL s5.heap) mr jR hA->N mr jR->∃m,m<n/\∃i σ' H',Inv X pinZ σ' H' hA/\fw i hA.heap/\(∀b∈aL,H' b=none)/\W i m σ' H':=fun{mr jR} kd uQ=>by
   obtain⟨ee,hm,adl⟩:=hN mr jR uQ;refine⟨ee,hm,i+1,mr,jR,kd.vE,T.keep _ _ _ sJ fun b aa o e=>(kd.pin (b,o) (aiD _ (aiD _ (yn aa e)))).1,fun b aa=>?_,adl⟩;obtain⟨o,e,d⟩:=T.obj _ _ sJ b aa;exact(kd.pin (b,o) (aiD _ (aiD _ (yn aa e)))).2.1
  cases f with
  |next=>obtain⟨mr,jR,kd,uQ⟩:=pE;exact again kd uQ
  |cont=>obtain⟨mr,jR,kd,uQ⟩:=pE;exact again kd uQ
  |brk=>obtain⟨mr,jR,kd,pE⟩:=pE;exact⟨mr,jR,kd.vE,pE⟩
  |ret v=>obtain⟨aei,mr,jR,kd,Ds,pE⟩:=pE;exact⟨aei,mr,jR,kd.vE,Ds,pE⟩
end
abbrev fG:=V->V->av->cZ->Prop
def d4(X:aQ)(f:Value->Value->Sem Value)(r:fG):Prop:=
 ∀(pinZ:cP)(s:ahL)(σ:St)(H:av)(x y:V)(v u:Value)(Q:cZ),Inv X pinZ σ H s->RelV x v->RelV y u->r x y H Q->
  wpAny (model X.prog X.w) X.A (f v u) (g7 X pinZ σ Q) X.dA s
def iZ(X:aQ)(f:Value)(r:List V->av->cZ->Prop):Prop:=
 ∀(pinZ:cP)(s:ahL)(σ:St)(H:av)(xs:List V)(us:List Value)(Q:cZ),Inv X pinZ σ H s->Vals xs us->r xs H Q->
  wpAny (model X.prog X.w) X.A (call f us) (g7 X pinZ σ Q) X.dA s
def vx(r:fG)(b0 cU:TE):TE:=fun σ H Q=>b0 σ H fun x H1=>cU σ H1 fun y aJ=>r x y aJ Q
def j8(C:Int->Int->Prop)(g:Int->Int->V):fG:=fun x y H Q=>∃i j,x=.int i/\y=.int j/\C i j/\Q (g i j) H
def hy(g:Int->Int->V):fG:=fun x y H Q=>∃i j,x=.int i/\y=.int j/\Q (g i j) H
section
variable{X:aQ}{a b:Expr}{b0 cU:TE}{pos:Pos}
theorem z9(ao:bQ X a b0)(aa:bQ X b cU){pinZ:cP}{s:ahL}{σ:St}{H:av}{R:V->V->av->Prop}(I:Inv X pinZ σ H s)
  (h:b0 σ H fun x H1=>cU σ H1 fun y aJ=>R x y aJ) {Q:cu}{f:Value->Value->Sem Value}
  (hf:∀v u s2 x y aJ,Inv X pinZ σ aJ s2->RelV x v->RelV y u->R x y aJ->wpAny (model X.prog X.w) X.A (f v u) Q X.dA s2) :
  wpAny (model X.prog X.w) X.A (eval a X.env) (fun v df=>wpAny (model X.prog X.w) X.A (eval b X.env) (fun u md=>wpAny (model X.prog X.w) X.A (f v u) Q X.dA md) X.dA df) X.dA s:=by
 refine bR (ao pinZ s σ H _ I h) fun v s1 aX=>?_
 obtain⟨x,H1,a8,bu,ba⟩:=aX;refine bR (aa pinZ s1 σ H1 _ a8 ba) fun u s2 aX=>?_
 obtain⟨y,aJ,bM,b4,bU⟩:=aX;exact hf v u s2 x y aJ bM bu b4 bU
theorem ZK{r:fG}(bc:d4 X (ajF op) r)(ao:bQ X a b0)(aa:bQ X b cU):bQ X (.BinOp a op b pos) (vx r b0 cU):=by
 intro pinZ s σ H Q I h;exact wpAny_BinOp (z9 ao aa I h fun v u s2 x y aJ bM a5 bt q=>bc pinZ s2 σ aJ x y v u Q bM a5 bt q)
theorem sy{f:Value->Value->Sem Value}{C:Int->Int->Prop}{g:Int->Int->Int}
  (rule:∀(i j:Int)(t u:Tok)(s:ahL)(Q:cu)(E:cu),C i j->Q (.int (g i j) s.toks) { s with toks:=s.toks+1 }->wpAny (model X.prog X.w) X.A (f (.int i t) (.int j u)) Q E s) :
  d4 X f (j8 C fun i j=>.int (g i j)):=by
 intro pinZ s σ H x y v u Q I a5 bt h;obtain⟨i,j,rfl,rfl,aE,q⟩:=h;obtain⟨t,rfl⟩:=a5;obtain⟨t',rfl⟩:=bt;exact rule i j t t' s _ _ aE ⟨.int (g i j),H,I.tok _,⟨_,rfl⟩,q⟩
theorem yA{f:Value->Value->Sem Value}{g:Int->Int->Int}
  (rule:∀(i j:Int)(t u:Tok)(s:ahL)(Q:cu)(E:cu),Q (.int (g i j) s.toks) { s with toks:=s.toks+1 }->wpAny (model X.prog X.w) X.A (f (.int i t) (.int j u)) Q E s) :
  d4 X f (hy fun i j=>.int (g i j)):=by
 intro pinZ s σ H x y v u Q I a5 bt h;obtain⟨i,j,rfl,rfl,q⟩:=h;obtain⟨t,rfl⟩:=a5;obtain⟨t',rfl⟩:=bt;exact rule i j t t' s _ _ ⟨.int (g i j),H,I.tok _,⟨_,rfl⟩,q⟩
theorem yz{f:Value->Value->Sem Value}{g:Int->Int->Bool}
  (rule:∀(i j:Int)(t u:Tok)(s:ahL)(Q:cu)(E:cu),Q (.bool (g i j)) s->wpAny (model X.prog X.w) X.A (f (.int i t) (.int j u)) Q E s) :
  d4 X f (hy fun i j=>.aA (g i j)):=by
 intro pinZ s σ H x y v u Q I a5 bt h;obtain⟨i,j,rfl,rfl,q⟩:=h;obtain⟨t,rfl⟩:=a5;obtain⟨t',rfl⟩:=bt;exact rule i j t t' s _ _ ⟨.aA (g i j),H,I,rfl,q⟩
def vT(i j:Int):Prop:=0<=j/\j<=1000000/\i.natAbs<2 ^ 64
def vS(i j:Int):Prop:=(-(2 ^ 64)<i/\i<2 ^ 64)\/(-(2 ^ 64)<j/\j<2 ^ 64)
theorem vS.ok{i j:Int}(h:vS i j):IntMulOk i j:=by
 rcases h with⟨ae,ag⟩ | ⟨ae,ag⟩
 ·exact .of_left (intBits_le_64 ae ag)
 ·exact .of_right (intBits_le_64 ae ag)
theorem ade(k:Nat):(0:Int)<=2 ^ k:=by
 rw[two_pow_cast];exact Int.natCast_nonneg _
theorem YQ:d4 X (ajF .Add) (hy fun i j=>.int (i+j)):=yA fun _ _ _ _ _ _ _ q=>add_int q
theorem Y5:d4 X (ajF .Sub) (hy fun i j=>.int (i-j)):=yA fun _ _ _ _ _ _ _ q=>sub_int q
theorem YY:d4 X (ajF .Mod) (j8 (fun _ j=>0<j) fun i j=>.int (i % j)):=sy fun i j _ _ _ _ _ aE q=>by
 have ae:(0:Int)<j:=aE;exact mod_int' (by omega) (by rw[Int.fmod_eq_emod_of_nonneg i (by omega)];exact q)
theorem Y2:d4 X (ajF .Pow) (j8 vT fun i j=>.int (i ^ j.toNat)):=sy fun _ _ _ _ _ _ _ aE q=>pow_int_small aE.1 aE.2.1 aE.2.2 q
theorem Y3:d4 X (ajF .LShift) (j8 vT fun i j=>.int (i*2 ^ j.toNat)):=sy fun _ _ _ _ _ _ _ aE q=>lshift_int_small aE.1 aE.2.1 aE.2.2 q
theorem Y4:d4 X (ajF .RShift) (j8 (fun _ j=>0<=j) fun i j=>.int (i / 2 ^ j.toNat)):=sy fun i j _ _ _ _ _ aE q=>
 rshift_int aE (by rw[alM i (ade _)];exact q)
theorem YS:d4 X (ajF .BitAnd) (hy fun i j=>.int (aku i j)):=yA fun _ _ _ _ _ _ _ q=>and_int q
theorem Y1:d4 X (ajF .BitOr) (hy fun i j=>.int (ak5 i j)):=yA fun _ _ _ _ _ _ _ q=>or_int q
end
section
variable{X:aQ}{a b c:Expr}{b0 cU sP:TE}{pos:Pos}
theorem AW{Q:cZ}{k l2:Bool}(I:Inv X pinZ σ H s)(q:Q (.aA k) H)(e:k=l2):g7 X pinZ σ Q (.bool l2) s:=by
 subst e;exact⟨.aA k,H,I,rfl,q⟩
theorem KA:d4 X (ais .Lt) (hy fun i j=>.aA (decide (i<j))):=yz fun _ _ _ _ _ _ _ q=>lt_int q
theorem Dc:d4 X (ais .LtE) (hy fun i j=>.aA (decide (i<=j))):=yz fun _ _ _ _ _ _ _ q=>le_int q
theorem YW:d4 X (ais .Gt) (hy fun i j=>.aA (decide (j<i))):=yz fun _ _ _ _ _ _ _ q=>gt_int q
theorem Kw:d4 X (ais .GtE) (hy fun i j=>.aA (decide (j<=i))):=yz fun _ _ _ _ _ _ _ q=>ge_int q
theorem Ky:d4 X (ais .In) (fun x y H Q=>∃i j,x=.str i/\y=.str j/\Q (.aA (!(aj9 j i 0 j.length 1).isEmpty)) H):=by
 intro pinZ s σ H x y v u Q I a5 bt h;obtain⟨i,j,rfl,rfl,q⟩:=h;obtain⟨t,rfl⟩:=a5;obtain⟨t',rfl⟩:=bt;exact in_str (AW I q rfl)
theorem Kz:d4 X (ais .Is) (fun x y H Q=>y=.aW/\Q (.aA (decide (x=.aW))) H):=by
 intro pinZ s σ H x y v u Q I a5 bt h;obtain⟨rfl,q⟩:=h;cases bt;refine is_none_gen (AW I q ?_);cases x<;>first
  |(cases a5;rfl)
  |(obtain⟨t,rfl⟩:=a5;rfl)
theorem KC:d4 X (ais .IsNot) (fun x y H Q=>y=.aW/\Q (.aA (!decide (x=.aW))) H):=by
 intro pinZ s σ H x y v u Q I a5 bt h;obtain⟨rfl,q⟩:=h;cases bt;refine isnot_none_gen (AW I q ?_);cases x<;>first
  |(cases a5;rfl)
  |(obtain⟨t,rfl⟩:=a5;rfl)
theorem ja(b:Expr)(h:op≠.In:=by decide)(ag:op≠.NotIn:=by decide):ajC op b=false:=by
 have aq:(op==CmpOp.In)=false:=by cases op<;>first | rfl | exact absurd rfl h
 have aD:(op==CmpOp.NotIn)=false:=by cases op<;>first | rfl | exact absurd rfl ag
 cases b<;>simp[ajC,aq,aD]
theorem Zs{r:fG}(bc:d4 X (ais op) r)(ao:bQ X a b0)(aa:bQ X b cU)(hm:ajC op b=false):bQ X (.Compare a [op] [b] pos) (vx r b0 cU):=by
 intro pinZ s σ H Q I h;exact wpAny_Compare1 (z9 ao aa I h fun v u s2 x y aJ bM a5 bt q=>bc pinZ s2 σ aJ x y v u Q bM a5 bt q) hm
def vz(t:TE):TT:=fun σ H Q=>t σ H fun x H'=>∃k,x=.aA k/\Q k H'
theorem Z8{r:fG}(bc:d4 X (ais op) r)(ao:bQ X a b0)(aa:bQ X b cU)(hm:ajC op b=false):iD X (.Compare a [op] [b] pos) (vz (vx r b0 cU)):=by
 intro pinZ s σ H Q I h;refine wpAny_isTrue_Compare1 (bR (ao pinZ s σ H _ I h) fun v s1 ⟨x,H1,a8,bu,ba⟩=>bR (aa pinZ s1 σ H1 _ a8 ba) fun u s2 ⟨y,aJ,bM,b4,bU⟩=>
  bR (bc pinZ s2 σ aJ x y v u _ bM bu b4 bU) fun c s3 ⟨z,cG,dr,oe,k,e,gZ⟩=>?_) hm
 subst e;cases oe;exact ai2 ⟨cG,dr,gZ⟩
def MP(r bL:fG)(b0 cU sP:TE):TE:=fun σ H Q=>b0 σ H fun x H1=>cU σ H1 fun y aJ=>r x y aJ fun z cG=>∃k,z=.aA k/\
 (if k=true then sP σ cG fun eL hp=>bL y eL hp Q else Q (.aA false) cG)
theorem Z7{op sx:CmpOp}{r bL:fG}(bc:d4 X (ais op) r)(hZ:d4 X (ais sx) bL)(ao:bQ X a b0)(aa:bQ X b cU)(aE:bQ X c sP)
  (hm:lastMarks [op,sx] [b,c]=false:=by with_unfolding_all rfl):iD X (.Compare a [op,sx] [b,c] pos) (vz (MP r bL b0 cU sP)):=by
 intro pinZ s σ H Q I h;refine isTrue_chain (bR (ao pinZ s σ H _ I h) fun v s1 ⟨x,H1,a8,bu,ba⟩=>test_link (bR (aa pinZ s1 σ H1 _ a8 ba) fun u s2 ⟨y,aJ,bM,b4,bU⟩=>
  bR (bc pinZ s2 σ aJ x y v u _ bM bu b4 bU) fun d s3 ⟨z,cG,dr,oe,k,e,gZ⟩=>?_)) hm
 subst e;cases oe;refine ai2 ?_
 cases k with
 |false=>
  obtain⟨l2,cf,eA⟩:=gZ;cases cf;exact ite_ff ⟨cG,dr,eA⟩
 |true=>
  refine ite_tt (test_last (bR (aE pinZ s3 σ cG _ dr gZ) fun eL s4 ⟨kQ,hp,i2,ng,Dq⟩=>bR (hZ pinZ s4 σ hp y kQ u eL _ i2 b4 ng Dq) fun d' s5 aX=>?_));obtain⟨d2,kX,rl,Dr,eF,aD,aac⟩:=aX;subst aD;cases Dr;exact ai2 ⟨kX,rl,aac⟩
theorem uy:(ahQ:Nat)<2 ^ 63:=by rw[ah8];decide
theorem YR:d4 X (ajF .Add) (fun x y H Q=>∃i j,x=.str i/\y=.str j/\i.length+j.length<=ahQ/\Q (.str (i++j)) H):=by
 intro pinZ s σ H x y v u Q I a5 bt h;obtain⟨i,j,rfl,rfl,hz,q⟩:=h;obtain⟨t,rfl⟩:=a5;obtain⟨t',rfl⟩:=bt;exact add_str (fun t' tk=>⟨.str (i++j),H,I.tok _,⟨_,rfl⟩,q⟩) hz
theorem vals1(r:Vals [x] us):∃u,us=[u]/\RelV x u:=by
 cases r with
 |cons bu b4=>cases b4;exact⟨_,rfl,bu⟩
theorem vals2(r:Vals [x,y] us):∃u eL,us=[u,eL]/\RelV x u/\RelV y eL:=by
 cases r with
 |cons bu b4=>
  cases b4 with
  |cons oe ng=>cases ng;exact⟨_,_,rfl,bu,oe⟩
theorem QO:iZ X (.builtin "abs") (fun xs H Q=>∃i,xs=[.int i]/\Q (.int (if i<0 then -i else i)) H):=by
 intro pinZ s σ H xs us Q I r h;obtain⟨i,rfl,q⟩:=h;obtain⟨u,rfl,t,rfl⟩:=vals1 r;exact call_abs_int fun u tk=>⟨.int (if i<0 then -i else i),H,I.tok _,⟨_,rfl⟩,q⟩
theorem QV(aE:X.calm=true):iZ X (.builtin "max") (fun xs H Q=>∃i j,xs=[.int i,.int j]/\Q (.int (if j > i then j else i)) H):=by
 intro pinZ s σ H xs us Q I r h;obtain⟨i,j,rfl,q⟩:=h;obtain⟨u,eL,rfl,⟨t,rfl⟩,⟨t',rfl⟩⟩:=vals2 r;refine max_two_ints (I.ok.hd aE) fun h' tk k=>⟨_,H,I.kept k,?_,q⟩
 by_cases aZ:j > i
 ·rw[if_pos aZ,if_pos aZ];exact⟨_,rfl⟩
 ·rw[if_neg aZ,if_neg aZ];exact⟨_,rfl⟩
theorem QQ:iZ X (.type "int") (fun xs H Q=>(∃i,xs=[.int i]/\Q (.int i) H)\/∃k,xs=[.aA k]/\Q (.int (if k then 1 else 0)) H):=by
 intro pinZ s σ H xs us Q I r h;rcases h with⟨i,rfl,q⟩ | ⟨k,rfl,q⟩
 ·obtain⟨u,rfl,t,rfl⟩:=vals1 r
  exact call_int_int ⟨.int i,H,I,⟨_,rfl⟩,q⟩
 ·obtain⟨u,rfl,bu⟩:=vals1 r
  cases bu;exact call_int_bool ⟨.int (if k then 1 else 0),H,I.tok _,⟨_,rfl⟩,q⟩
end
structure pW(h:Heap)(x bV C:Addr)(d7:bk):Prop where
 obj:h.get? x=some (akP C bV)
 ns:h.Ns1 bV d7
 ne:bV≠x
theorem XP{h:Heap}{d7:bk}(n:h.Ns1 bV d7):∃c1,h.get? bV=some c1/\∀name,W.lookIn name c1=some (d7 name):=by
 obtain⟨o,ax,cI,bc,hd,az,_,hm⟩:=n;refine⟨o,bc,fun name=>?_⟩;have e:=hm name;unfold nsFind alB at e;rw[<-Array.find?_toList]at e;unfold W.lookIn;rw[hd];dsimp only;split
 ·rename_i y q
  rw[q]at e;exact congrArg some e
 ·rename_i q
  rw[q]at e;have a:ax.toList.any (·.refKey)=false:=by
   rw[List.any_eq_false];intro y a';obtain⟨z,t,xw⟩:=az y (Array.mem_toList_iff.mp a');simp[DictEntry.refKey,xw]
  have Oo:¬ax.toList.any (·.refKey)=true:=by rw[a];exact ahV
  rw[if_neg Oo];exact congrArg some e
theorem pW.look{d7:bk}(I:pW h x bV C d7):∃c1,W.InstAt h x (akP C bV) C (some c1)/\∀name,W.lookIn name c1=some (d7 name):=
 let⟨c1,bc,aj⟩:=XP I.ns
 ⟨c1,⟨I.obj,rfl,rfl,bc⟩,aj⟩
section
variable{prog:ah1}{w:World}{A:ah6}{E:cu}{s:ahL}{K:aP}{x bV C f:Addr}{d7:bk}{name:Str}{v:Value}
theorem get_map{expr:Bool}{Q:cu}(X:K.In s.heap)(I:pW s.heap x bV C d7)(aS:alY K C name=true)(dX:amr K C=true)
  (ao:ajQ K (.ref C) name=some none) (bz:d7 name=some v) (jH:W.handedIn v=true) (h:Q v { s with toks:=s.toks+1 }) :
  wpAny (model prog w) A (getAttr (.ref x) name expr) Q E s:=by
 obtain⟨c1,b9,aj⟩:=I.look;exact W.get_value X b9 (W.plainGet_of aS).1 (W.findObj_own dX ao rfl (by rw[aj,bz])) jH h
theorem TA{pl:Sem Bool}{Q:Value×List Value->ahL->Prop}(X:K.In s.heap)(I:pW s.heap x bV C d7)(aS:alY K C name=true)
  (hf:ajQ K (.ref C) name=some (some (.ref f))) (bG:W.isFn K (.ref f)=true) (bz:d7 name=none) (h:Q (.ref f,[.ref x]) s) :
  wpAny (model prog w) A (ajW (.ref x) name pl) Q E s:=by
 obtain⟨c1,b9,aj⟩:=I.look;exact W.method_fn X b9 (W.plainGet_of aS).1 (W.plainGet_of aS).2 hf (beq_iff_eq.mp bG) (by show(W.lookIn name c1).map (·.isSome)=some false;rw[aj,bz];rfl) h
theorem abX{ns:List Str}{Q:Unit->ahL->Prop}(X:K.In s.heap)(I:pW s.heap x bV C d7)
  (aC:ajQ K (.ref C) "__setattr__"=some (some (.builtin "object.__setattr__"))) (aI:W.plainOver K C=true) (bG:W.takerIn K C name=some none) (dX:amr K C=true)
  (hw:Within d7 ns) (hsz:ns.length<=ahQ)
  (h:∀h',pW h' x bV C (fun y=>if y=name then some v else d7 y)->alh bV s.heap h'->Q () { s with heap:=h',toks:=s.toks+2 }) :
  wpAny (model prog w) A (setAttr (.ref x) name v) Q E s:=by
 obtain⟨c1,b9,aj⟩:=I.look;refine W.set_plain X b9 aC (W.osa_open (s:={ s with toks:=s.toks+1 }) (r:=none) X b9 aI bG fun b=>?_);obtain⟨cd,aE,ub⟩:=W.any_some dX;have ah:s.heap.get? x=some ⟨.ref C,some bV,.plain,#[]⟩:=I.obj;refine ahH (ahO (ahH (ahH (wpAny_loadPart ah (ahH (W.Looks.here (s:={ s with toks:=s.toks+1 }) (W.looks_clsIn X aE) ?_))))));rw[ub];refine ahO (a:=some bV) (ahH (ahO (ahH ?_)));refine wpAny_nsSet1 (s:={ s with toks:=s.toks+1 }) I.ns fun h' rZ kz=>?_
 obtain⟨ahn,ag3,ag2,VX,Ve,Vc⟩:=rZ.count (Within.cons name v hw);refine ahH (wpAny_lookBehind VX (by rw[Ve];exact pastItsLine_dict (aiS Vc (by rw[ahX];omega))) ?_);exact ahO (h _ ⟨(kz.2 _ (aks I.ne)).trans I.obj,rZ,I.ne⟩ kz)
theorem XX{R:Result->ahL->Prop}{vs:List Value}{kw:List (Str×Value)}(X:K.In s.heap)(hm:W.makesIn K C=true)
  (ay:ajQ K (.ref C) "__init__"=some (some (.ref f))) (hf:W.typeIn K (.ref f)=some (.type "function"))
  (h:akv (model prog w) (A.under (.builtin "type.__call__" ⟨.ref C::vs,kw⟩)) (.call (.ref f) ⟨.ref (s.heap.objs.size+1)::vs,kw⟩) (W.InitBack (s.heap.objs.size+1) R)
   { s with heap:=(s.heap.push ajX).push (akP C s.heap.objs.size) }) :
  akv (model prog w) A (.call (.ref C) ⟨vs,kw⟩) R s:=by
 obtain⟨dX,g,d,t,os⟩:=s;exact W.make_core (W.makes_of X hm) (W.looks_findIn X ay) (fun self=>W.bind_fn X self hf) (.inl rfl) h
end
def h6(f:Str)(v:V):List (Str×V)->List (Str×V)
 |[]=>[(f,v)]
 |(g,x)::r=>if g=f then(g,v)::r else(g,x)::h6 f v r
theorem JF(f g:Str)(v:V):∀aV:List (Str×V),(h6 f v aV).lookup g=if g=f then some v else aV.lookup g
 |[]=>by
  show ajm g [(f,v)]=_
  by_cases h:g=f
  ·have aa:(g==f)=true:=beq_iff_eq.mpr h
   simp only[ajm,aa,if_pos h]
  ·have aa:(g==f)=false:=beq_eq_false_iff_ne.mpr h
   simp only[ajm,aa,if_neg h]
 |(k,x)::r=>by
  have a9:=JF f g v r;rw[show h6 f v ((k,x)::r)=(if k=f then(k,v)::r else(k,x)::h6 f v r)from rfl]
  by_cases az:k=f
  ·rw[if_pos az]
   by_cases h:g=k
   ·have aa:(g==k)=true:=beq_iff_eq.mpr h
    simp only[ajm,aa,if_pos (h.trans az)]
   ·have aa:(g==k)=false:=beq_eq_false_iff_ne.mpr h
    simp only[ajm,aa,if_neg (fun e:g=f=>h (e.trans az.symm))]
  ·rw[if_neg az]
   by_cases h:g=k
   ·have aa:(g==k)=true:=beq_iff_eq.mpr h
    simp only[ajm,aa,if_neg (fun e:g=f=>az (h.symm.trans e))]
   ·have aa:(g==k)=false:=beq_eq_false_iff_ne.mpr h
    simp only[ajm,aa];exact a9
theorem B4(f:Str)(v:V):∀aV:List (Str×V),f∈(h6 f v aV).map (·.1)/\∀g,g∈aV.map (·.1)->g∈(h6 f v aV).map (·.1)
 | []=>⟨by simp[h6],fun g h=>by simp at h⟩
 |(k,x)::r=>by
  obtain⟨fh,fA⟩:=B4 f v r;rw[show h6 f v ((k,x)::r)=(if k=f then(k,v)::r else(k,x)::h6 f v r)from rfl]
  by_cases az:k=f
  ·rw[if_pos az]
   subst az;exact⟨by simp,fun g h=>by simpa using h⟩
  ·rw[if_neg az]
   refine⟨?_,fun g h=>?_⟩
   ·rw[ahT]
    exact ahR _ fh
   ·rw[ahT]at h ⊢
    rcases ahP.mp h with e | e
    ·exact ahP.mpr (.inl e)
    ·exact ahR _ (fA g e)
theorem JA(f:Str)(v:V):∀aV:List (Str×V),(h6 f v aV).length<=aV.length+1
 | []=>by simp[h6]|(k,x)::r=>by
  have a9:=JA f v r;rw[show h6 f v ((k,x)::r)=(if k=f then(k,v)::r else(k,x)::h6 f v r)from rfl]
  by_cases az:k=f
  ·rw[if_pos az,ahX,ahX];omega
  ·rw[if_neg az,ahX,ahX];omega
theorem ig.some_of{v:V}(r:ig (some v) o):∃u,o=some u/\RelV v u:=by
 cases o with
 |none=>exact(show False from r).elim|some u=>exact⟨u,rfl,r⟩
theorem ig.none_of(r:ig none o):o=none:=by
 cases o with
 |none=>rfl|some u=>exact(show False from r).elim
theorem T_{v:V}(r:RelV v u):W.handedIn u=true:=by
 cases v with
 |aW=>cases(show u=aiX from r);rfl
 |aA b=>cases(show u=akb b from r);rfl
 |int i=>obtain⟨t,e⟩:=(show ∃t,u=ala i t from r);cases e;rfl
 |str x=>obtain⟨t,e⟩:=(show ∃t,u=alz x t from r);cases e;rfl
 |wH b=>obtain⟨t,e⟩:=(show ∃t,u=Value.bytes b t from r);cases e;rfl
 |w_ b=>obtain⟨t,e⟩:=(show ∃t,u=Value.float b t from r);cases e;rfl
 |ref a=>cases(show u=aid a from r);rfl
 |ty n=>cases(show u=akW n from r);rfl
section
variable{P:ah1}{w:World}{H:av}{h:Heap}{a C bV:Addr}{aV:List (Str×V)}
theorem BO(bF:e4 P w H h)(e:H a=some (.ins C bV aV)):∃d7,pW h a bV C d7/\(∀f,ig (aV.lookup f) (d7 f))/\Within d7 (aV.map (·.1))/\aV.length<=1000/\H bV=some (.own a):=by
 obtain⟨d,z,ne,bA,d7,n,r,q⟩:=(show gz P w H h a (.ins C bV aV)from bF a _ e);exact⟨d7,⟨bA,n,ne⟩,r,q,z,d⟩
end
structure i0(K:aP)(C:Addr):Prop where
 u6:alY K C Str.empty=true
 hd:amr K C=true
 po:W.plainOver K C=true
 oi:ajQ K (.ref C) "__setattr__"=some (some (.builtin "object.__setattr__"))
theorem i0.get{K:aP}{C:Addr}(c:i0 K C)(f:Str):alY K C f=true:=c.u6
def pU(K:aP)(C:Addr)(f:Str):Prop:=ajQ K (.ref C) f=some none
theorem pU.acT{K:aP}{C:Addr}{f:Str}(n:pU K C f):W.takerIn K C f=some none:=by
 unfold W.takerIn;rw[show ajQ K (.ref C) f=some none from n];rfl
structure Meth(K:aP)(C:Addr)(m:Str)(f:Addr):Prop where
 at_:ajQ K (.ref C) m=some (some (.ref f))
 fn:W.isFn K (.ref f)=true
 kp:ajG K (.ref f)=true
section
variable{X:aQ}{pinZ:cP}{σ:St}{H:av}{s:ahL}{a C bV:Addr}{aV:List (Str×V)}{f:Str}{v:V}{A:ah6}{E:cu}
theorem TB{b:Bool}{Q:cu}(I:Inv X pinZ σ H s)(e:H a=some (.ins C bV aV))(c:i0 X.K C)(n:pU X.K C f)(l:aV.lookup f=some v)
  (h:∀u aM,Inv X pinZ σ H aM->RelV v u->Q u aM):wpAny (model X.prog X.w) A (getAttr (.ref a) f b) Q E s:=by
 obtain⟨d7,O,r,_,_,_⟩:=BO I.bF e;obtain⟨u,cb,dD⟩:=ig.some_of (v:=v) (o:=d7 f) (by rw[<-l];exact r f);exact get_map I.eZ O (c.get f) c.hd n cb (T_ dD) (h u _ (I.tok _) dD)
theorem A9{m:Str}{g:Addr}{pl:Sem Bool}{Q:Value×List Value->ahL->Prop}(I:Inv X pinZ σ H s)(e:H a=some (.ins C bV aV))(c:i0 X.K C)(k:Meth X.K C m g)(l:aV.lookup m=none)
  (h:Q (.ref g,[.ref a]) s):wpAny (model X.prog X.w) A (ajW (.ref a) m pl) Q E s:=by
 obtain⟨d7,O,r,_,_,_⟩:=BO I.bF e;have aH:d7 m=none:=ig.none_of (by rw[<-l];exact r m);exact TA I.eZ O (c.get m) k.at_ k.fn aH h
theorem abY{y:V}{u:Value}{Q:Unit->ahL->Prop}(I:Inv X pinZ σ H s)(e:H a=some (.ins C bV aV))(c:i0 X.K C)(n:pU X.K C f)(aj:aV.length<1000)(bt:RelV y u)
  (h:∀aM,Inv X pinZ σ (upd H a (.ins C bV (h6 f y aV))) aM->Q () aM):wpAny (model X.prog X.w) A (setAttr (.ref a) f u) Q E s:=by
 obtain⟨d7,O,r,wi,_,bc⟩:=BO I.bF e;have hz:(aV.map (·.1)).length<=ahQ:=by rw[ahJ,ah8];omega
 refine abX I.eZ O c.oi c.po n.acT c.hd wi hz fun h' ai kH=>h _ ?_
 have hd:∃o,h'.get? bV=some o:=let⟨o,_,_,cf,_⟩:=ai.ns;⟨o,cf⟩
 refine I.write (x:=a) (e:=bV) (by rw[e];exact aja) (.inr bc) (fun b q aa z=>(kH.2 b aa).trans z) hd ?_;refine⟨by rw[cX O.ne];exact bc,?_,O.ne,ai.obj,_,ai.ns,fun g=>?_,fun g aS=>?_⟩
 ·have:=JA f y aV;omega
 ·show ig ((h6 f y aV).lookup g) (if g=f then some u else d7 g)
  rw[JF]
  by_cases q:g=f
  ·rw[if_pos q,if_pos q];exact bt
  ·rw[if_neg q,if_neg q];exact r g
 ·by_cases q:g=f
  ·rw[q];exact(B4 f y aV).1
  ·refine(B4 f y aV).2 g (wi g fun z=>aS ?_)
   show(if g=f then some u else d7 g)=none;rw[if_neg q];exact z
theorem Inv.made(I:Inv X pinZ σ H s):Inv X pinZ σ (upd (upd H s.heap.objs.size (.own (s.heap.objs.size+1))) (s.heap.objs.size+1) (.ins C s.heap.objs.size []))
  { s with heap:=(s.heap.push ajX).push (akP C s.heap.objs.size) }:=by
 have aq:(s.heap.push ajX).get? s.heap.objs.size=some ajX:=ahU s.heap rfl;have aD:((s.heap.push ajX).push (akP C s.heap.objs.size)).get? (s.heap.objs.size+1)=some (akP C s.heap.objs.size):=by
  have:=ahU (s.heap.push ajX) (o:=akP C s.heap.objs.size) rfl
  rwa[ajY]at this
 have cQ:(s.heap.push ajX).Ns s.heap.objs.size (fun _=>none):=⟨ajX,#[],_,aq,rfl,(fun e he=>absurd he (by simp)),fun _=>rfl⟩;have a8:=I.laid (a:=s.heap.objs.size) (o:=.own (s.heap.objs.size+1)) (h':=s.heap.push ajX) (t':=s.toks) (fun b u q=>ahI _ q) (ahM _) ⟨_,aq⟩;refine a8.laid (a:=s.heap.objs.size+1) (o:=.ins C s.heap.objs.size []) (t':=s.toks) (fun b u q=>ahI _ q) (ajn (ajY _ _)) ?_;have ne:s.heap.objs.size≠s.heap.objs.size+1:=ah5 (al8 _);refine⟨by rw[cX ne,de],aib _,ne,aD,fun _=>none,(Heap.Ns1.of_empty cQ).at fun o q=>ahI _ q,fun _=>aja,fun y a'=>absurd rfl a'⟩
theorem OF{prog:ah1}{w:World}{env:Env}{e:Expr}{f:Str}{pos:Pos}{s:ahL}{Q:cu}(aa:ajr e f env (eval e env)=eval e env)
  (h:wpAny (model prog w) A (eval e env) (fun o df=>wpAny (model prog w) A (getAttr o f true) Q E df) E s):wpAny (model prog w) A (eval (.Attribute e f pos) env) Q E s:=
 Attribute_any_ h (by rw[arm_eval_Attribute,aa])
end
def acz(K:aP)(b0:TE)(f:Str):TE:=fun σ H Q=>b0 σ H fun x H1=>∃a C bV aV v,x=.ref a/\H1 a=some (.ins C bV aV)/\i0 K C/\pU K C f/\aV.lookup f=some v/\Q v H1
def aaK(K:aP)(b0 kM:TE)(f:Str):gT:=fun D σ H=>kM σ H fun y H1=>b0 σ H1 fun x aJ=>∃a C bV aV,x=.ref a/\aJ a=some (.ins C bV aV)/\i0 K C/\pU K C f/\aV.length<1000/\
 D.bq σ (upd aJ a (.ins C bV (h6 f y aV)))
section
variable{X:aQ}{o e value:Expr}{f:Str}{pos pos':Pos}{b0 kM:TE}
theorem Zx(he:bQ X e b0)(aa:ajr e f X.env (eval e X.env)=eval e X.env):bQ X (.Attribute e f pos) (acz X.K b0 f):=by
 intro pinZ s σ H Q I h;refine OF aa (bR (he pinZ s σ H _ I h) fun u s1 aX=>?_);obtain⟨x,H1,a8,a5,a,C,bV,aV,v,ex,gb,c,n,l,q⟩:=aX;subst ex;obtain rfl:u=aid a:=a5;exact TB a8 gb c n l fun u' s2 bM dD=>⟨v,H1,bM,dD,q⟩
theorem Z4(ao:bQ X o b0)(bz:bQ X value kM)(aC:aje value (some (.Attribute o f pos')) pos.line X.env=pure false):iB X (.Assign [.Attribute o f pos'] value pos) (aaK X.K b0 kM f):=by
 intro pinZ s σ H D I h;refine plainObj_wpAny_Assign_Attribute (bR (bz pinZ s σ H _ I h) fun u s1 ⟨y,H1,a8,bt,q⟩=>bR (ao pinZ s1 σ H1 _ a8 q) fun ef s2 ⟨x,aJ,bM,a5,a,C,bV,aV,ex,gb,c,n,l,bU⟩=>?_) aC;subst ex;obtain rfl:ef=aid a:=a5;exact abY bM gb c n l bt fun s3 dr=>⟨σ,_,dr,bU⟩
theorem ahl{pl:Sem Bool}{m:Str}{apos:Pos}{args:List Expr}{pinZ:cP}{s:ahL}{σ:St}{H:av}{Q:cu}{te:TE}(he:bQ X e te)(I:Inv X pinZ σ H s)
  (h:te σ H fun x H1=>∃a C bV aV g,x=.ref a/\H1 a=some (.ins C bV aV)/\i0 X.K C/\Meth X.K C m g/\aV.lookup m=none/\
   ∀s1,Inv X pinZ σ H1 s1->wpAny (model X.prog X.w) X.A (akB pos (.ref g) [.ref a] (aie pos (ahK args X.env)) (ajv pos (ai6 [] X.env))) Q X.dA s1)
  (bG:eval (.Call (.Attribute e m apos) args [] pos) X.env=(do
   let ef <-eval e X.env
   akt apos.atName
   let(f,first) <-ajz [ef] (ajW ef m pl)
   akB pos f first (aie pos (ahK args X.env)) (ajv pos (ai6 [] X.env)))) :
  wpAny (model X.prog X.w) X.A (eval (.Call (.Attribute e m apos) args [] pos) X.env) Q X.dA s:=by
 refine amm (pl:=pl) (bR (he pinZ s σ H _ I h) fun u s1 ⟨x,H1,a8,a5,a,C,bV,aV,g,ex,gb,c,k,l,q⟩=>?_) bG;subst ex;obtain rfl:u=aid a:=a5;exact A9 a8 gb c k l (q s1 a8)
end
structure cB(k:Nat)(A:ah6):Prop where
 hd:A.handled=none
 tJ:A.depth+3*k+5<recursionLimit
 un:A.units+16*k+200<cLine
theorem cB.mono{j k:Nat}(r:cB k A)(h:j<=k):cB j A:=⟨r.hd,by have:=r.tJ;omega,by have:=r.un;omega⟩
theorem cB.deeper{k:Nat}{A:ah6}(r:cB (k+1) A)(env:Env):cB k (A.deeper env):=
 ⟨r.hd,by have:=r.tJ;show A.depth+1+3*k+5 < _;omega,by have:=r.un;show A.units+3+16*k+200 < _;omega⟩
theorem cB.in1{k:Nat}{A:ah6}(r:cB (k+1) A):cB k A.in1:=
 ⟨r.hd,by have:=r.tJ;show A.depth+3*k+5 < _;omega,by have:=r.un;show A.units+1+16*k+200 < _;omega⟩
theorem XW{A:ah6}:(A.under (.builtin "type.__call__" ⟨.ref C::us,kw⟩)).depth=A.depth+1:=by
 first | rfl | simp[amM,Code.weight,Code.isCreation,Code.isGuard,Code.isCaller,Code.frames,Code.isFrame,guardIds]
theorem XY{A:ah6}:(A.under (.builtin "type.__call__" ⟨.ref C::us,kw⟩)).units=A.units+1:=by
 first | rfl | simp[amM,Code.cUnits,Code.frames,Code.isFrame]
theorem cB.make{k:Nat}{A:ah6}(r:cB (k+1) A)(C:Addr)(us:List Value)(kw:List (Str×Value)):cB k (A.under (.builtin "type.__call__" ⟨.ref C::us,kw⟩)):=
 ⟨r.hd,by have:=r.tJ;rw[XW];omega,by have:=r.un;rw[XY];omega⟩
theorem cB.depth{k:Nat}{A:ah6}(r:cB k A):A.depth<recursionLimit:=by have:=r.tJ;omega
theorem cB.units{k:Nat}{A:ah6}(r:cB k A):A.units+64<cLine:=by have:=r.un;omega
theorem cB.adg{k:Nat}{A:ah6}(r:cB k A):A.units<cLine:=by have:=r.un;omega
def vw:fW:=fun _ H Q=>Q [] H
def acs(b0:TE)(kK:fW):fW:=fun σ H Q=>b0 σ H fun x H1=>kK σ H1 fun xs aJ=>Q (x::xs) aJ
section
variable{X:aQ}{e:Expr}{ax:List Expr}{te:TE}{t:fW}{pos:Pos}
theorem yF:e5 X [] vw:=fun _ _ _ _ H Q I h=>alS ⟨[],H,I,.nil,h⟩
theorem yE(ao:bQ X e te)(aG:e5 X ax t)(aC:ahK (e::ax) X.env=(false,eval e X.env)::ahK ax X.env:=by rfl):e5 X (e::ax) (acs te t):=by
 intro pos pinZ s σ H Q I h;rw[aC];show wpAny _ _ (spliced ((false,eval e X.env)::aie pos (ahK ax X.env))) _ _ s;refine akQ (bR (ao pinZ s σ H _ I h) fun u s1 aX=>?_);obtain⟨x,H1,a8,bu,ba⟩:=aX;exact bR (aG pos pinZ s1 σ H1 _ a8 ba) fun us s2 ⟨xs,aJ,bM,b4,bU⟩=>⟨x::xs,aJ,bM,.cons bu b4,bU⟩
def acP(t:fW):TE:=fun σ H Q=>t σ H fun xs H1=>xs.length<=ahQ/\∀p,H1 p=none->Q (.ref p) (upd H1 p (.tup xs))
def acB(t:fW):TE:=fun σ H Q=>t σ H fun xs H1=>xs.length<=ahQ/\∀p,H1 p=none->Q (.ref p) (upd H1 p (.lst xs))
theorem Df{lu}(h:e5 X ax t):bQ X (.Tuple ax lu pos) (acP t):=by
 intro pinZ s σ H Q I a4;refine wpAny_Tuple_spliced (bR (h pos pinZ s σ H _ I a4) fun us s1 ⟨xs,H1,a8,r,z,q⟩=>⟨by rw[<-r.length];exact z,?_⟩);have hf:H1 s1.heap.objs.size=none:=a8.bF.fresh (ahM _);refine⟨.ref s1.heap.objs.size,upd H1 s1.heap.objs.size (.tup xs),a8.laid (t':=s1.toks) (fun b u e=>ahI _ e) (ahM _) ?_,rfl,q _ hf⟩;exact⟨z,us,r,⟨_,ahU _ rfl,rfl,_,rfl⟩⟩
theorem ZD(h:e5 X ax t):bQ X (.List ax pos) (acB t):=by
 intro pinZ s σ H Q I a4;refine wpAny_List_spliced (bR (h pos pinZ s σ H _ I a4) fun us s1 ⟨xs,H1,a8,r,z,q⟩=>⟨by rw[<-r.length];exact z,?_⟩);have hf:H1 s1.heap.objs.size=none:=a8.bF.fresh (ahM _);refine⟨.ref s1.heap.objs.size,upd H1 s1.heap.objs.size (.lst xs),a8.laid (t':=s1.toks) (fun b u e=>ahI _ e) (ahM _) ?_,rfl,q _ hf⟩;exact⟨z,us,0,r,ahU _ rfl⟩
end
abbrev d9:=List V->av->cZ->gn->Prop
abbrev mx:=List Env->av->ahL->gn->Value->ahL->Prop
structure kV(P:ah1)(w:World)(K:aP)(mg:bk)(base:Heap)(A:ah6)(outer:List Env)(s:ahL)(H:av):Prop where
 frames:A.frames=some outer
 mod:Mod K mg base
 bs:∀b o,base.get? b=some o->s.heap.get? b=some o/\H b=none
 lE:base.objs.size<=s.heap.objs.size
 kn:s.heap.FunFrames base outer
 oV:∀b∈lQ outer,H b=none
 bF:e4 P w H s.heap
 bare:alb s.gens
def hn(outer:List Env)(P:ah1)(w:World)(H:av)(s:ahL)(Q:cZ)(u:Value)(aM:ahL):Prop:=
 ∃v H',aM.os=s.os/\alb aM.gens/\gA (lQ outer) [] H H' s.heap aM.heap/\e4 P w H' aM.heap/\RelV v u/\Q v H'
def Et(ec:mx)(outer:List Env)(P:ah1)(w:World)(H:av)(s:ahL)(Q:cZ)(E:gn)(r:Result)(aM:ahL):Prop:=
 match r with
 |.ok (.ret u)=>hn outer P w H s Q u aM|.ok _=>False|.error e=>ec outer H s E e aM
structure e3(P:ah1)(w:World)(K:aP)(mg:bk)(base:Heap)(ec:mx)(k:Nat)(f:Addr)(fd:aiW)(ps:List Str)(sp:d9):Prop where
 len:∀vs H Q E,sp vs H Q E->vs.length=ps.length
 run:∀(A:ah6)(outer:List Env)(s:ahL)(H:av)(args:Args)(us:List Value)(vs:List V)(Q:cZ)(E:gn),cB k A->kV P w K mg base A outer s H->BindsTo s fd args (ps.zip us)->Vals vs us->sp vs H Q E->
  akv (model P w) A (.call (.ref f) args) (Et ec outer P w H s Q E) s
theorem e3.mono{P:ah1}{w:World}{K:aP}{mg:bk}{base:Heap}{ec:mx}{j k:Nat}{f:Addr}{fd:aiW}{ps:List Str}{sp:d9}(F:e3 P w K mg base ec j f fd ps sp)(h:j<=k) :
  e3 P w K mg base ec k f fd ps sp:=⟨F.len,fun A outer s H args us vs Q E aG=>F.run A outer s H args us vs Q E (aG.mono h)⟩
theorem e3.imp{P:ah1}{w:World}{K:aP}{mg:bk}{base:Heap}{ec:mx}{k:Nat}{f:Addr}{fd:aiW}{ps:List Str}{sp ME:d9}(F:e3 P w K mg base ec k f fd ps sp)
  (h:∀vs H Q E,ME vs H Q E->sp vs H Q E):e3 P w K mg base ec k f fd ps ME:=
 ⟨fun vs H Q E q=>F.len vs H Q E (h _ _ _ _ q),fun A outer s H args us vs Q E aG he aa bz aC=>F.run A outer s H args us vs Q E aG he aa bz (h _ _ _ _ aC)⟩
theorem kV.make{P:ah1}{w:World}{K:aP}{mg:bk}{base:Heap}{A:ah6}{outer:List Env}{s:ahL}{H:av}(e:kV P w K mg base A outer s H)(C:Addr)(us:List Value)(kw:List (Str×Value)) :
  kV P w K mg base (A.under (.builtin "type.__call__" ⟨.ref C::us,kw⟩)) outer s H:=⟨by first | exact e.frames | (simpa[amM,Code.envs,Code.isFrame,pushEnvs]using e.frames),e.mod,e.bs,e.lE,e.kn,e.oV,e.bF,e.bare⟩
theorem kV.in1{P:ah1}{w:World}{K:aP}{mg:bk}{base:Heap}{A:ah6}{outer:List Env}{s:ahL}{H:av}(e:kV P w K mg base A outer s H) :
  kV P w K mg base A.in1 outer s H:=⟨e.frames,e.mod,e.bs,e.lE,e.kn,e.oV,e.bF,e.bare⟩
section
variable{X:aQ}{pinZ:cP}{σ:St}{H:av}{s aM:ahL}
theorem Inv.tL(I:Inv X pinZ σ H s):kV X.prog X.w X.K X.mg X.base X.A X.stack s H:=
 ⟨I.ok.frames,I.ok.mod,I.bs,aiS I.ok.lE I.ll,I.stack,I.MG,I.bF,I.bare⟩
theorem Inv.after(I:Inv X pinZ σ H s)(h:hn X.stack X.prog X.w H s Q u aM):g7 X pinZ σ Q u aM:=by
 obtain⟨v,H',os,bare,un,bF,r,q⟩:=h;obtain⟨dX,g,d,t,Y6⟩:=aM;obtain rfl:Y6=s.os:=os;exact⟨v,H',I.call (h':=dX) (g':=g) (d':=d) (t':=t) (ch:=[]) un bF bare (fun b z=>absurd z (by simp)),r,q⟩
end
def MO(sp:d9)(dvs:List V)(E:gn)(t:fW):TE:=fun σ H Q=>t σ H fun vs H1=>sp (vs++dvs) H1 Q E
def MQ(C:Addr)(m:Str)(sp:d9)(dvs:List V)(E:gn)(b0:TE)(t:fW):TE:=fun σ H Q=>b0 σ H fun x H1=>∃a bV aV,x=.ref a/\H1 a=some (.ins C bV aV)/\aV.lookup m=none/\
 t σ H1 fun vs aJ=>sp (x::(vs++dvs)) aJ Q E
def acC(C:Addr)(sp:d9)(dvs:List V)(E:gn)(t:fW):TE:=fun σ H Q=>t σ H fun vs H1=>∀x bV,H1 x=none->H1 bV=none->bV≠x->
 sp (.ref x::(vs++dvs)) (upd (upd H1 bV (.own x)) x (.ins C bV [])) (fun v aJ=>v=.aW/\Q (.ref x) aJ) E
def Binds(K:aP)(fd:aiW)(ps:List Str)(ds:List Value):Prop:=
 ∀(s:ahL)(us:List Value),K.In s.heap->(us++ds).length=ps.length->BindsTo s fd ⟨us,[]⟩ (ps.zip (us++ds))
theorem Binds.all{K:aP}{fd:aiW}{ps:List Str}(h:∀us:List Value,us.length=ps.length->ajZ fd ⟨us,[]⟩=pure (ps.zip us)):Binds K fd ps []:=fun s us _ aj=>by
 rw[ai7]at aj ⊢;exact .of_eq (h us aj)
def Passes(ec:mx)(X:aQ)(E:gn):Prop:=∀(pinZ:cP)(σ:St)(H:av)(s:ahL)(e:Value)(aM:ahL),Inv X pinZ σ H s->ec X.stack H s E e aM->X.dA e aM
section
variable{X:aQ}{ec:mx}{k:Nat}{f C:Addr}{fd:aiW}{ps:List Str}{sp:d9}{dvs:List V}{ds:List Value}{E:gn}{x m:Str}{p pos apos:Pos}{e o:Expr}{ax:List Expr}{b0:TE}{t:fW}
theorem vi{pinZ:cP}{σ:St}{H:av}{s:ahL}{Q:cZ}{us:List Value}{vs:List V}(F:e3 X.prog X.w X.K X.mg X.base ec k f fd ps sp)(aG:cB k X.A)(aa:Binds X.K fd ps ds)(hd:Vals dvs ds)(ah:Passes ec X E)
  (I:Inv X pinZ σ H s) (r:Vals vs us) (h:sp (vs++dvs) H Q E):wpAny (model X.prog X.w) X.A (call (.ref f) us) (g7 X pinZ σ Q) X.dA s:=by
 have b4:Vals (vs++dvs) (us++ds):=r.append hd;have aj:(us++ds).length=ps.length:=by rw[<-b4.length];exact F.len _ _ _ _ h
 refine wpAny_call (aj0 (F.run X.A X.stack s H ⟨us,[]⟩ (us++ds) (vs++dvs) Q E aG I.tL (aa s us I.eZ aj) b4 h) fun r aM a4=>?_)
 cases r with
 |error e=>exact ah pinZ σ H s e aM I a4|ok a7=>
  cases a7 with
  |ret u=>exact I.after a4|next=>exact air a4
  |brk=>exact air a4|cont=>exact air a4
theorem Zn(F:e3 X.prog X.w X.K X.mg X.base ec k f fd ps sp)(aG:cB k X.A)(aS:d3 X x)(hm:X.mg x=some (.ref f))(az:ajG X.K (.ref f)=true)(aa:Binds X.K fd ps ds)(hd:Vals dvs ds)(ah:Passes ec X E)
  (ao:e5 X (e::ax) t) (ey:(x==("__debug__":Str))=false:=by decide) (he:ahK (e::ax) X.env=(false,eval e X.env)::ahK ax X.env:=by rfl) (eY:(aie pos (ahK ax X.env)).any (·.1)=false:=by rfl) :
  bQ X (.Call (.Name x p) (e::ax) [] pos) (MO sp dvs E t):=by
 intro pinZ s σ H Q I h;refine ajh (r8 I aS hm ?_ ey);refine al9 (h₀:=X.base) I.ok.mod.r5 az (bR (ao pos pinZ s σ H _ I h) fun us s1 ⟨vs,H1,a8,r,q⟩=>⟨a8.eZ,?_⟩) he eY;exact vi F aG aa hd ah a8 r q
theorem Zo(F:e3 X.prog X.w X.K X.mg X.base ec k f fd ps sp)(aG:cB k X.A)(aS:d3 X x)(hm:X.mg x=some (.ref f))(az:ajG X.K (.ref f)=true)(aa:Binds X.K fd ps ds)(hd:Vals dvs ds)(ah:Passes ec X E)
  (ey:(x==("__debug__":Str))=false:=by decide):bQ X (.Call (.Name x p) [] [] pos) (MO sp dvs E vw):=by
 intro pinZ s σ H Q I h;refine ajh (r8 I aS hm ?_ ey);exact W.callWith_K0 I.eZ az (vi (us:=[]) F aG aa hd ah I .nil h)
theorem ZF{pl:Sem Bool}(he:bQ X o b0)(c:i0 X.K C)(hm:Meth X.K C m f)(F:e3 X.prog X.w X.K X.mg X.base ec k f fd ps sp)(aG:cB k X.A)(aa:Binds X.K fd ps ds)(hd:Vals dvs ds)(ah:Passes ec X E)(ao:e5 X (e::ax) t)
  (eE:ahK (e::ax) X.env=(false,eval e X.env)::ahK ax X.env:=by rfl) (eY:(aie pos (ahK ax X.env)).any (·.1)=false:=by rfl)
  (bG:eval (.Call (.Attribute o m apos) (e::ax) [] pos) X.env=(do
   let ef <-eval o X.env
   akt apos.atName
   let(f,first) <-ajz [ef] (ajW ef m pl)
   akB pos f first (aie pos (ahK (e::ax) X.env)) (ajv pos (ai6 [] X.env))):=by rfl) :
  bQ X (.Call (.Attribute o m apos) (e::ax) [] pos) (MQ C m sp dvs E b0 t):=by
 intro pinZ s σ H Q I h;refine amm (pl:=pl) (bR (he pinZ s σ H _ I h) fun u s1 ⟨x,H1,a8,a5,a,bV,aV,ex,gb,l,q⟩=>?_) bG;subst ex;obtain rfl:u=aid a:=a5;refine A9 a8 gb c hm l ?_;refine al9 (first:=[.ref a]) (h₀:=X.base) I.ok.mod.r5 hm.kp (bR (ao pos pinZ s1 σ H1 _ a8 q) fun us s2 ⟨vs,aJ,bM,r,bU⟩=>⟨bM.eZ,?_⟩) eE eY;exact vi (us:=.ref a::us) (vs:=.ref a::vs) F aG aa hd ah bM (.cons rfl r) bU
theorem ZG{pl:Sem Bool}(he:bQ X o b0)(c:i0 X.K C)(hm:Meth X.K C m f)(F:e3 X.prog X.w X.K X.mg X.base ec k f fd ps sp)(aG:cB k X.A)(aa:Binds X.K fd ps ds)(hd:Vals dvs ds)(ah:Passes ec X E)
  (bG:eval (.Call (.Attribute o m apos) [] [] pos) X.env=(do
   let ef <-eval o X.env
   akt apos.atName
   let(f,first) <-ajz [ef] (ajW ef m pl)
   akB pos f first (aie pos (ahK [] X.env)) (ajv pos (ai6 [] X.env))):=by rfl) :
  bQ X (.Call (.Attribute o m apos) [] [] pos) (MQ C m sp dvs E b0 vw):=by
 intro pinZ s σ H Q I h;refine amm (pl:=pl) (bR (he pinZ s σ H _ I h) fun u s1 ⟨x,H1,a8,a5,a,bV,aV,ex,gb,l,q⟩=>?_) bG;subst ex;obtain rfl:u=aid a:=a5;refine A9 a8 gb c hm l ?_;exact W.callWith_K0 (first:=[.ref a]) a8.eZ hm.kp (vi (us:=[.ref a]) (vs:=[.ref a]) F aG aa hd ah a8 (.cons rfl .nil) q)
structure EH(K:aP)(C f:Addr):Prop where
 makes:W.makesIn K C=true
 init:ajQ K (.ref C) "__init__"=some (some (.ref f))
 fn:W.isFn K (.ref f)=true
 kp:ajG K (.ref C)=true
theorem aaz{pinZ:cP}{σ:St}{H:av}{s:ahL}{Q:cZ}{us:List Value}{vs:List V}(M:EH X.K C f)(F:e3 X.prog X.w X.K X.mg X.base ec k f fd ps sp)(aG:cB (k+1) X.A)(aa:Binds X.K fd ps ds)(hd:Vals dvs ds)
  (ah:Passes ec X E) (I:Inv X pinZ σ H s) (r:Vals vs us)
  (h:∀x bV,H x=none->H bV=none->bV≠x->sp (.ref x::(vs++dvs)) (upd (upd H bV (.own x)) x (.ins C bV [])) (fun v aJ=>v=.aW/\Q (.ref x) aJ) E) :
  wpAny (model X.prog X.w) X.A (call (.ref C) us) (g7 X pinZ σ Q) X.dA s:=by
 have a4:=h (s.heap.objs.size+1) s.heap.objs.size (I.bF.fresh (akl _)) (I.bF.fresh (ahM _)) (ah5 (al8 _));have bM:=Inv.made (C:=C) I;have b4:Vals (V.ref (s.heap.objs.size+1)::(vs++dvs)) (aid (s.heap.objs.size+1)::(us++ds)):=.cons rfl (r.append hd);have aj:(aid (s.heap.objs.size+1)::us++ds).length=ps.length:=by
  have e:=b4.length;rw[F.len _ _ _ _ a4]at e;exact e.symm
 refine wpAny_call (XX (f:=f) I.eZ M.makes M.init (beq_iff_eq.mp M.fn) (aj0 (F.run _ X.stack _ _ ⟨aid (s.heap.objs.size+1)::us,[]⟩ (aid (s.heap.objs.size+1)::(us++ds)) _ _ E (aG.make C us [])
  (bM.tL.make C us []) (aa _ (aid (s.heap.objs.size+1)::us) bM.eZ aj) b4 a4) fun r aM mU=>?_))
 cases r with
 |error e=>exact ah pinZ σ _ _ e aM bM mU|ok a7=>
  cases a7 with
  |ret u=>
   obtain⟨v,H',dr,bI,ev,gZ⟩:=bM.after mU;subst ev;exact⟨bI,⟨V.ref (s.heap.objs.size+1),H',dr,rfl,gZ⟩⟩
  |next=>exact air mU
  |brk=>exact air mU|cont=>exact air mU
theorem ZE(M:EH X.K C f)(F:e3 X.prog X.w X.K X.mg X.base ec k f fd ps sp)(aG:cB (k+1) X.A)(aS:d3 X x)(hm:X.mg x=some (.ref C))(aa:Binds X.K fd ps ds)(hd:Vals dvs ds)(ah:Passes ec X E)
  (ao:e5 X (e::ax) t) (ey:(x==("__debug__":Str))=false:=by decide) (he:ahK (e::ax) X.env=(false,eval e X.env)::ahK ax X.env:=by rfl) (eY:(aie pos (ahK ax X.env)).any (·.1)=false:=by rfl) :
  bQ X (.Call (.Name x p) (e::ax) [] pos) (acC C sp dvs E t):=by
 intro pinZ s σ H Q I h;refine ajh (r8 I aS hm ?_ ey);refine al9 (h₀:=X.base) I.ok.mod.r5 M.kp (bR (ao pos pinZ s σ H _ I h) fun us s1 ⟨vs,H1,a8,r,q⟩=>⟨a8.eZ,?_⟩) he eY;exact aaz M F aG aa hd ah a8 r q
end
structure cp(N P:List Str)(sc:Scope):Prop where
 kind:sc.kind=.function:=by rfl
 co:sc.isCoroutine=false:=by rfl
 gen:sc.isGenerator=false:=by rfl
 eI:N.Nodup:=by decide +kernel
 pre:N.take P.length=P:=by rfl
 par:∀x∈P,sc.names.lookup x=some .local\/sc.names.lookup x=some .cell:=by decide +kernel
 Yv:∀y∈sc.names,y.2≠.free:=by decide +kernel
theorem Gp{kindOf:Str->Option akm}{x:Str}:∀{binds:List (Str×Value)}{m:bk},(∀v,(x,v)∉binds)->bindL kindOf binds m x=m x
 |[],_,_=>rfl|(n,v)::r,m,h=>by
  unfold bindL;rw[Gp fun w hw=>h w (ahR _ hw)];split
  ·have:x≠n:=by rintro rfl;exact h v ah0
   simp[this]
  ·rfl
theorem Gm{kindOf:Str->Option akm}{x:Str}:∀{binds:List (Str×Value)}{m:bk},(∀v,(x,v)∉binds)->bindC kindOf binds m x=m x
 |[],_,_=>rfl|(n,v)::r,m,h=>by
  unfold bindC;rw[Gm fun w hw=>h w (ahR _ hw)];split
  ·rfl
  ·have:x≠n:=by rintro rfl;exact h v ah0
   simp[this]
theorem Gn{kindOf:Str->Option akm}{v:Value}:∀{P:List Str}{vs:List Value}{i:Nat}{m:bk},P.Nodup->P[i]? = some x->vs[i]? = some v->kindOf x=some .local->
  bindL kindOf (P.zip vs) m x=some v
 | [],_,_,_,_,h,_,_=>by simp at h| _::_,[],_,_,_,_,h,_=>by simp at h|p::P,w::vs,0,m,eI,ae,ag,az=>by
  simp at ae ag;subst ae;subst ag;show bindL kindOf ((p,w)::P.zip vs) m p=_;unfold bindL;rw[Gp fun v bz=>(aiR.mp eI).1 (akL bz).1,if_pos az];simp
 |p::P,w::vs,i+1,m,eI,ae,ag,az=>by
  show bindL kindOf ((p,w)::P.zip vs) m x=_;unfold bindL;exact Gn (i:=i) (aiR.mp eI).2 (by simpa using ae) (by simpa using ag) az
theorem Gl{kindOf:Str->Option akm}{v:Value}:∀{P:List Str}{vs:List Value}{i:Nat}{m:bk},P.Nodup->P[i]? = some x->vs[i]? = some v->kindOf x≠some .local->
  bindC kindOf (P.zip vs) m x=some v
 | [],_,_,_,_,h,_,_=>by simp at h| _::_,[],_,_,_,_,h,_=>by simp at h|p::P,w::vs,0,m,eI,ae,ag,az=>by
  simp at ae ag;subst ae;subst ag;show bindC kindOf ((p,w)::P.zip vs) m p=_;unfold bindC;rw[Gm fun v bz=>(aiR.mp eI).1 (akL bz).1,if_neg az];simp
 |p::P,w::vs,i+1,m,eI,ae,ag,az=>by
  show bindC kindOf ((p,w)::P.zip vs) m x=_;unfold bindC;exact Gl (i:=i) (aiR.mp eI).2 (by simpa using ae) (by simpa using ag) az
def start(N:List Str)(vs:List V):St:=vs.map some++aiH (N.length-vs.length) none
def gW(ec:mx)(P:ah1)(w:World)(K:aP)(mg:bk)(base:Heap)(N:List Str)(qual:Str)(scope:Scope)(f:Addr)(cd:Value)(A:ah6)(outer:List Env)(s:ahL)(H:av)(E:gn):aQ where
 prog:=P
 w:=w
 K:=K
 mg:=mg
 base:=base
 A:=A.deeper (akw qual scope s.heap.objs.size f cd)
 N:=N
 gN:=s
 H₀:=H
 env:=akw qual scope s.heap.objs.size f cd
 outer:=outer
 stack:=akw qual scope s.heap.objs.size f cd::outer
 ex:=[]
 calm:=true
 fn:=fun _=>true
 nd:=[]
 dA:=fun e aM=>wpAny (model P w) (A.deeper (akw qual scope s.heap.objs.size f cd)) (leaving (akw qual scope s.heap.objs.size f cd) e) (fun _ vl=>ec outer H s E e vl) (fun cf vl=>ec outer H s E cf vl) aM
theorem GJ{sc:Scope}(h:sc.names.lookup x=some .cell):∃c,(cellsFrom n sc.names []).lookup x=some c:=by
 have q:=ama sc.names n [] (.inl h);exact Option.isSome_iff_exists.mp q
theorem IL{ec:mx}{P:ah1}{w:World}{K:aP}{mg:bk}{base:Heap}{N ps:List Str}{qual:Str}{scope:Scope}{f:Addr}{cd:Value}{A:ah6}{outer:List Env}{s s1:ahL}{H:av}{E:gn}{us:List Value}{vs:List V}
  (S:cp N ps scope) (hd:A.handled=none) (dU:kV P w K mg base A outer s H) (aj:vs.length=ps.length) (r:Vals vs us)
  (x:InCallC s s.heap.objs.size (bindL (akw qual scope s.heap.objs.size f cd).kindOf (ps.zip us) fun _=>none) (cellsFrom (s.heap.objs.size+1) scope.names []) (bindC (akw qual scope s.heap.objs.size f cd).kindOf (ps.zip us) fun _=>none) s1) :
  Inv (gW ec P w K mg base N qual scope f cd A outer s H E) [] (start N vs) H s1:=by
 have eY:ps.length<=N.length:=by have:=congrArg ai8 S.pre;rw[ajH]at this;omega
 obtain⟨ae,tk,rfl,az⟩:=x.done;have uV:∀b:Addr,b∉(gW ec P w K mg base N qual scope f cd A outer s H E).ex:=fun b z=>absurd (show b∈([]:List Addr)from z) (by simp)
 refine⟨⟨dU.mod,S.kind,rfl,rfl,ahM _,fun y z c ae ag=>?_,fun y a'=>?_,fun y c _ h=>?_,fun _=>hd,Around.frames_deeper dU.frames,.inr ⟨rfl,rfl⟩,fun b z=>absurd z (uV b),dU.bs,dU.lE,fun b _ _=>uV b,fun b z=>absurd z (uV b),dU.kn,dU.oV⟩,
  rfl,dU.bare,gA.kept az,⟨_,x.toInCall.ns,fun i y v ae ag bK=>?_⟩,fun y c h=>⟨_,x.cell y c h⟩,dU.bF.fresh (ahM _),fun y c h=>?_,fun p aI=>absurd (show p∈([]:cP)from aI) (by simp),dU.bF.kept az,?_⟩
 ·exact name_of_addr x.apart (ajf ae) (ajf ag)
 ·have a':scope.names.lookup y=some .cell\/scope.names.lookup y=some .free:=a'
  rcases a' with a' | a'
  ·exact GJ a'
  ·exact absurd rfl (S.Yv _ (ajf a'))
 ·exact ai5 (x.above y c (ajf h))
 ·have ay:i<vs.length:=by
   unfold start at ag
   by_cases ay:i<vs.length
   ·exact ay
   ·rw[ah2 (by simpa using ay)]at ag
    rw[ajD]at ag;split at ag<;>cases ag
  have ao:vs[i]? = some v:=by
   unfold start at ag;rw[aic (by simpa using ay),aia]at ag
   cases e:vs[i]? with
   |none=>rw[e]at ag;cases ag
   |some a=>rw[e]at ag;cases ag;rfl
  obtain⟨u,cb,bI⟩:=r.get ao;have aI:ps[i]? = some y:=by
   rw[<-S.pre,List.getElem?_take_of_lt (by omega)];exact ae
  have Ke:ps.Nodup:=by rw[<-S.pre];exact S.eI.sublist (List.take_sublist _ _)
  refine⟨u,bI,?_⟩;rcases S.par y (aiw aI)with k | k
  ·exact .inl ⟨k,Gn Ke aI cb k⟩
  ·obtain⟨c,e⟩:=GJ (n:=s.heap.objs.size+1) k
   refine .inr ⟨.inl k,c,e,?_⟩;have q:=x.cell y c e;rw[Gl Ke aI cb (by show scope.names.lookup y≠_;rw[k];decide)]at q;exact q
 ·exact dU.bF.fresh (ai5 (x.above y c (ajf h)))
 ·unfold start
  show _=N.length;rw[ahS,ahJ,aiU];omega
theorem AZ{ec:mx}{P:ah1}{w:World}{K:aP}{mg:bk}{base:Heap}{k:Nat}{f:Addr}{name qual:Str}{params:akR}{body:List Stmt}{scope:Scope}{p9 cw doc pm bw b' dw:Value}{an c1:Option Addr}
  {fj:Array (Option Value)}{N ps:List Str}{sp:d9}(lk:K.lookup f=some ⟨dw,c1,.func (ajt name qual params body scope p9 cw doc pm an bw b'),fj⟩) (gq:alu K bw qual=true) (S:cp N ps scope)
  (len:∀vs H Q E,sp vs H Q E->vs.length=ps.length)
  (t_:∀(A:ah6)(outer:List Env)(s:ahL)(H:av)(vs:List V)(Q:cZ)(E:gn),cB k (A.deeper (akw qual scope s.heap.objs.size f bw))->sp vs H Q E->
   ∃t,iC (gW ec P w K mg base N qual scope f bw A outer s H E) body t/\t { bq:=fun _ H'=>Q .aW H',cS:=Q } (start N vs) H) :
  e3 P w K mg base ec (k+1) f (ajt name qual params body scope p9 cw doc pm an bw b') ps sp:=by
 refine⟨len,fun A outer s H args us vs Q E aG dU aa r hu=>?_⟩;have aj:=len _ _ _ _ hu;have dj:K.In s.heap:=dU.mod.r5.keeps fun b o e=>(dU.bs b o e).1
 have lim:s.heap.NoLimit:=dU.mod.nolimit.keeps fun b o e=>(dU.bs b o e).1
 have Bv:∀y∈ps.zip us,scope.names.lookup y.1=some .local\/(scope.names.lookup y.1=some .cell/\((cellsFrom (s.heap.objs.size+1) scope.names []).lookup y.1).isSome=true):=fun aX a'=>by
  obtain⟨n,v⟩:=aX;rcases S.par n (akL a').1 with q | q
  ·exact .inl q
  ·exact .inr ⟨q,ama _ _ _ (.inl q)⟩
 refine codeAny_call_function aG.depth (dj _ _ lk) rfl S.co S.gen rfl (W.codeRec_of dj gq) (aa _ _ _ _ ?_);refine wpAny_newFunctionEnv_cells S.kind Bv fun env he s1 x=>?_
 subst he;refine⟨lim.keeps x.toInCall.keep,codeAny_func ?_⟩;obtain⟨t,bG,a4⟩:=t_ A outer s H vs Q E (aG.deeper _) hu;have I:Inv (gW ec P w K mg base N qual scope f bw A outer s H E) [] (start N vs) H s1:=IL S aG.hd dU aj r x;refine aiv (bG [] s1 (start N vs) H _ I a4) (fun a7 aM aC=>?_) fun e aM aC=>aC
 have fin:∀{σ':St}{H':av}{v:V}{u:Value},Inv (gW ec P w K mg base N qual scope f bw A outer s H E) [] σ' H' aM->RelV v u->Q v H'->hn outer P w H s Q u aM:=
  fun{σ' H' v u} b9 bI q=>⟨v,H',b9.os,b9.bare,b9.base,b9.bF,bI,q⟩
 cases a7 with
 |ret u=>
  obtain⟨v,σ',H',b9,bI,q⟩:=aC;exact fin b9 bI q
 |next=>
  obtain⟨σ',H',b9,q⟩:=aC;exact fin (v:=V.aW) (u:=aiX) b9 rfl q
 |brk=>
  obtain⟨_,_,_,q⟩:=aC;exact air q
 |cont=>
  obtain⟨_,_,_,q⟩:=aC;exact air q
section
variable{X:aQ}{x:Str}{p pos:Pos}{e:Expr}{ax:List Expr}{t:fW}{id T:String}{r:List V->av->cZ->Prop}
def DT(r:List V->av->cZ->Prop)(t:fW):TE:=fun σ H Q=>t σ H fun vs H1=>r vs H1 Q
theorem Zp(aE:iZ X (.builtin id) r)(aS:d3 X x)(hm:X.mg x=none)(bz:aiC x=some (.builtin id))(ao:e5 X (e::ax) t)(aH:x≠"__name__":=by decide)(ey:(x==("__debug__":Str))=false:=by decide)
  (he:ahK (e::ax) X.env=(false,eval e X.env)::ahK ax X.env:=by rfl) (eY:(aie pos (ahK ax X.env)).any (·.1)=false:=by rfl):bQ X (.Call (.Name x p) (e::ax) [] pos) (DT r t):=by
 intro pinZ s σ H Q I h;refine ajh (pb I aS hm bz ?_ aH ey);exact PyProof.Rows.callWith_builtin1 (bR (ao pos pinZ s σ H _ I h) fun us s1 ⟨vs,H1,a8,bu,ba⟩=>aE pinZ s1 σ H1 vs us Q a8 bu ba) he eY
theorem Zq(aE:iZ X (.type T) r)(aS:d3 X x)(hm:X.mg x=none)(bz:aiC x=some (.type T))(ao:e5 X (e::ax) t)(aH:x≠"__name__":=by decide)(ey:(x==("__debug__":Str))=false:=by decide)
  (he:ahK (e::ax) X.env=(false,eval e X.env)::ahK ax X.env:=by rfl) (eY:(aie pos (ahK ax X.env)).any (·.1)=false:=by rfl):bQ X (.Call (.Name x p) (e::ax) [] pos) (DT r t):=by
 intro pinZ s σ H Q I h;refine ajh (pb I aS hm bz ?_ aH ey);exact ajI (bR (ao pos pinZ s σ H _ I h) fun us s1 ⟨vs,H1,a8,bu,ba⟩=>aE pinZ s1 σ H1 vs us Q a8 bu ba) he eY
end
end aF
namespace dE
open PySem PyProof.Rows
def lexLt:List Int->List Int->Bool
 |[],[]=>false|[],_::_=>true|_::_,[]=>false|x::xs,y::ys=>if x=y then lexLt xs ys else decide (x<y)
theorem XI(x y:Int)(xs ys:List Int):lexLt (x::xs) (y::ys)=if x=y then lexLt xs ys else decide (x<y):=rfl
theorem XM:lexLt [] []=false:=rfl
theorem XK(y:Int)(ys:List Int):lexLt [] (y::ys)=true:=rfl
theorem XJ(x:Int)(xs:List Int):lexLt (x::xs) []=false:=rfl
theorem w5(A:ah6)(s:ahL)(a:Int)(t:Tok)(c:Int)(u:Tok):∃e,SeqAt.EqAt A s (.int a t) (.int c u) e/\(e=true↔a=c):=
 ⟨(a==c),amN a t c u,by simp⟩
theorem aat(A:ah6)(s:ahL)(a:Int)(t:Tok)(c:Int)(u:Tok)(prog:ah1)(w:World)(E:cu)(Q:cu)(h:Q (.bool (decide (a<c))) s) :
  wpAny (model prog w) A (akG .Lt (.int a t) (.int c u)) Q E s:=
 (amH h:wpAny (model prog w) A (ais .Lt (.int a t) (.int c u)) Q E s)
section
open PySem.SeqAt
open PySem.AutoSeq1 (wpAny_loadPart')
open PySem.MeetsSeq PySem.MeetsSeq2 PySem.MeetsSeq3
theorem ac6(l b:Addr)(items dN:Array Value)(n dv:Nat)(dd jA:Option Addr)(cA jL:Array (Option Value))(ns ms:List Int)(ay:aiM items.toList ns)(aZ:aiM dN.toList ms) :
  Meets (alc.«tuple.__lt__» ⟨[.ref l,.ref b],[]⟩)
   (fun _ R s=>s.heap.get? l=some { cls:=.type "tuple",dict:=dd,data:=.seq items n,slots:=cA }/\s.heap.get? b=some { cls:=.type "tuple",dict:=jA,data:=.seq dN dv,slots:=jL }/\
    R (.ok (.ret (.bool (lexLt ns ms)))) s):=
 .of_wp fun prog w A R s h=>by
  obtain⟨aI,g,d,tk,os⟩:=s;obtain⟨aj,aa,h⟩:=h;have f2:=aj1;have fb:items.size=ns.length:=by rw[<-ay.length];simp
  have d2:dN.size=ms.length:=by rw[<-aZ.length];simp
  wp_walk using wpAny_loadPart' aj,wpAny_loadPart' aa,ak7 _ (fun rest b aM=>b.1=none/\aM=⟨aI,g,d,tk,os⟩/\∃(vs ws:List Value)(fQ fP:List Int),rest=vs.zip ws/\
   aiM vs fQ/\aiM ws fP/\fQ.length+dN.size=fP.length+items.size/\R (.ok (.ret (.bool (lexLt fQ fP)))) ⟨aI,g,d,tk,os⟩) _
  case turn=>
   rintro⟨y,x⟩ rest b aM ⟨iI,rfl,vs,ws,fQ,fP,hz,jI,i_,hlen,dB⟩
   cases jI with
   |nil=>rw[akq]at hz;cases hz
   |cons a t qr=>
    cases i_ with
    |nil=>rw[akS]at hz;cases hz
    |cons c u qs=>
     rw[aiY]at hz;injection hz with qt qp
     injection qt with a' ah
     subst a' ah;rw[XI]at dB;simp only[ahX]at hlen;obtain⟨e,he,lT⟩:=w5 A.in1 ⟨aI,g,d,tk,os⟩ a t c u;refine ahH (he prog w _ _ ?_)
     cases e with
     |true=>
      rw[if_pos (lT.mp rfl)]at dB
      wp_walk
      exact⟨rfl,rfl,_,_,_,_,qp,qr,qs,by omega,dB⟩
     |false=>
      rw[if_neg (fun q=>absurd (lT.mpr q) ahV)]at dB;have nY:=aat A.in1 ⟨aI,g,d,tk,os⟩ a t c u prog w
      wp_walk using nY
      exact⟨_,rfl,by simpa using dB⟩
  case fin=>
   rintro⟨bX,bY⟩ aM ⟨iI,rfl,vs,ws,fQ,fP,hz,jI,i_,hlen,dB⟩;simp only at iI;subst iI;have bz:lexLt fQ fP=decide (items.size<dN.size):=by
    cases jI with
    |nil=>
     cases i_ with
     |nil=>
      simp only[aiy]at hlen;rw[XM];exact(decide_eq_false (by omega)).symm
     |cons c u hw=>
      simp only[aiy,ahX]at hlen;rw[XK];exact(decide_eq_true (by omega)).symm
    |cons a t bz=>
     cases i_ with
     |nil=>
      simp only[aiy,ahX]at hlen;rw[XJ];exact(decide_eq_false (by omega)).symm
     |cons c u hw=>
      rw[aiY]at hz;cases hz
   rw[bz]at dB
   wp_walk
   exact⟨_,rfl,by simpa[aju]using dB⟩
  case h=>
   exact⟨rfl,rfl,items.toList,dN.toList,ns,ms,rfl,ay,aZ,by omega,h⟩
end
section
variable{prog:ah1}{w:World}{A:ah6}{E:cu}{s:ahL}
theorem JJ{l b:Addr}{items dN:Array Value}{ns ms:List Int}{Q:cu}(aj:IsTup s.heap l items)(aa:IsTup s.heap b dN)(ay:aiM items.toList ns)(aZ:aiM dN.toList ms)
  (cb:A.units<cLine) (h:Q (.bool (lexLt ns ms)) s):wpAny (model prog w) A (ais .Lt (.ref l) (.ref b)) Q E s:=by
 obtain⟨⟨cls,dd,data,cA⟩,bc,aE,n,hd⟩:=id aj;obtain⟨⟨Ak,jA,data2,jL⟩,lY,gE,dv,hd2⟩:=id aa;simp only at aE hd gE hd2;subst aE hd gE hd2;exact akn (op:=.Lt) ⟨_,bc,rfl⟩ ⟨_,lY,rfl⟩ amx ams (amf _ _) (ac6 l b items dN n dv dd jA cA jL ns ms ay aZ)
  ⟨bc,lY,show akb (lexLt ns ms)≠akC/\Q (.bool (lexLt ns ms)) s from⟨(fun x=>nomatch x),h⟩⟩ cb
def cF(n d:Nat):Option Int->Nat
 |none=>d|some v=>if v<0 then(v+(n:Int)).toNat else min v.toNat n
theorem aaM(n d:Nat):cF n d none=d:=rfl
theorem vm(n d k:Nat):cF n d (some (k:Int))=min k n:=by
 show(if(k:Int)<0 then((k:Int)+(n:Int)).toNat else min (k:Int).toNat n)=min k n;rw[if_neg (by omega),alT]
theorem aaL(n d:Nat)(hd:d<=n)(o:Option Int):cF n d o<=n:=by
 cases o with
 |none=>exact hd|some v=>
  show(if v<0 then(v+(n:Int)).toNat else min v.toNat n)<=n
  by_cases bz:v<0
  ·rw[if_pos bz];omega
  ·rw[if_neg bz];exact Nat.min_le_right _ _
theorem GP(v:Int)(n d:Nat):(if v<0 then max (v+(n:Int)) 0 else min v (n:Int))=((cF n d (some v):Nat):Int):=by
 show(if v<0 then max (v+(n:Int)) 0 else min v (n:Int))=(((if v<0 then(v+(n:Int)).toNat else min v.toNat n):Nat):Int)
 by_cases bz:v<0
 ·simp only[if_pos bz];omega
 ·simp only[if_neg bz];omega
theorem Ov(lo ay:Option Int)(n:Nat):akM lo ay 1 (n:Int)=(((cF n 0 lo:Nat):Int),((cF n n ay:Nat):Int)):=by
 have ae:¬((1:Int)<0):=by omega
 unfold akM;simp only[ae,if_false];refine Prod.ext ?_ ?_
 ·cases lo with
  |none=>rfl|some v=>exact GP v n 0
 ·cases ay with
  |none=>rfl|some v=>exact GP v n n
theorem ZV(i j:Nat):ajV (i:Int) (j:Int) 1=j-i:=by
 unfold ajV;have ae:(1:Int) > 0:=by omega
 simp only[ae,if_true,Int.ediv_one];split<;>omega
theorem MA{v:Value}{o:Option Int}{Q:Option Int->ahL->Prop}(p:alj v o)(h:Q o s):wpAny (model prog w) A (Builtin.Slice.slicePartIndex v) Q E s:=by
 cases p with
 |none=>exact slicePart_none h|int i t=>exact slicePart_int h
theorem Mz{cA:Addr}{gO gP:Value}{lo ay:Option Int}{n:Nat}{Q:Int×Int×Nat->ahL->Prop}(aC:s.heap.IsSliceOf cA gO gP .none)(pl:alj gO lo)(pu:alj gP ay)
  (h:Q (((cF n 0 lo:Nat):Int),1,cF n n ay-cF n 0 lo) s):wpAny (model prog w) A (alN (.ref cA) (pure (n:Int))) Q E s:=by
 obtain⟨os,qo,xt,nT⟩:=id aC;unfold alN Builtin.Slice.sliceFields;refine ahH (ahH (ai9 qo nT (x:=gO) rfl (ahH (ai9 qo nT (x:=gP) rfl (ahH (ai9 qo nT (x:=.none) rfl (ahO ?_)))))));refine ahH (slicePart_none ?_);show wpAny _ _ (if((1:Int)==0)=true then _ else _) _ _ s;rw[if_neg (by decide)];refine ahH (MA pl (ahH (MA pu (ahH (ahO ?_)))));show wpAny _ _ (match akM lo ay 1 (n:Int)with | (lo,ay)=>pure (lo,(1:Int),ajV lo ay 1)) _ _ s;rw[Ov lo ay n];show wpAny _ _ (pure (((cF n 0 lo:Nat):Int),(1:Int),ajV ((cF n 0 lo:Nat):Int) ((cF n n ay:Nat):Int) 1)) _ _ s;rw[ZV];exact ahO h
theorem ZT(xs:Array Value)(i k:Nat):((aiz k).filterMap fun(m:Nat)=>xs[((i:Int)+(m:Int)*1).toNat]?).toArray=((xs.toList.drop i).take k).toArray:=by
 have e:(fun(m:Nat)=>xs[((i:Int)+(m:Int)*1).toNat]?)=fun m=>xs[i+m]?:=by
  funext m
  have:((i:Int)+(m:Int)*1).toNat=i+m:=by omega
  rw[this]
 rw[e];have:=pick_run xs i k;rw[List.filterMap_map]at this;have aD:((fun x=>xs[x]?)∘fun x=>i+x)=fun m=>xs[i+m]?:=rfl
 rw[aD]at this;rw[this]
theorem Tw{t cA:Addr}{items:Array Value}{gO gP:Value}{lo ay:Option Int}{Q:cu}(bG:IsTup s.heap t items)(aC:s.heap.IsSliceOf cA gO gP .none)(pl:alj gO lo)(pu:alj gP ay)
  (hw:¬(cF items.size 0 lo=0/\cF items.size items.size ay=items.size))
  (h:Q (.ref s.heap.objs.size) { s with heap:=s.heap.push { cls:=.type "tuple",data:=.seq ((items.toList.drop (cF items.size 0 lo)).take (cF items.size items.size ay-cF items.size 0 lo)).toArray } })
  (hsz:items.size<=ahQ):wpAny (model prog w) A (akX (.ref t) (.ref cA)) Q E s:=by
 have xB:sizeOk (.seq ((items.toList.drop (cF items.size 0 lo)).take (cF items.size items.size ay-cF items.size 0 lo)).toArray):=by
  show((items.toList.drop (cF items.size 0 lo)).take (cF items.size items.size ay-cF items.size 0 lo)).toArray.size<=ahQ;rw[ahW,ajH,aiA,aiE];omega
 have aZ:cF items.size items.size ay<=items.size:=aaL _ _ (ahM _) ay;obtain⟨os,qo,xt,nT⟩:=id aC;have Bf:s.TypeIs (.ref cA) "slice":=⟨os,qo,xt⟩;unfold akX
 try with_reducible refine ai3 ?_
 first | refine ahH (ahO ?_) | skip
 refine ahH (wpAny_sequenceKey bG.typeIs (by decide) ?_);refine ahH (ajk (name:=ah3 "__getitem__") bG.typeIs aiV
  (aj2 aiV bG.typeIs entry_tuple_getitem ?_ (args_tuple_getitem _ _)))
 show wpAny _ _ (alO (.ref t) >>= _) _ _ s;refine ahH (tupleItemsOf_ bG ?_);refine ahH (wpAny_typeOf Bf ?_);rw[if_pos (by decide)];refine ahH (Mz aC pl pu ?_);have VU:¬((((cF items.size 0 lo:Nat):Int)==0&&(1:Int)==1&&(cF items.size items.size ay-cF items.size 0 lo)==items.size)=true):=by
  intro q;rw[aix,aix]at q;have ba:((cF items.size 0 lo:Nat):Int)=0:=eq_of_beq q.1.1;have bU:cF items.size items.size ay-cF items.size 0 lo=items.size:=eq_of_beq q.2;exact hw ⟨by omega,by omega⟩
 show wpAny _ _ (if(((cF items.size 0 lo:Nat):Int)==0&&(1:Int)==1&&(cF items.size items.size ay-cF items.size 0 lo)==items.size)=true then _ else _) _ _ s;rw[if_neg VU,ZT]
 first
  |exact ahH (m:=aj3 _) (ajB (ahO ⟨_,rfl,ahO h⟩) xB)
  |exact ahH (m:=aj3 _) (ajB (ahH (ahO (ahO ⟨_,rfl,ahO h⟩))) xB)
  |exact ahH (ahH (m:=aj3 _) (ajB (ahO (ahO ⟨_,rfl,ahO h⟩)) xB))
  |exact ahH (ahH (m:=aj3 _) (ajB (ahO ⟨_,rfl,ahO h⟩) xB))
end
end dE
namespace aF
open PySem PySem.Spec PyProof.Rows
abbrev dI:=St->av->(Option Int->av->Prop)->Prop
def tj(X:aQ)(e:Option Expr)(t:dI):Prop:=
 ∀(pinZ:cP)(s:ahL)(σ:St)(H:av)(Q:Option Int->av->Prop),Inv X pinZ σ H s->t σ H Q->
  wpAny (model X.prog X.w) X.A (evalPart e X.env) (fun u aM=>∃o H',Inv X pinZ σ H' aM/\alj u o/\Q o H') X.dA s
def acF:dI:=fun _ H Q=>Q none H
def acJ(t:TE):dI:=fun σ H Q=>t σ H fun x H1=>∃i,x=.int i/\Q (some i) H1
theorem intsAre_of{ns:List Int}:∀{us:List Value},Vals (ns.map V.int) us->aiM us ns:=by
 induction ns with
 |nil=>intro us r;rw[amb]at r;cases r;exact .nil
 |cons n ns a9=>
  intro us r;rw[ahT]at r
  cases r with
  |cons bu b4=>
   obtain⟨t,e⟩:=bu;subst e;exact .cons n t (a9 b4)
section
variable{X:aQ}{e:Expr}{te:TE}{lo ay:Option Expr}{tl y2:dI}{pos du:Pos}
theorem ZW:tj X none acF:=by
 intro pinZ s σ H Q I h;rw[evalPart_none];exact ahO ⟨none,H,I,.none,h⟩
theorem ZX(h:bQ X e te):tj X (some e) (acJ te):=by
 intro pinZ s σ H Q I hw;rw[evalPart_some];refine bR (h pinZ s σ H _ I hw) fun u s1 aX=>?_
 obtain⟨x,H1,a8,bu,ba⟩:=aX;obtain⟨i,rfl,q⟩:=ba;obtain⟨t,rfl⟩:=bu;exact⟨some i,H1,a8,.int i t,q⟩
def oN(X:aQ)(r:V->Option Int->Option Int->av->cZ->Prop):Prop:=
 ∀(pinZ:cP)(s:ahL)(σ:St)(H:av)(x:V)(v gO gP:Value)(lo ay:Option Int)(cA:Addr)(Q:cZ),Inv X pinZ σ H s->RelV x v->s.heap.IsSliceOf cA gO gP .none->alj gO lo->alj gP ay->r x lo ay H Q->
  ∃T id,typeLookup (.type T) "__getitem__"=pure (some (.builtin id))/\s.TypeIs v T/\wpAny (model X.prog X.w) X.A (akX v (.ref cA)) (g7 X pinZ σ Q) X.dA s
theorem oN.or{r bL:V->Option Int->Option Int->av->cZ->Prop}(h:oN X r)(h':oN X bL):oN X (fun x lo ay H Q=>r x lo ay H Q\/bL x lo ay H Q):=by
 intro pinZ s σ H x v gO gP lo ay cA Q I a5 aC pl pu q;rcases q with q | q
 ·exact h pinZ s σ H x v gO gP lo ay cA Q I a5 aC pl pu q
 ·exact h' pinZ s σ H x v gO gP lo ay cA Q I a5 aC pl pu q
def acM(r:V->Option Int->Option Int->av->cZ->Prop)(te:TE)(tl y2:dI):TE:=fun σ H Q=>te σ H fun x H1=>tl σ H1 fun l aJ=>y2 σ aJ fun u cG=>r x l u cG Q
theorem KP{r:V->Option Int->Option Int->av->cZ->Prop}(aG:oN X r)(he:bQ X e te)(aj:tj X lo tl)(cb:tj X ay y2):bQ X (.Subscript e (.Slice lo ay none du) pos) (acM r te tl y2):=by
 intro pinZ s σ H Q I h;refine Subscript_ (bR (he pinZ s σ H _ I h) fun v s1 aX=>?_);obtain⟨x,H1,a8,bu,ba⟩:=aX;refine wpAny_Slice (bR (aj pinZ s1 σ H1 _ a8 ba) fun gO s2 ⟨l,aJ,bM,pl,bU⟩=>bR (cb pinZ s2 σ aJ _ bM bU) fun gP s3 aX=>?_);obtain⟨u,cG,dr,pu,gZ⟩:=aX;rw[evalPart_none];refine ahO ?_;have i2:Inv X pinZ σ cG { s3 with heap:=s3.heap.push { cls:=.type "slice",data:=.fields #[gO,gP,.none] } }:=dr.kept (t':=s3.toks) fun b bA q=>ahI _ q
 obtain⟨T,id,eX,bG,aS⟩:=aG pinZ { s3 with heap:=s3.heap.push { cls:=.type "slice",data:=.fields #[gO,gP,.none] } } σ cG x v gO gP l u s3.heap.objs.size Q i2 bu (Heap.IsSliceOf.new ..) pl pu gZ;show wpAny (model X.prog X.w) X.A (subscriptTail e (.Slice lo ay none du) v (.ref s3.heap.objs.size)) (g7 X pinZ σ Q) X.dA { s3 with heap:=s3.heap.push { cls:=.type "slice",data:=.fields #[gO,gP,.none] } };exact tail_any (ops:=[.ref s3.heap.objs.size,v]) bG eX aS (by with_unfolding_all rfl)
def oS(xs:List V)(lo ay:Option Int):List V:=(xs.drop (dE.cF xs.length 0 lo)).take (dE.cF xs.length xs.length ay-dE.cF xs.length 0 lo)
theorem GY(xs:List V)(lo ay:Option Int):(oS xs lo ay).length<=xs.length:=by
 unfold oS;rw[ajH,aiA];omega
def aap(K:aP):V->Option Int->Option Int->av->cZ->Prop:=fun x lo ay H Q=>∃a xs,x=.ref a/\dp K H a xs/\
 ¬(dE.cF xs.length 0 lo=0/\dE.cF xs.length xs.length ay=xs.length)/\∀p,H p=none->Q (.ref p) (upd H p (.tup (oS xs lo ay)))
theorem My:oN X (aap X.K):=by
 intro pinZ s σ H x v gO gP lo ay cA Q I a5 aC pl pu h;obtain⟨a,xs,rfl,ah,hw,q⟩:=h;cases a5;obtain⟨its,r,bG,hz⟩:=I.tuple ah;have hlen:its.toArray.size=xs.length:=by rw[ahW];exact r.length.symm
 refine⟨"tuple",_,aiV.lookup,bG.typeIs,?_⟩;refine dE.Tw bG aC pl pu (by rw[hlen];exact hw) ?_ (by rw[hlen];exact hz);rw[hlen];refine⟨.ref s.heap.objs.size,_,I.laid (t':=s.toks) (o:=.tup (oS xs lo ay)) (fun b bA q=>ahI _ q) (ahM _) ?_,rfl,q _ (I.bF.fresh (ahM _))⟩;exact⟨aiS (GY xs lo ay) hz,_,(r.drop (dE.cF xs.length 0 lo)).take (dE.cF xs.length xs.length ay-dE.cF xs.length 0 lo),IsTup.new _ _⟩
end
def qx(n:Nat)(i:Int):Option Nat:=if 0<=i then(if i<n then some i.toNat else none)else if -(n:Int)<=i then some (i+n).toNat else none
def ed{α:Type}(xs:List α)(i:Int):Option α:=(qx xs.length i).bind fun j=>xs[j]?
theorem WE{i:Int}(h:qx n i=some j):seqIndex? i n=some j/\j<n/\-(n:Int)<=i/\i<n:=by
 unfold qx at h
 by_cases h0:0<=i
 ·rw[if_pos h0]at h
  by_cases ae:i<n
  ·rw[if_pos ae]at h
   have e:i.toNat=j:=aih h;exact⟨by rw[seqIndex_of h0 ae,e],by omega,by omega,ae⟩
  ·rw[if_neg ae]at h;cases h
 ·rw[if_neg h0]at h
  by_cases ae:-(n:Int)<=i
  ·rw[if_pos ae]at h
   have e:(i+n).toNat=j:=aih h;exact⟨by rw[seqIndex_neg (by omega) ae,e],by omega,ae,by omega⟩
  ·rw[if_neg ae]at h;cases h
theorem wm{α:Type}{xs:List α}{i:Int}{v:α}(h:ed xs i=some v):∃j,seqIndex? i xs.length=some j/\xs[j]? = some v/\j<xs.length/\-(xs.length:Int)<=i/\i<xs.length:=by
 unfold ed at h
 cases e:qx xs.length i with
 |none=>rw[e]at h;cases h
 |some j=>
  rw[e]at h;obtain⟨ae,ag,bK,dt⟩:=WE e;exact⟨j,ae,h,ag,bK,dt⟩
theorem OB{α:Type}{xs:List α}{j:Nat}{v:α}(h:xs[j]? = some v):ed xs (j:Int)=some v:=by
 have aZ:j<xs.length:=(ahN.mp h).1;have e:qx xs.length (j:Int)=some j:=by
  unfold qx;rw[if_pos (by omega),if_pos (by omega)];simp
 unfold ed;rw[e];exact h
def EJ(b:Expr):Prop:=∀o i,amt b false o i=operate [o,i] (akX o i)
def mA(X:aQ)(r:fG):Prop:=
 ∀(value slice:Expr)(pinZ:cP)(s:ahL)(σ:St)(H:av)(x y:V)(v u:Value)(Q:cZ),Inv X pinZ σ H s->RelV x v->RelV y u->r x y H Q->
  amt slice false v u=operate [v,u] (akX v u)->wpAny (model X.prog X.w) X.A (subscriptTail value slice v u) (g7 X pinZ σ Q) X.dA s
def zA(X:aQ)(id:String)(r:V->List V->av->cZ->Prop):Prop:=
 ∀(pinZ:cP)(s:ahL)(σ:St)(H:av)(x:V)(xs:List V)(v:Value)(us:List Value)(Q:cZ),Inv X pinZ σ H s->RelV x v->Vals xs us->r x xs H Q->
  wpAny (model X.prog X.w) X.A (call (.builtin id) (v::us)) (g7 X pinZ σ Q) X.dA s
section
variable{X:aQ}{a b:Expr}{b0 cU:TE}{pos:Pos}
theorem mA.or{r bL:fG}(h:mA X r)(h':mA X bL):mA X (fun x y H Q=>r x y H Q\/bL x y H Q):=by
 intro value slice pinZ s σ H x y v u Q I a5 bt q aC;rcases q with q | q
 ·exact h value slice pinZ s σ H x y v u Q I a5 bt q aC
 ·exact h' value slice pinZ s σ H x y v u Q I a5 bt q aC
theorem ZC{r:fG}(aG:mA X r)(ao:bQ X a b0)(aa:bQ X b cU)(aC:EJ b):bQ X (.Subscript a b pos) (vx r b0 cU):=by
 intro pinZ s σ H Q I h;exact Subscript_ (z9 ao aa I h fun v u s2 x y aJ bM a5 bt q=>aG a b pinZ s2 σ aJ x y v u Q bM a5 bt q (aC _ _))
def Ld(K:aP):fG:=fun x y H Q=>∃p xs i v,x=.ref p/\y=.int i/\c3 K H p xs/\ed xs i=some v/\Q v H
def Lf(K:aP):fG:=fun x y H Q=>∃p xs i v,x=.ref p/\y=.int i/\dp K H p xs/\ed xs i=some v/\Q v H
def Le:fG:=fun x y H Q=>∃z i c,x=.str z/\y=.int i/\z.length<=ahQ/\ed z.cps.toList i=some c/\Q (.str ⟨#[c]⟩) H
theorem WG:mA X (Ld X.K):=by
 intro value slice pinZ s σ H x y v u Q I a5 bt h aC;obtain⟨p,xs,i,z,rfl,rfl,a4,he,q⟩:=h;cases a5;obtain⟨t,rfl⟩:=bt;obtain⟨its,r,pl,hz⟩:=I.list a4;obtain⟨j,ae,ag,bK,dt,eW⟩:=wm he;obtain⟨w,rJ,je⟩:=r.get ag;have aj:=r.length;have aH:=uy;have fin:g7 X pinZ σ Q w s:=⟨z,H,I,je,q⟩
 by_cases h0:0<=i
 ·have aZ:i.toNat=j:=by
   rw[seqIndex_of h0 eW]at ae;exact aih ae
  exact item_listR pl.isList h0 (by omega) (by rw[aZ];simpa using rJ) fin aC
 ·have aZ:(i+(its.toArray.size:Int)).toNat=j:=by
   rw[seqIndex_neg (by omega) dt]at ae;rw[ahW,<-aj];exact aih ae
  exact subscriptTail_builtinR (x:=w) pl.isList.typeIs slot_list_getitem.lookup
   (wpAny_getItem_list_neg (Q:=fun r aM=>r=w/\g7 X pinZ σ Q r aM) pl.isList (by omega) (by rw[ahW]<;>omega) (by omega) (by rw[aZ];simpa using rJ) ⟨rfl,fin⟩) aC
theorem WI:mA X (Lf X.K):=by
 intro value slice pinZ s σ H x y v u Q I a5 bt h aC;obtain⟨p,xs,i,z,rfl,rfl,a4,he,q⟩:=h;cases a5;obtain⟨t,rfl⟩:=bt;obtain⟨its,r,pl,hz⟩:=I.tuple a4;obtain⟨j,ae,ag,bK,dt,eW⟩:=wm he;obtain⟨w,rJ,je⟩:=r.get ag;have aj:=r.length;have aH:=uy;have fin:g7 X pinZ σ Q w s:=⟨z,H,I,je,q⟩;exact subscriptTail_builtinR (x:=w) pl.typeIs slot_tuple_getitem.lookup
  (getItem_tuple (j:=j) (Q:=fun r aM=>r=w/\g7 X pinZ σ Q r aM) pl (by omega) (by omega) (by rw[ahW,<-aj];exact ae) (by simpa using rJ) ⟨rfl,fin⟩) aC
theorem WH:mA X Le:=by
 intro value slice pinZ s σ H x y v u Q I a5 bt h aC;obtain⟨z,i,c,rfl,rfl,hz,he,q⟩:=h;obtain⟨t,rfl⟩:=a5;obtain⟨t',rfl⟩:=bt;obtain⟨j,ae,ag,bK,dt,eW⟩:=wm he;have aj:z.cps.toList.length=z.length:=by simp[Str.length]
 rw[aj]at ae dt eW;have aH:=uy;exact tail_any (typeIs_str s z t) slot_str_getitem.lookup (getItem_str (c:=c) (by
  have aq:decide (i < -(2 ^ 63:Int))=false:=decide_eq_false (by omega);have aD:decide (i≥2 ^ 63)=false:=decide_eq_false (by omega);rw[aq,aD,Bool.or_false]) (by rw[ae];simpa using ag) ⟨.str ⟨#[c]⟩,H,I.tok _,⟨_,rfl⟩,q⟩) aC
def Lc(K:aP):fG:=fun x y H Q=>Ld K x y H Q\/Lf K x y H Q\/Le x y H Q
theorem h1:mA X (Lc X.K):=WG.or (WI.or WH)
theorem ab4(lo ay:Option Int)(n:Nat):(akH lo ay none n).1=((dE.cF n 0 lo:Nat):Int)/\(akH lo ay none n).2.1=((dE.cF n n ay:Nat):Int)/\(akH lo ay none n).2.2=1:=by
 refine⟨?_,?_,rfl⟩
 ·cases lo with
  |none=>simp[akH,dE.cF]|some i=>
   simp only[akH,dE.cF,Option.getD_none,show(1:Int) > 0 by decide,if_true]
   by_cases h:i<0
   ·simp only[h,if_true]<;>omega
   ·simp only[h,if_false]<;>omega
 ·cases ay with
  |none=>simp[akH,dE.cF]|some i=>
   simp only[akH,dE.cF,Option.getD_none,show(1:Int) > 0 by decide,if_true]
   by_cases h:i<0
   ·simp only[h,if_true]<;>omega
   ·simp only[h,if_false]<;>omega
theorem ab3(its:List Value)(lo ay:Option Int):slicePick its.toArray lo ay none=((its.drop (dE.cF its.length 0 lo)).take (dE.cF its.length its.length ay-dE.cF its.length 0 lo)).toArray:=by
 obtain⟨ae,ag,bK⟩:=ab4 lo ay its.toArray.size;unfold slicePick;rw[ae,ag,bK];simp only[sliceRange_one,pick_run,ahW]<;>rfl
def aao(K:aP):V->Option Int->Option Int->av->cZ->Prop:=fun x lo ay H Q=>∃a xs,x=.ref a/\c3 K H a xs/\∀p,H p=none->Q (.ref p) (upd H p (.lst (oS xs lo ay)))
theorem ab1:oN X (aao X.K):=by
 intro pinZ s σ H x v gO gP lo ay cA Q I a5 aC pl pu h;obtain⟨a,xs,rfl,ah,q⟩:=h;cases a5;obtain⟨its,r,bG,hz⟩:=I.list ah;have hlen:=r.length;refine⟨"list",_,slot_list_getitem.lookup,bG.isList.typeIs,?_⟩;refine wpAny_getItem_list_slice bG.isList aC pl pu .none (by simp) ?_ (by rw[ahW]<;>omega);rw[ab3,<-hlen];refine⟨.ref s.heap.objs.size,_,I.laid (t':=s.toks) (o:=.lst (oS xs lo ay)) (fun b bA q=>ahI _ q) (ahM _) ?_,rfl,q _ (I.bF.fresh (ahM _))⟩;exact⟨aiS (GY xs lo ay) hz,_,0,(r.drop (dE.cF xs.length 0 lo)).take (dE.cF xs.length xs.length ay-dE.cF xs.length 0 lo),ahU _ rfl⟩
def mN:V->Bool
 |.aW=>true|.aA _=>true|.int _=>true|.str _=>true|_=>false
def mL:V->V->Bool
 |.aW,.aW=>true|.aA a,.aA b=>a==b|.aA a,.int b=>(if a then 1 else 0)==b|.int a,.aA b=>a==(if b then 1 else 0)|.int a,.int b=>a==b|.str a,.str b=>a==b|_,_=>false
theorem SU{u v:Value}(bt:RelV y u)(a5:RelV x v)(Tr:mN y=true)(ko:mN x=true):SeqAt.EqAt A s u v (mL y x):=by
 cases y with
 |aW=>
  cases bt
  cases x with
  |aW=>cases a5;exact SeqAt.EqAt.same _
  |aA b=>cases a5;exact SeqAt.EqAt.none_bool b
  |int b=>obtain⟨t,rfl⟩:=a5;exact SeqAt.EqAt.none_int b t
  |str b=>obtain⟨t,rfl⟩:=a5;exact SeqAt.EqAt.none_str b t
  |_=>exact absurd (show false=true from ko) ahV
 |aA a=>
  cases bt
  cases x with
  |aW=>cases a5;exact SeqAt.EqAt.bool_none a
  |aA b=>cases a5;exact SeqAt.EqAt.bool_bool a b
  |int b=>obtain⟨t,rfl⟩:=a5;exact SeqAt.EqAt.bool_int a b t
  |str b=>obtain⟨t,rfl⟩:=a5;exact SeqAt.EqAt.bool_str a b t
  |_=>exact absurd (show false=true from ko) ahV
 |int a=>
  obtain⟨t',rfl⟩:=bt
  cases x with
  |aW=>cases a5;exact SeqAt.EqAt.int_none a t'
  |aA b=>cases a5;exact SeqAt.EqAt.int_bool a t' b
  |int b=>obtain⟨t,rfl⟩:=a5;exact amN a t' b t
  |str b=>obtain⟨t,rfl⟩:=a5;exact amK a t' b t
  |_=>exact absurd (show false=true from ko) ahV
 |str a=>
  obtain⟨t',rfl⟩:=bt
  cases x with
  |aW=>cases a5;exact SeqAt.EqAt.str_none a t'
  |aA b=>cases a5;exact SeqAt.EqAt.str_bool a t' b
  |int b=>obtain⟨t,rfl⟩:=a5;exact amL a t' b t
  |str b=>obtain⟨t,rfl⟩:=a5;exact SeqAt.EqAt.str_str a t' b t
  |_=>exact absurd (show false=true from ko) ahV
 |_=>exact absurd (show false=true from Tr) ahV
def jB(x:V)(u:Value):Bool:=match u with
 |.none=>mL .aW x|.bool b=>mL (.aA b) x|.int i _=>mL (.int i) x|.str z _=>mL (.str z) x|_=>false
theorem He(r:RelV y u)(f:mN y=true):jB x u=mL y x:=by
 cases y with
 |aW=>cases r;rfl
 |aA b=>cases r;rfl
 |int i=>obtain⟨t,rfl⟩:=r;rfl
 |str z=>obtain⟨t,rfl⟩:=r;rfl
 |_=>exact absurd (show false=true from f) ahV
theorem tv:∀{xs:List V}{us:List Value},Vals xs us->xs.all mN=true->us.any (jB x)=xs.any fun y=>mL y x
 |_,_,.nil,_=>rfl|y::xs,u::us,.cons r t,f=>by
  rw[akD,aix]at f;rw[ajs,ajs,He r f.1,tv t f.2]
theorem uM{v:Value}(a5:RelV x v)(ko:mN x=true):∀{xs:List V}{us:List Value},Vals xs us->xs.all mN=true->∀u∈us,SeqAt.EqAt A s u v (jB x u)
 | _,_,.nil,_=>fun u cb=>by cases cb
 |y::xs,u::us,.cons r t,f=>fun u' cb=>by
  rw[akD,aix]at f;rcases ahP.mp cb with rfl | cb
  ·rw[He r f.1];exact SU r a5 f.1 ko
  ·exact uM a5 ko t f.2 u' cb
def BL(x:V)(xs:List V):Bool:=xs.any fun y=>mL y x
def Dt(K:aP)(neg:Bool):fG:=fun x y H Q=>∃p xs,y=.ref p/\(c3 K H p xs\/dp K H p xs)/\mN x=true/\xs.all mN=true/\Q (.aA (if neg then !BL x xs else BL x xs)) H
theorem Kx:d4 X (ais .In) (Dt X.K false):=by
 intro pinZ s σ H x y v u Q I a5 bt h;obtain⟨p,xs,rfl,a4,ko,aV,q⟩:=h;cases bt;rcases a4 with a4 | a4
 ·obtain⟨its,r,pl,hz⟩:=I.list a4
  refine SeqAt.in_listAt (jB x) pl.isList (fun w hw=>uM a5 ko r aV w (by simpa using hw)) ⟨.aA _,H,I,rfl,?_⟩;rw[show its.toArray.any (jB x)=its.any (jB x)by simp,tv r aV];exact q
 ·obtain⟨its,r,pl,hz⟩:=I.tuple a4
  refine SeqAt.in_tupleAt (jB x) pl (fun w hw=>uM a5 ko r aV w (by simpa using hw)) ⟨.aA _,H,I,rfl,?_⟩;rw[show its.toArray.any (jB x)=its.any (jB x)by simp,tv r aV];exact q
theorem Y0:d4 X (ais .NotIn) (Dt X.K true):=by
 intro pinZ s σ H x y v u Q I a5 bt h;obtain⟨p,xs,rfl,a4,ko,aV,q⟩:=h;cases bt;rcases a4 with a4 | a4
 ·obtain⟨its,r,pl,hz⟩:=I.list a4
  refine SeqAt.notIn_listAt (jB x) pl.isList (fun w hw=>uM a5 ko r aV w (by simpa using hw)) ⟨.aA _,H,I,rfl,?_⟩;rw[show its.toArray.any (jB x)=its.any (jB x)by simp,tv r aV];exact q
 ·obtain⟨its,r,pl,hz⟩:=I.tuple a4
  refine SeqAt.notIn_tupleAt (jB x) pl (fun w hw=>uM a5 ko r aV w (by simpa using hw)) ⟨.aA _,H,I,rfl,?_⟩;rw[show its.toArray.any (jB x)=its.any (jB x)by simp,tv r aV];exact q
theorem QT:iZ X (.builtin "len") (fun xs H Q=>∃p ys,xs=[.ref p]/\(c3 X.K H p ys\/dp X.K H p ys)/\Q (.int ys.length) H):=by
 intro pinZ s σ H xs us Q I r h;obtain⟨p,ys,rfl,a4,q⟩:=h;obtain⟨u,rfl,a5⟩:=vals1 r;cases a5;have aH:=uy;rcases a4 with a4 | a4
 ·obtain⟨its,bL,pl,hz⟩:=I.list a4
  have hlen:=bL.length;exact Calls.call_len_list pl.isList (by simp only[ahW]<;>omega) ⟨.int ys.length,H,I.tok _,⟨s.toks+1,by rw[ahW,hlen]⟩,q⟩
 ·obtain⟨its,bL,pl,hz⟩:=I.tuple a4
  have hlen:=bL.length;exact len_tuple pl (by simp only[ahW]<;>omega) ⟨.int ys.length,H,I.tok _,⟨s.toks+1,by rw[ahW,hlen]⟩,q⟩
theorem QU:iZ X (.builtin "len") (fun xs H Q=>∃z,xs=[.str z]/\z.length<=ahQ/\Q (.int z.length) H):=by
 intro pinZ s σ H xs us Q I r h;obtain⟨z,rfl,hz,q⟩:=h;obtain⟨u,rfl,t,rfl⟩:=vals1 r;have aH:=uy;exact len_str (by omega) ⟨.int z.length,H,I.tok _,⟨_,rfl⟩,q⟩
theorem Ah:iZ X (.type "tuple") (fun xs H Q=>∃p ys,xs=[.ref p]/\((c3 X.K H p ys/\∀l,H l=none->Q (.ref l) (upd H l (.tup ys)))\/(dp X.K H p ys/\Q (.ref p) H))):=by
 intro pinZ s σ H xs us Q I r h;obtain⟨p,ys,rfl,h⟩:=h;obtain⟨u,rfl,a5⟩:=vals1 r;cases a5;rcases h with⟨a4,q⟩ | ⟨a4,q⟩
 ·obtain⟨its,bL,pl,hz⟩:=I.list a4
  have hlen:=bL.length;refine call_tuple_list pl.isList (fun h' kp=>?_) (by simp only[ahW]<;>omega);have a8:Inv X pinZ σ H { s with heap:=h' }:=I.kept (t':=s.toks) kp;have bM:Inv X pinZ σ (upd H h'.objs.size (.tup ys)) { s with heap:=h'.push { cls:=.type "tuple",data:=.seq its.toArray } }:=
   a8.laid (t':=s.toks) (fun b o e=>ahI _ e) (ahM _) (show gz X.prog X.w _ _ _ (.tup ys)from⟨hz,its,bL,IsTup.new _ _⟩)
  exact⟨.ref h'.objs.size,_,bM,rfl,q _ (a8.bF.fresh (ahM _))⟩
 ·obtain⟨its,bL,pl,hz⟩:=I.tuple a4
  exact call_tuple_same pl ⟨.ref p,H,I,rfl,q⟩
def y7(K:aP)(T:String)(x:V)(H:av):Prop:=match x with
 |.str _=>T="str"|.int _=>T="int"|.ref p=>(T="list"/\∃xs,c3 K H p xs)\/(T="tuple"/\∃o,K.lookup p=some o/\o.cls=.type "tuple"/\o.dict=none)\/
   (T="dict"/\((∃aw,H p=some (.e7 aw))\/∃aw,H p=some (.g_ aw)))\/(T="set"/\∃S n,H p=some (.set S n))
 |_=>False
theorem Nq{v:Value}(I:Inv X pinZ σ H s)(r:RelV x v)(ty:y7 X.K T x H) :
  s.TypeIs v T/\∀a,v=.ref a->∃bA,s.heap.get? a=some bA/\bA.dict=none:=by
 cases x with
 |str z=>
  obtain⟨t,rfl⟩:=r;cases(show T="str" from ty);exact⟨typeIs_str s z t,fun _ e=>nomatch e⟩
 |int i=>
  obtain⟨t,rfl⟩:=r;cases(show T="int" from ty);exact⟨typeIs_int s i t,fun _ e=>nomatch e⟩
 |ref p=>
  cases r;rcases ty with⟨rfl,xs,a4⟩ | ⟨rfl,o,az,aE,hd⟩ | ⟨rfl,az⟩ | ⟨rfl,S,n,az⟩
  ·obtain⟨its,_,pl,_⟩:=I.list a4
   refine⟨pl.isList.typeIs,fun a e=>?_⟩;cases e;obtain⟨o,n,e,c,hd,_⟩:=pl;exact⟨o,e,hd⟩
  ·refine⟨⟨o,I.eZ p o az,aE⟩,fun a e=>?_⟩
   cases e;exact⟨o,I.eZ _ o az,hd⟩
  ·have z:∃o,s.heap.get? p=some o/\o.ExactDict:=by
    rcases az with⟨aw,az⟩ | ⟨aw,az⟩
    ·obtain⟨_,_,_,_,o,_,_,e,ex,_⟩:=I.bF p _ az
     exact⟨o,e,ex⟩
    ·obtain⟨_,_,_,_,o,_,_,e,ex,_⟩:=I.bF p _ az
     exact⟨o,e,ex⟩
   obtain⟨o,e,ex⟩:=z;refine⟨⟨o,e,ex.1⟩,fun a aD=>?_⟩;cases aD;exact⟨o,e,ex.2.1⟩
  ·obtain⟨o,_,_,_,e,ex,_⟩:=I.bF p _ az
   refine⟨⟨o,e,ex.1⟩,fun a aD=>?_⟩;cases aD;exact⟨o,e,ex.2.1⟩
 |_=>exact air ty
def acr(K:aP)(T:String)(r:V->List V->av->cZ->Prop)(to:TE):TE:=fun σ H Q=>to σ H fun x H1=>y7 K T x H1/\r x [] H1 Q
def acq(K:aP)(T:String)(r:V->List V->av->cZ->Prop)(to:TE)(t:fW):TE:=fun σ H Q=>to σ H fun x H1=>y7 K T x H1/\t σ H1 fun xs aJ=>r x xs aJ Q
variable{o e:Expr}{ax:List Expr}{to:TE}{t:fW}{name:Str}{apos cM:Pos}{T id:String}{r:V->List V->av->cZ->Prop}
theorem Zm(eg:PlainAttrs T)(slot:Slot T name id)(qq:typeOf (.builtin id)=pure (.type "method_descriptor"))(hm:zA X id r)(bc:bQ X o to)
  (nQ:ajr o name X.env (eval o X.env)=eval o X.env:=by rfl) (nX:(apos.endLine==cM.line)=true:=by rfl):bQ X (.Call (.Attribute o name apos) [] [] cM) (acr X.K T r to):=by
 intro pinZ s σ H Q I h;refine wpAny_Call_method0_late nQ nX (bR (bc pinZ s σ H _ I h) fun v s1 aX=>?_);obtain⟨x,H1,a8,bu,ty,ba⟩:=aX;obtain⟨ae,ag⟩:=Nq a8 bu ty;exact⟨T,id,eg,slot,qq,ae,ag,ako rfl (PySem.evalArgs_none (hm pinZ s1 σ H1 x [] v [] Q a8 bu .nil ba))⟩
theorem KI(eg:PlainAttrs T)(slot:Slot T name id)(qq:typeOf (.builtin id)=pure (.type "method_descriptor"))(hm:zA X id r)(bc:bQ X o to)(ao:e5 X (e::ax) t)
  (nQ:ajr o name X.env (eval o X.env)=eval o X.env:=by rfl)
  (ue:((aie cM (ahK (e::ax) X.env)).all (fun x=>!x.1)&&(ajv cM (ai6 [] X.env)).all (fun x=>x.1.isSome)
&&decide ((e::ax).length+([]:List akY).length+(if([]:List akY).isEmpty then 0 else 1)<30))=true:=by rfl)
  (nX:(apos.endLine==cM.line)=true:=by rfl) (aC:ahK (e::ax) X.env=(false,eval e X.env)::ahK ax X.env:=by rfl) (iK:(aie cM (ahK ax X.env)).any (·.1)=false:=by rfl) :
  bQ X (.Call (.Attribute o name apos) (e::ax) [] cM) (acq X.K T r to t):=by
 intro pinZ s σ H Q I h;refine wpAny_Call_method_late nQ ue nX rfl (bR (bc pinZ s σ H _ I h) fun v s1 aX=>?_);obtain⟨x,H1,a8,bu,ty,ba⟩:=aX;obtain⟨ae,ag⟩:=Nq a8 bu ty;refine⟨T,id,eg,slot,qq,ae,ag,?_⟩;have rT:=ao cM pinZ s1 σ H1 _ a8 ba;rw[aC]at rT ⊢;refine ako (by show(false||(aie cM (ahK ax X.env)).any (·.1))=false;rw[iK]<;>rfl) (alk ?_);exact bR rT fun us s2 ⟨vs,aJ,bM,b4,bU⟩=>hm pinZ s2 σ aJ x vs v us Q bM bu b4 bU
end
def v8(X:aQ)(id:String)(r:V->List V->av->cZ->Prop):Prop:=
 ∀(pinZ:cP)(s:ahL)(σ:St)(H:av)(x:V)(xs:List V)(v:Value)(us:List Value)(Q:cZ),Inv X pinZ σ H s->RelV x v->Vals xs us->r x xs H Q->
  wpAny (model X.prog X.w) X.A (call (.builtin id) (v::us)) (g7 X pinZ σ Q) X.dA s
theorem Vals.one:∀{x:V}{us:List Value},Vals [x] us->∃u,us=[u]/\RelV x u
 |_,_,.cons r .nil=>⟨_,rfl,r⟩
section
variable{X:aQ}{pinZ:cP}{σ:St}{H:av}{s:ahL}{l:Addr}{xs ys:List V}
theorem Inv.JI{its its':List Value}{n:Nat}{f:Array Value->Array Value}{t':Nat}(I:Inv X pinZ σ H s)(dW:H l=some (.lst xs))
  (e:s.heap.get? l=some { cls:=.type "list",data:=.seq its.toArray n }) (hf:f its.toArray=its'.toArray) (bz:Vals ys its') (hz:ys.length<=ahQ) :
  Inv X pinZ σ (upd H l (.lst ys)) { s with heap:=s.heap.update l (aim f),toks:=t' }:=by
 have q:=IsL.update e f;rw[hf]at q;refine I.write (x:=l) (e:=l) (by rw[dW];exact trivial) (.inl rfl) (fun eU u aa cb=>(amu s.heap (aim f) (aks aa)).trans cb) ⟨_,q⟩ ?_;exact⟨hz,its',_,bz,q⟩
theorem Inv.JD{t':Nat}(I:Inv X pinZ σ H s)(bz:Vals ys its)(hz:ys.length<=ahQ) :
  Inv X pinZ σ (upd H s.heap.objs.size (.lst ys)) { s with heap:=s.heap.push { cls:=.type "list",data:=.seq its.toArray },toks:=t' }:=
 I.laid (fun _ _ q=>ahI _ q) (ahM _) ⟨hz,its,0,bz,ahU _ rfl⟩
theorem Inv.fresh(I:Inv X pinZ σ H s):H s.heap.objs.size=none:=I.bF.fresh (ahM _)
theorem Inv.uz(I:Inv X pinZ σ H s)(dW:H l=some (.lst xs)):xs.length<=ahQ/\∃(its:List Value)(n:Nat),Vals xs its/\xs.length=its.length/\s.heap.get? l=some { cls:=.type "list",data:=.seq its.toArray n }:=by
 obtain⟨z,its,n,r,e⟩:=I.bF l _ dW;exact⟨z,its,n,r,r.length,e⟩
theorem Yx(h:n<=ahQ):akT n=false:=by
 unfold akT;exact decide_eq_false (by omega)
end
section
variable{X:aQ}
def K9:V->List V->av->cZ->Prop:=fun x vs H Q=>∃l xs y,x=.ref l/\vs=[y]/\H l=some (.lst xs)/\xs.length<ahQ/\Q .aW (upd H l (.lst (xs++[y])))
theorem uO:v8 X "list.append" K9:=by
 intro pinZ s σ H x vs v us Q I a5 bI h;obtain⟨l,xs,y,rfl,rfl,dW,hz,q⟩:=h;cases a5;obtain⟨u,rfl,dD⟩:=bI.one;obtain⟨z,its,n,r,aj,e⟩:=I.uz dW;refine call_meets F.slot_list_append ⟨_,e,rfl⟩ F.entry_list_append (F.args_list_append_2 _ _) (PySem.list_append l its.toArray n u (by rw[ahW];omega)) ⟨e,?_⟩;refine⟨.aW,_,I.JI (its':=its++[u]) dW e (by simp) (r.append (.cons dD .nil)) ?_,rfl,q⟩;rw[ahS,akx];omega
def K':V->List V->av->cZ->Prop:=fun x vs H Q=>∃l b xs zs,x=.ref l/\vs=[.ref b]/\H l=some (.lst xs)/\H b=some (.lst zs)/\xs.length+zs.length<=ahQ/\Q .aW (upd H l (.lst (xs++zs)))
theorem Yb:v8 X "list.extend" K':=by
 intro pinZ s σ H x vs v us Q I a5 bI h;obtain⟨l,b,xs,zs,rfl,rfl,dW,nN,hz,q⟩:=h;cases a5;obtain⟨u,rfl,dD⟩:=bI.one;cases dD;obtain⟨z,its,n,r,aj,e⟩:=I.uz dW;obtain⟨d2,k_,dv,b4,hg,aD⟩:=I.uz nN;have hsz:its.toArray.size+k_.toArray.size<=ahQ:=by rw[ahW,ahW];omega
 have VN:¬(!its.toArray.isEmpty&&akT (its.toArray.size+k_.toArray.size))=true:=by
  rw[Yx hsz,Bool.and_false];exact ahV
 refine call_meets F.slot_list_extend ⟨_,e,rfl⟩ F.entry_list_extend (F.args_list_extend_2 _ _)
  (AutoSeq1.list_extend_list_list_0 l its.toArray n b k_.toArray dv VN (by rw[ahW];omega) (by omega)) ⟨e,aD,?_⟩
 refine⟨.aW,_,I.JI (its':=its++k_) dW e (by simp) (r.append b4) ?_,rfl,q⟩;rw[ahS];omega
def K_:fG:=fun x y H Q=>∃l b xs zs,x=.ref l/\y=.ref b/\H l=some (.lst xs)/\H b=some (.lst zs)/\xs.length+zs.length<=ahQ/\∀p,H p=none->Q (.ref p) (upd H p (.lst (xs++zs)))
theorem YT:d4 X (ajF .Add) K_:=by
 intro pinZ s σ H x y v u Q I a5 bt h;obtain⟨l,b,xs,zs,rfl,rfl,dW,nN,hz,q⟩:=h;cases a5;cases bt;obtain⟨z,its,n,r,aj,e⟩:=I.uz dW;obtain⟨d2,k_,dv,b4,hg,aD⟩:=I.uz nN;refine P.add_list e aD ?_ (by rw[ahW,ahW];omega);have gb:its.toArray++k_.toArray=(its++k_).toArray:=by simp
 rw[gb];exact⟨.ref _,_,I.JD (t':=s.toks) (r.append b4) (by rw[ahS];omega),rfl,q _ I.fresh⟩
end
end aF
namespace Ep
open PySem PySem.W PySem.Calls PyProof.Rows
theorem Wq:∀(ns:List Int)(vs:List Value),WellAll P h vs (ns.map WData.int)->aiM vs ns:=by
 intro ns
 induction ns with
 |nil=>
  intro vs w;rw[amb]at w;cases w;exact .nil
 |cons n ns a9=>
  intro vs w;rw[ahT]at w
  cases w with
  |cons a b=>
   cases a;exact .cons _ _ (a9 _ b)
theorem abV{l:OpenLaw}{n:Nat}(aH:l.most=some n){P:Params}{h:Heap}{args:List WData}{vals:List Value}
  (xy:l.row.toRowW.claim.pre args=true) (BG:WellAll P h vals args) :
  ∃a vs ns,vals=[aid a]/\args=[WData.list (ns.map WData.int)]/\h.get? a=some { cls:=.type "list",data:=.seq vs.toArray }/\aiM vs ns/\ns.length<=n:=by
 have xA:WShape.hasAll [] args [.list .int]=true:=(pre_splitW xy).1;have aE:l.pre.holds [] { args:=args }=true:=(pre_splitW xy).2;obtain⟨d,r,rfl,ae,ag⟩:=hasAllW_cons xA;obtain rfl:=hasAllW_nil ag;obtain⟨xs,rfl,bK⟩:=hasW_list ae;obtain⟨ns,rfl⟩:=items_int bK;have hlen:ns.length<=n:=by
  unfold OpenLaw.pre at aE;have dt:(WTm.not (.lt (.lit (.int (n:Int))) (.len (.arg 0)))).holds [] { args:=[.list (ns.map .int)] }=true:=by
   have dt:=(holds_andW aE).1;rw[aH]at dt;exact dt
  have eW:=condW_of dt (w_not (w_lt w_lit (w_len_list (w_arg rfl))));rw[ahJ]at eW;refine Nat.le_of_not_lt fun q=>?_
  have eA:(n:Int)<((ns.length:Nat):Int):=by omega
  first
   |(rw[decide_eq_true eA]at eW;exact absurd eW (by decide))
   |(simp at eW;omega)
 cases BG with
 |cons hk gj=>
  cases gj
  cases hk with
  |list bc hall=>exact⟨_,_,ns,rfl,rfl,bc,Wq ns _ hall,hlen⟩
theorem ZY(l:OpenLaw)(args:List WData):l.row.toRowW.claim.post args (.bool true) args=true:=
 postW_of (r:=l.row.toRowW) (X:=(true==true))
  (show WShape.has [] (.bool true) .bool=true by first | rfl | decide | simp[WShape.has,WShape.arms,WShape.armsAll])
  (show(WTm.eq .res (.lit (.bool true))).value [] { args:=args,res:=some (.bool true),after:=args }=some (.bool (true==true))from w_eq_bool (w_res rfl) w_lit) rfl
theorem OE{l:OpenLaw}{n:Nat}{q:ah1}{loose:List Str}{wd:(Str->Option Value)->Heap->Prop}{tr:World->Heap->Prop}{d:DefRec}
  (aH:l.most=some n) (Bn:d.params.defaults=[])
  (call:∀(w:World)(gN df:ahL)(mg c0:bk)(ep:Addr)(o:Obj)(pm cd doc:Value)(a:Addr)(vs:List Value)(ns:List Int),
   Ground q loose [] wd w gN mg c0 df.heap->tr w df.heap->
   df.heap.get? ep=some o->o.data=.func (docDef d.name d.params d.body d.scope pm cd doc)->df.heap.CodeRec cd d.name->mg d.name=some (.ref ep)->
   df.heap.get? a=some { cls:=.type "list",data:=.seq vs.toArray }->aiM vs ns->ns.length<=n->df.gens=#[]->
   akv (model l.prog w) al6 (.call (.ref ep) ⟨[.ref a],[]⟩) (fun r aM=>r=.ok (.ret (.bool true))/\OldK df.heap aM.heap/\aM.os=df.os/\alb aM.gens) df) :
  WalkO q loose wd tr l.row.toRowW d [] (fun f vs=>PySem.call f vs):=by
 intro w gN df mg c0 G Y ep o pm cd doc p9 cw bc hd gq ks ug aS args vals as xy aha ahd BG ahb;obtain rfl:p9=.none:=Dflts.none ks Bn;obtain rfl:cw=.none:=Dflts.noKw ks;obtain⟨a,vs,ns,rfl,rfl,By,hints,hlen⟩:=abV aH xy BG;refine enter_call (aj0 (call w gN df mg c0 ep o pm cd doc a vs ns G Y bc (fd_plain hd) gq ug By hints hlen aS) fun r aM a4=>?_);obtain⟨rfl,ag,bK,dt⟩:=a4;exact⟨.inl ⟨.bool true,.bool true,[],rfl,fun _=>rfl,.bool true,ZY l _,fun _=>⟨alU,fun _ hm=>(nomatch hm)⟩⟩,ag,bK,dt⟩
end Ep
namespace aF
open PySem PySem.Spec PyProof.Rows
theorem Nz:∀{vs:List Value}{ns:List Int},aiM vs ns->Vals (ns.map V.int) vs
 |_,_,.nil=>.nil|_,_,.cons n t h=>.cons ⟨t,rfl⟩ (Nz h)
abbrev jS{K:aP}{h:Heap}(_:K.In h):aP:=K
def inClass(s:Stmt)(j:Nat):Stmt:=match s with
 |.ClassDef _ _ _ body _ _ _ _ _ _ _=>body.getD j (.Pass ⟨0,0,0,0⟩)|_=>.Pass ⟨0,0,0,0⟩
def hV(s:Stmt):akR:=match s with
 |.FunctionDef _ a _ _ _ _ _ _ _ _=>a|_=>{ posonlyargs:=[],args:=[],vararg:=none,kwonlyargs:=[],kw_defaults:=[],kwarg:=none,defaults:=[] }
def fg(s:Stmt):List Stmt:=match s with
 |.FunctionDef _ _ b _ _ _ _ _ _ _=>b|_=>[]
def bH(s:Stmt):Scope:=match s with
 |.FunctionDef _ _ _ _ _ _ sc _ _ _=>sc|_=>{ kind:=.function,names:=[],isGenerator:=false,isCoroutine:=false }
abbrev ej:mx:=fun _ _ _ _ _ _=>False
abbrev i1:gn:=fun _ _ _=>False
theorem sA:Passes ej X i1:=fun _ _ _ _ _ _ _ h=>h.elim
structure kW(K:aP)(x qual:Str)(st:Stmt)(f:Addr)(fd:aiW):Prop where
 ex:∃(dw:Value)(c1:Option Addr)(cw doc pm:Value)(an:Option Addr)(bw b':Value)(fj:Array (Option Value)),
  fd=ajt x qual (hV st) (fg st) (bH st) .none cw doc pm an bw b'/\K.lookup f=some ⟨dw,c1,.func fd,fj⟩/\alu K bw qual=true
 kp:ajG K (.ref f)=true
section
variable{P:ah1}{w:World}{K:aP}{mg:bk}{base:Heap}
theorem kW.ok{x qual:Str}{st:Stmt}{f:Addr}{fd:aiW}{N ps:List Str}{k:Nat}{sp:d9}(F:kW K x qual st f fd)(S:cp N ps (bH st))(len:∀vs H Q E,sp vs H Q E->vs.length=ps.length)
  (t_:∀(bw:Value)(A:ah6)(outer:List Env)(s:ahL)(H:av)(vs:List V)(Q:cZ)(E:gn),cB k (A.deeper (akw qual (bH st) s.heap.objs.size f bw))->sp vs H Q E->
   ∃t,iC (gW ej P w K mg base N qual (bH st) f bw A outer s H E).gr (fg st) t/\t { bq:=fun _ H'=>Q .aW H',cS:=Q } (start N vs) H):e3 P w K mg base ej (k+1) f fd ps sp:=by
 obtain⟨dw,c1,cw,doc,pm,an,bw,b',fj,rfl,lk,gq⟩:=F.ex;refine AZ lk gq S len fun A outer s H vs Q E aG hu=>?_
 obtain⟨t,h,q⟩:=t_ bw A outer s H vs Q E aG hu;exact⟨t,h.gr,q⟩
theorem kW.binds{x qual:Str}{st:Stmt}{f:Addr}{fd:aiW}{ps:List Str}(F:kW K x qual st f fd)
  (h:∀(cw doc pm:Value)(an:Option Addr)(bw b':Value)(us:List Value),us.length=ps.length->ajZ (ajt x qual (hV st) (fg st) (bH st) .none cw doc pm an bw b') ⟨us,[]⟩=pure (ps.zip us)):Binds K fd ps []:=by
 obtain⟨dw,c1,cw,doc,pm,an,bw,b',fj,rfl,lk,gq⟩:=F.ex;exact .all (h cw doc pm an bw b')
theorem xf{x qual:Str}{st:Stmt}{f:Addr}{dw:Value}{c1 an:Option Addr}{fj:Array (Option Value)}{cw doc pm bw b':Value}(l:K.lookup f=some ⟨dw,c1,.func (ajt x qual (hV st) (fg st) (bH st) .none cw doc pm an bw b'),fj⟩)
  (c:alu K bw qual=true) (k:ajG K (.ref f)=true):kW K x qual st f (ajt x qual (hV st) (fg st) (bH st) .none cw doc pm an bw b'):=⟨⟨dw,c1,cw,doc,pm,an,bw,b',fj,rfl,l,c⟩,k⟩
end
theorem eB(h:n<=1000):n<ahQ:=Nat.lt_of_le_of_lt h (by decide)
theorem qv{A B:Prop}(h:B):if false=true then A else B:=by
 rw[if_neg ahV];exact h
theorem qw{A B:Prop}(h:A):if true=true then A else B:=by
 rw[if_pos rfl];exact h
end aF
set_option maxHeartbeats 4000000
namespace aF
open PySem PySem.Spec PyProof.Rows
section
variable{κ:Type}[DecidableEq κ]
def jP(aw:List (κ×V))(k:κ):Option V:=(aw.find? fun kv=>decide (kv.1=k)).map (·.2)
def putK(aw:List (κ×V))(k:κ)(v:V):List (κ×V):=
 if(aw.any fun kv=>decide (kv.1=k))=true then aw.map (fun kv=>if kv.1=k then(kv.1,v)else kv)else aw++[(k,v)]
theorem D5{r:List (κ×V)}{k:κ}(e:p.1=k):jP (p::r) k=some p.2:=by simp[jP,ajN,e]
theorem D4{r:List (κ×V)}{k:κ}(e:¬p.1=k):jP (p::r) k=jP r k:=by simp[jP,ajN,e]
theorem Ny(k:κ):∀aw:List (κ×V),(aw.any fun kv=>decide (kv.1=k))=(jP aw k).isSome
 |[]=>rfl|p::r=>by
  rw[ajs]
  by_cases e:p.1=k
  ·simp only[D5 e,decide_eq_true e,Bool.true_or,Option.isSome_some]
  ·rw[D4 e,decide_eq_false e,Bool.false_or];exact Ny k r
theorem Cn(aw:List (κ×V))(k:κ)(v:V):(putK aw k v).length<=aw.length+1:=by
 unfold putK;split
 ·rw[ahJ];omega
 ·rw[ahS,ahX,aiy];omega
theorem ig.Wu{o:Option V}{u:Option Value}(r:ig o u):o.isSome=u.isSome:=by
 cases o with
 |none=>cases u with
  |none=>rfl|some _=>exact(show False from r).elim
 |some _=>cases u with
  |none=>exact(show False from r).elim|some _=>rfl
theorem ig.getD{o:Option V}{u:Option Value}(r:ig o u)(cW:RelV d d'):RelV (o.getD d) (u.getD d'):=by
 cases o with
 |none=>cases u with
  |none=>exact cW|some _=>exact(show False from r).elim
 |some _=>cases u with
  |none=>exact(show False from r).elim|some _=>exact r
theorem fV.val(r:fV aw vs)(k:κ):ig (jP aw k) (al7 vs k):=by
 unfold fV at r
 induction r with
 |nil=>exact aja|@cons p q ps gJ h t a9=>
  obtain⟨ae,ag⟩:=h
  by_cases e:p.1=k
  ·have cf:q.1=k:=ae.symm.trans e
   have b:al7 (q::gJ) k=some q.2:=by simp[al7,ajN,cf]
   rw[D5 e,b];exact ag
  ·have cf:¬q.1=k:=fun z=>e (ae.trans z)
   have b:al7 (q::gJ) k=al7 gJ k:=by simp[al7,ajN,cf]
   rw[D4 e,b];exact a9
theorem fV.any{aw:List (κ×V)}{vs:List (κ×Value)}(r:fV aw vs)(k:κ):(aw.any fun kv=>decide (kv.1=k))=vs.any fun kv=>decide (kv.1=k):=by
 unfold fV at r
 induction r with
 |nil=>rfl|cons h t a9=>rw[ajs,ajs,a9,h.1]
theorem fV.Dw(r:fV aw vs)(k:κ)(bt:RelV y u) :
  fV (aw.map fun kv=>if kv.1=k then(kv.1,y)else kv) (vs.map fun kv=>if kv.1=k then(kv.1,u)else kv):=by
 unfold fV at r ⊢
 induction r with
 |nil=>exact .nil|@cons p q ps gJ h t a9=>
  rw[ahT,ahT];refine .cons ?_ a9;obtain⟨ae,ag⟩:=h
  by_cases e:p.1=k
  ·rw[if_pos e,if_pos (ae.symm.trans e)];exact⟨ae,bt⟩
  ·rw[if_neg e,if_neg (fun z=>e (ae.trans z))];exact⟨ae,ag⟩
theorem fV.put(r:fV aw vs)(k:κ)(bt:RelV y u):fV (putK aw k y) (stored vs k u):=by
 unfold putK stored;rw[r.any k]
 by_cases e:(vs.any fun kv=>decide (kv.1=k))=true
 ·rw[if_pos e,if_pos e];exact r.Dw k bt
 ·rw[if_neg e,if_neg e];exact Paired.snoc r ⟨rfl,bt⟩
theorem fV.length{aw:List (κ×V)}{vs:List (κ×Value)}(r:fV aw vs):aw.length=vs.length:=amF r
end
theorem uq{k:Key}(r:RelV (cw k) u):(iQ P w).is k u=true:=by
 cases k with
 |inl i=>obtain⟨t,e⟩:=(show ∃t,u=ala i t from r);subst e;exact X8 P w i t
 |inr x=>obtain⟨t,e⟩:=(show ∃t,u=alz x t from r);subst e;exact X9 P w x t
theorem IQ:∀{br:List Key}{us:List Value},Vals (br.map cw) us->ItemsAre (iQ P w) br us
 | [],_,r=>by rw[amb]at r;cases r;exact .nil
 |k::br,_,r=>by
  rw[ahT]at r
  cases r with
  |cons h t=>exact .cons (uq h) (IQ t)
abbrev KT(H:av):List (List Key×V)->List (List Key×Addr×Value)->Prop:=ak0 fun p q=>p.1=q.1/\H q.2.1=some (.tup (p.1.map cw))/\RelV p.2 q.2.2
theorem KT.val(r:KT H aw xs)(k:List Key):ig (jP aw k) ((atKey xs k).map (·.2)):=by
 induction r with
 |nil=>exact aja|@cons p q ps gJ h t a9=>
  obtain⟨ae,_,ag⟩:=h
  by_cases e:p.1=k
  ·have cf:q.1=k:=ae.symm.trans e
   have b:atKey (q::gJ) k=some q.2:=by simp[atKey,ajN,cf]
   rw[D5 e,b];exact ag
  ·have cf:¬q.1=k:=fun z=>e (ae.trans z)
   have b:atKey (q::gJ) k=atKey gJ k:=by simp[atKey,ajN,cf]
   rw[D4 e,b];exact a9
theorem KT.Dw(r:KT H aw xs)(k:List Key)(bt:RelV y u) :
  KT H (aw.map fun kv=>if kv.1=k then(kv.1,y)else kv) (xs.map (putAt k u)):=by
 induction r with
 |nil=>exact .nil|@cons p q ps gJ h t a9=>
  rw[ahT,ahT];refine .cons ?_ a9;obtain⟨ae,ag,bK⟩:=h;unfold putAt
  by_cases e:p.1=k
  ·rw[if_pos e,if_pos (ae.symm.trans e)];exact⟨ae,ag,bt⟩
  ·rw[if_neg e,if_neg (fun z=>e (ae.trans z))];exact⟨ae,ag,bK⟩
theorem KT.put{H:av}(r:KT H aw xs)(k:List Key)(aa:H b=some (.tup (k.map cw)))(bt:RelV y u) :
  KT H (putK aw k y) (storedH xs k b u):=by
 have e:(aw.any fun kv=>decide (kv.1=k))=(atKey xs k).isSome:=by
  rw[Ny,(r.val k).Wu,Option.isSome_map]
 unfold putK storedH;rw[e]
 by_cases q:(atKey xs k).isSome=true
 ·rw[if_pos q,if_pos q];exact r.Dw k bt
 ·rw[if_neg q,if_neg q];exact Paired.snoc r ⟨rfl,aa,bt⟩
theorem KT.keeps{H H':av}(r:KT H aw xs)(bG:∀b ys,H b=some (.tup ys)->H' b=some (.tup ys)):KT H' aw xs:=
 ak0.Cz r fun _ _ z=>⟨z.1,bG _ _ z.2.1,z.2.2⟩
section
variable{P:ah1}{w:World}{H:av}{h:Heap}{a:Addr}
theorem Lg(ok:e4 P w H h)(e:fH H a u):gz P w H h a u:=e.ok ok
theorem tI{aw:List (Key×V)}(ok:e4 P w H h)(e:fH H a (.e7 aw)):aw.length<=ahQ/\(a==ajq)=false/\∃vs,fV aw vs/\h.DictOf (iQ P w) a vs:=
 show gz P w H h a (.e7 aw)from Lg ok e
theorem G8{aw:List (Key×V)}(ok:e4 P w H h)(e:H a=some (.e7 aw)):aw.length<=ahQ/\(a==ajq)=false/\∃vs,fV aw vs/\h.DictOf (iQ P w) a vs:=tI ok (.inl e)
theorem xW{br:List Key}(ok:e4 P w H h)(e:H a=some (.tup (br.map cw))):(alA (iQ P w)).is h br a:=by
 obtain⟨_,its,r,o,ae,ag,n,bK⟩:=(show gz P w H h a (.tup (br.map cw))from ok a _ e);exact⟨o,its.toArray,n,ae,ag,bK,by simpa using IQ r⟩
theorem tK{aw:List (List Key×V)}(ok:e4 P w H h)(e:fH H a (.g_ aw)):aw.length<=ahQ/\(a==ajq)=false/\
  ∃xs,KT H aw xs/\h.DictOfH (alA (iQ P w)) a xs:=by
 obtain⟨z,y,xs,r,o,ax,cI,ae,ag,bK,dt,eW⟩:=(show gz P w H h a (.g_ aw)from Lg ok e);refine⟨z,y,xs,r,o,ax,cI,ae,ag,bK,dt,fun x ah=>?_,eW⟩;have all:∀{l:List (List Key×V)}{m:List (List Key×Addr×Value)},KT H l m->∀x∈m,(alA (iQ P w)).is h x.1 x.2.1:=by
  intro l m q
  induction q with
  |nil=>intro x ah;exact nomatch ah
  |@cons p q ps gJ a4 t a9=>
   intro x ah;rcases ahP.mp ah with e | ah
   ·subst e
    exact xW ok (by rw[<-a4.1];exact a4.2.1)
   ·exact a9 x ah
 exact all r x ah
theorem SG{aw:List (List Key×V)}(ok:e4 P w H h)(e:H a=some (.g_ aw)):aw.length<=ahQ/\(a==ajq)=false/\
  ∃xs,KT H aw xs/\h.DictOfH (alA (iQ P w)) a xs:=tK ok (.inl e)
end
def kT(H:av)(a:Addr)(y:V)(r:Option V):Prop:=
 (∃aw k,fH H a (.e7 aw)/\y=cw k/\r=jP aw k)\/∃aw k b,fH H a (.g_ aw)/\y=.ref b/\H b=some (.tup (k.map cw))/\r=jP aw k
def oD(H:av)(a:Addr)(y v:V)(H':av):Prop:=
 (∃aw k,H a=some (.e7 aw)/\y=cw k/\aw.length<ahQ/\H'=upd H a (.e7 (putK aw k v)))\/
 ∃aw k b,H a=some (.g_ aw)/\y=.ref b/\H b=some (.tup (k.map cw))/\aw.length<ahQ/\H'=upd H a (.g_ (putK aw k v))
theorem kT.k{H:av}{k:Key}(e:H a=some (.e7 aw)):kT H a (cw k) (jP aw k):=.inl ⟨aw,k,.inl e,rfl,rfl⟩
theorem kT.t{H:av}{k:List Key}(e:H a=some (.g_ aw))(cJ:H b=some (.tup (k.map cw))):kT H a (.ref b) (jP aw k):=.inr ⟨aw,k,b,.inl e,rfl,cJ,rfl⟩
theorem oD.k{H:av}{aw:List (Key×V)}{k:Key}{v:V}(e:H a=some (.e7 aw))(aj:aw.length<ahQ):oD H a (cw k) v (upd H a (.e7 (putK aw k v))):=.inl ⟨aw,k,e,rfl,aj,rfl⟩
theorem oD.t{H:av}{aw:List (List Key×V)}{k:List Key}{v:V}(e:H a=some (.g_ aw))(cJ:H b=some (.tup (k.map cw)))(aj:aw.length<ahQ) :
  oD H a (.ref b) v (upd H a (.g_ (putK aw k v))):=.inr ⟨aw,k,b,e,rfl,cJ,aj,rfl⟩
section
variable{X:aQ}{pinZ:cP}{σ:St}{H:av}{s:ahL}{a:Addr}{y v:V}{u r:Value}{o:Option V}{A:ah6}{E:cu}
theorem Inv.big(I:Inv X pinZ σ H s):ajq<s.heap.objs.size:=by
 have h:aik<s.heap.objs.size:=(I.mod.glob.keeps I.eP).lt;exact Nat.lt_trans (by decide) h
theorem RR{Q:cu}(cb:A.units+1<cLine)(I:Inv X pinZ σ H s)(g:kT H a y (some v))(bt:RelV y u)(h:∀eL aM,Inv X pinZ σ H aM->RelV v eL->Q eL aM) :
  wpAny (model X.prog X.w) A (akX (.ref a) u) Q E s:=by
 rcases g with⟨aw,k,e,e9,l⟩ | ⟨aw,k,b,e,e9,cJ,l⟩
 ·subst e9
  obtain⟨z,hd,vs,rel,dd⟩:=tI I.bF e;obtain⟨eL,hw,je⟩:=ig.some_of (v:=v) (o:=al7 vs k) (by rw[l];exact rel.val k);exact wpAny_getItem_of (uq bt) dd.mapOf hw (h eL _ (I.tok _) je)
 ·subst e9
  cases(show u=aid b from bt);obtain⟨z,hd,xs,rel,dd⟩:=tK I.bF e;obtain⟨eL,hw,je⟩:=ig.some_of (v:=v) (o:=(atKey xs k).map (·.2)) (by rw[l];exact rel.val k);obtain⟨p,aI,V1⟩:=akp.mp hw;refine wpAny_getItem_heap (alC cb) (xW I.bF cJ) dd aI ?_;rw[V1];exact h eL _ (I.tok _) je
theorem Ar{h':Heap}{t':Nat}(I:Inv X pinZ σ H s)(j6:tg (H a))(aC:alh a s.heap h')(he:∃q,h'.get? a=some q)(new:gz X.prog X.w (upd H a bA) h' a bA) :
  Inv X pinZ σ (upd H a bA) { s with heap:=h',toks:=t' }:=
 I.write (x:=a) (e:=a) j6 (.inl rfl) (fun b q aa z=>(aC.2 b aa).trans z) he new
theorem G7{H':av}{aw:List (Key×V)}(z:aw.length<=ahQ)(hd:(a==ajq)=false)(rel:fV aw vs)(dd:h'.DictOf (iQ P w) a vs) :
  gz P w H' h' a (.e7 aw):=⟨z,hd,vs,rel,dd⟩
theorem Sm{Q:Unit->ahL->Prop}(cb:A.units+1<cLine)(I:Inv X pinZ σ H s)(g:oD H a y v H')(bt:RelV y u)(bI:RelV v r)(h:∀aM,Inv X pinZ σ H' aM->Q () aM) :
  wpAny (model X.prog X.w) A (setItem (.ref a) u r) Q E s:=by
 rcases g with⟨aw,k,e,e9,l,Az⟩ | ⟨aw,k,b,e,e9,cJ,l,Az⟩
 ·subst e9 Az
  obtain⟨z,hd,vs,rel,dd⟩:=G8 I.bF e;have hz:vs.length<=ahQ:=by rw[<-rel.length];exact z
  have aj:(putK aw k v).length<=ahQ:=by have:=Cn aw k v;omega
  refine wpAny_setItem_pairs (hsz:=hz) (uq bt) dd fun h' p_ aC=>h _ ?_
  have he:∃q,h'.get? a=some q:=let⟨q,_,_,a4,_⟩:=p_;⟨q,a4⟩
  exact Ar I (by rw[e];exact aja) aC he (G7 aj hd (rel.put k bI) p_)
 ·subst e9 Az
  cases(show u=aid b from bt);obtain⟨z,hd,xs,rel,dd⟩:=SG I.bF e;have hz:xs.length<=ahQ:=by rw[<-amF rel];exact z
  have aj:(putK aw k v).length<=ahQ:=by have:=Cn aw k v;omega
  refine wpAny_setItem_heap (hsz:=hz) (alC cb) (xW I.bF cJ) dd fun h' p_ aC=>h _ ?_
  obtain⟨q,ax,cI,a4,ag,bK,dt,_,eW⟩:=p_;refine Ar I (by rw[e];exact aja) aC ⟨q,a4⟩ ⟨aj,hd,_,(rel.put k cJ bI).keeps fun c ys lL=>?_,q,ax,cI,a4,ag,bK,dt,eW⟩;rw[cX (CK lL e (fun z=>nomatch z))];exact lL
end
def ti(i:Expr):Prop:=∀ef o6,amt i false ef o6=operate [ef,o6] (akX ef o6)
theorem MJ{prog:ah1}{w:World}{A:ah6}{E:cu}{s:ahL}{env:Env}{value slice:Expr}{pos:Pos}{T id:String}{Q:cu}
  (aj:typeLookup (.type T) "__getitem__"=pure (some (.builtin id))) (aC:ti slice)
  (h:wpAny (model prog w) A (eval value env) (fun o df=>wpAny (model prog w) A (eval slice env) (fun i md=>md.TypeIs o T/\wpAny (model prog w) A (akX o i) Q E md) E df) E s) :
  wpAny (model prog w) A (eval (.Subscript value slice pos) env) Q E s:=by
 refine Subscript_ (aiv h (fun o df kA=>aiv kA (fun i md l1=>?_) fun _ _ x=>x) fun _ _ x=>x);obtain⟨eX,l1⟩:=l1;unfold subscriptTail;refine ahH ?_;rw[getitemInPython_of_ne eX.not_modules];refine ahH (wpAny_specialOf eX aj ?_);have fin:wpAny (model prog w) A (amt slice false o i) (fun r kI=>wpAny (model prog w) A (letTemporaryGo value o r >>= fun _=>pure r) Q E kI) E md:=by
  rw[aC o i];exact wpAny_operating (aiv l1 (fun r kI nZ=>ahH (wpAny_letTemporaryGo (ahO nZ))) fun _ _ x=>x)
 first
  |exact ahO (ahH fin)
  |exact ahH (ahO (ahH fin))
  |exact ahH fin
theorem Sv(I:Inv X pinZ σ H s)(g:kT H a y o):s.TypeIs (.ref a) "dict":=by
 rcases g with⟨aw,k,e,_,_⟩ | ⟨aw,k,b,e,_,_,_⟩
 ·obtain⟨_,_,vs,_,dd⟩:=tI I.bF e
  exact dd.typeIs
 ·obtain⟨_,_,xs,_,dd⟩:=tK I.bF e
  exact dd.typeIs
def acu(kJ ty:TE):TE:=fun σ H Q=>kJ σ H fun x H1=>ty σ H1 fun y aJ=>∃a v,x=.ref a/\kT aJ a y (some v)/\Q v aJ
def aaJ(kJ ty kM:TE):gT:=fun D σ H=>kM σ H fun v H1=>kJ σ H1 fun x aJ=>ty σ aJ fun y cG=>∃a hp,x=.ref a/\oD cG a y v hp/\D.bq σ hp
section
variable{X:aQ}{o i value:Expr}{pos pos':Pos}{kJ ty kM:TE}
theorem Zt(cb:X.A.units+1<cLine)(bc:bQ X o kJ)(ay:bQ X i ty)(aC:ti i):bQ X (.Subscript o i pos) (acu kJ ty):=by
 intro pinZ s σ H Q I h;refine MJ alZ.lookup aC (bR (bc pinZ s σ H _ I h) fun u s1 ⟨x,H1,a8,a5,ba⟩=>bR (ay pinZ s1 σ H1 _ a8 ba) fun o6 s2 ⟨y,aJ,bM,bt,a,v,ex,g,bU⟩=>?_);subst ex;obtain rfl:u=aid a:=a5;exact⟨Sv bM g,RR cb bM g bt fun eL s3 dr je=>⟨v,aJ,dr,je,bU⟩⟩
theorem KZ(cb:X.A.units+1<cLine)(bc:bQ X o kJ)(ay:bQ X i ty)(bz:bQ X value kM)(aC:aje value (some (.Subscript o i pos')) pos.line X.env=pure false) :
  iB X (.Assign [.Subscript o i pos'] value pos) (aaJ kJ ty kM):=by
 intro pinZ s σ H D I h;refine wpAny_Assign_Subscript (bR (bz pinZ s σ H _ I h) fun r s1 ⟨v,H1,a8,bI,ba⟩=>bR (bc pinZ s1 σ H1 _ a8 ba) fun u s2 ⟨x,aJ,bM,a5,bU⟩=>bR (ay pinZ s2 σ aJ _ bM bU) fun o6 s3 ⟨y,cG,dr,bt,a,hp,ex,g,gZ⟩=>?_) aC;subst ex;obtain rfl:u=aid a:=a5;exact Sm cb dr g bt bI fun s4 i2=>⟨σ,hp,i2,gZ⟩
end
theorem Sw(h:Heap)(aa:ajq<h.objs.size):gz P w H (h.push { cls:=.type "dict",data:=.dict #[] }) h.objs.size (.e7 []):=
 ⟨aib _,beq_eq_false_iff_ne.mpr (aks (ah5 aa)),[],.nil,Heap.DictOf.new h⟩
theorem SF(h:Heap)(aa:ajq<h.objs.size):gz P w H (h.push { cls:=.type "dict",data:=.dict #[] }) h.objs.size (.g_ []):=
 ⟨aib _,beq_eq_false_iff_ne.mpr (aks (ah5 aa)),[],.nil,_,#[],0,ahU _ rfl,⟨rfl,rfl,rfl⟩,rfl,rfl,List.nodup_nil⟩
def acw:TE:=fun _ H Q=>∀p,H p=none->Q (.ref p) (upd H p (.g_ []))
section
variable{X:aQ}{pos:Pos}
theorem Zw:bQ X (.Dict [] [] pos) acw:=fun pinZ s σ H Q I h=>
 wpAny_Dict_empty ⟨.ref s.heap.objs.size,_,I.laid (a:=s.heap.objs.size) (o:=.g_ []) (t':=s.toks) (fun _ _ q=>ahI _ q) (ahM _) (SF s.heap I.big),rfl,h _ (I.bF.fresh (ahM _))⟩
end
def vy:List (TE×TE)->St->av->(List (V×V)->av->Prop)->Prop
 |[],_,H,Q=>Q [] H|(tk,kM)::r,σ,H,Q=>tk σ H fun x H1=>kM σ H1 fun y aJ=>vy r σ aJ fun ps cG=>Q ((x,y)::ps) cG
abbrev EK:List (V×V)->List (Value×Value)->Prop:=ak0 fun p q=>RelV p.1 q.1/\RelV p.2 q.2
def tm(X:aQ)(pos:Pos)(keys:List (Option Expr))(values:List Expr)(j_:List (TE×TE)):Prop:=
 ∀(pinZ:cP)(s:ahL)(σ:St)(H:av)(Q:List (V×V)->av->Prop),Inv X pinZ σ H s->vy j_ σ H Q->
  wpAny (model X.prog X.w) X.A (evalPairs (pairTrees keys values X.env pos)) (fun vs aM=>∃ps H',Inv X pinZ σ H' aM/\EK ps vs/\Q ps H') X.dA s
theorem Z1:tm X pos [] [] []:=fun pinZ s σ H Q I h=>pairTrees_nil_walk ⟨[],H,I,.nil,h⟩
theorem Z0{k v:Expr}(az:bQ X k tk)(bz:bQ X v kM)(aG:tm X pos br vs j_) :
  tm X pos (some k::br) (v::vs) ((tk,kM)::j_):=fun pinZ s σ H Q I h=>
 pairTrees_cons_walk (bR (az pinZ s σ H _ I h) fun u s1 ⟨x,H1,a8,a5,ba⟩=>bR (bz pinZ s1 σ H1 _ a8 ba) fun gj s2 ⟨y,aJ,bM,bt,bU⟩=>
  bR (aG pinZ s2 σ aJ _ bM bU) fun ws s3 ⟨ps,cG,dr,rel,gZ⟩=>⟨(x,y)::ps,cG,dr,.cons ⟨a5,bt⟩ rel,gZ⟩)
def pn(aw more:List (Key×V)):List (Key×V):=more.foldl (fun acc kv=>putK acc kv.1 kv.2) aw
theorem fV.merge:∀{more:List (Key×V)}{rs:List (Key×Value)}{aw:List (Key×V)}{vs:List (Key×Value)},fV more rs->fV aw vs->fV (pn aw more) (merged vs rs):=by
 intro more rs aw vs r;unfold fV at r
 induction r generalizing aw vs with
 |nil=>intro q;exact q|@cons p q ps gJ h t a9=>
  intro sF;have e:fV (putK aw p.1 p.2) (stored vs q.1 q.2):=by
   have:=sF.put p.1 h.2;rw[<-h.1];exact this
  exact a9 e
theorem Jz:∀(more aw:List (Key×V)),(pn aw more).length<=aw.length+more.length
 | [],aw=>by show aw.length<=aw.length+0;omega|p::r,aw=>by
  have ae:=Jz r (putK aw p.1 p.2);have ag:=Cn aw p.1 p.2;show(pn (putK aw p.1 p.2) r).length<=_;rw[ahX];omega
theorem GH:∀{aw:List (Key×V)}{ws:List (Value×Value)},EK (aw.map fun kv=>(cw kv.1,kv.2)) ws->∃rs,Carries (iQ P w) ws rs/\fV aw rs
 | [],_,r=>by rw[amb]at r;cases r;exact⟨[],aja,.nil⟩
 |p::aw,_,r=>by
  rw[ahT]at r
  cases r with
  |@cons a b as bs h t=>
   obtain⟨rs,c,q⟩:=GH (P:=P) (w:=w) t;obtain⟨bX,bY⟩:=b;exact⟨(p.1,bY)::rs,⟨uq h.1,rfl,c⟩,.cons ⟨rfl,h.2⟩ q⟩
def acx(j_:List (TE×TE)):TE:=fun σ H Q=>∀p,H p=none->vy j_ σ (upd H p (.e7 [])) fun ps aJ=>aJ p=some (.e7 [])/\∃aw:List (Key×V),ps=aw.map (fun kv=>(cw kv.1,kv.2))/\aw.length<=15/\Q (.ref p) (upd aJ p (.e7 (pn [] aw)))
theorem Zv{X:aQ}{pos:Pos}{keys:List (Option Expr)}{values:List Expr}{j_:List (TE×TE)}(h:tm X pos keys values j_)(hall:keys.all (·.isSome)=true)(aj:keys.length=values.length)(h0:keys≠[])
  (Bd:keys.length<=15):bQ X (.Dict keys values pos) (acx j_):=by
 intro pinZ s σ H Q I q;have aH:=I.bF.fresh (ahM s.heap.objs.size);have a8:=I.laid (a:=s.heap.objs.size) (o:=.e7 []) (h':=s.heap.push { cls:=.type "dict",data:=.dict #[] }) (t':=s.toks) (fun _ _ q=>ahI _ q) (ahM _) (Sw s.heap I.big);refine wpAny_Dict_walk (knd:=iQ X.prog X.w) hall aj h0 Bd (bR (h pinZ _ σ _ _ a8 (q _ aH)) fun ws s2 ⟨ps,aJ,bM,rel,e,aw,cI,lk,bU⟩=>?_);subst cI;obtain⟨rs,c,jd⟩:=GH (P:=X.prog) (w:=X.w) rel;obtain⟨z,hd,ahA,sF,dd⟩:=G8 bM.bF e;cases sF;refine⟨rs,c,dd,fun h' p_ aC=>⟨.ref s.heap.objs.size,_,?_,rfl,bU⟩⟩;have hz:(pn [] aw).length<=ahQ:=by
  have ae:=Jz aw [];rw[aiy]at ae;rw[ah8];omega
 have he:∃q,h'.get? s.heap.objs.size=some q:=let⟨q,_,_,a4,_⟩:=p_;⟨q,a4⟩
 exact Ar bM (by rw[e];exact aja) aC he (G7 hz hd (jd.merge .nil) p_)
structure hP(X:aQ)(o:Expr)(m:Str)(apos:Pos)(e:Expr)(cM:Pos):Prop where
 base:ajr o m X.env (eval o X.env)=eval o X.env
 AU:((aie cM (ahK [e] X.env)).all (fun x=>!x.1)&&(ajv cM (ai6 [] X.env)).all (fun x=>x.1.isSome)
&&decide (([e]:List Expr).length+([]:List akY).length+(if([]:List akY).isEmpty then 0 else 1)<30))=true
 line:(apos.endLine==cM.line)=true
 trees:aie cM (ahK [e] X.env)=[(false,eval e X.env)]
structure M2(X:aQ)(o:Expr)(m:Str)(apos:Pos)(e f:Expr)(cM:Pos):Prop where
 base:ajr o m X.env (eval o X.env)=eval o X.env
 AU:((aie cM (ahK [e,f] X.env)).all (fun x=>!x.1)&&(ajv cM (ai6 [] X.env)).all (fun x=>x.1.isSome)
&&decide (([e,f]:List Expr).length+([]:List akY).length+(if([]:List akY).isEmpty then 0 else 1)<30))=true
 line:(apos.endLine==cM.line)=true
 trees:aie cM (ahK [e,f] X.env)=[(false,eval e X.env),(false,eval f X.env)]
def ED(H:av)(a:Addr):Prop:=(∃aw,fH H a (.e7 aw))\/∃aw,fH H a (.g_ aw)
theorem Wt(I:Inv X pinZ σ H s)(d:ED H a) :
  s.TypeIs (.ref a) "dict"/\(∀b,aid a=.ref b->∃bA,s.heap.get? b=some bA/\bA.dict=none)/\(a==ajq)=false:=by
 rcases d with⟨aw,e⟩ | ⟨aw,e⟩
 ·obtain⟨_,hd,vs,_,dd⟩:=tI I.bF e
  refine⟨dd.typeIs,fun b q=>?_,hd⟩;cases q;obtain⟨bA,_,_,ae,ag,_⟩:=dd;exact⟨bA,ae,ag.2.1⟩
 ·obtain⟨_,hd,xs,_,dd⟩:=tK I.bF e
  refine⟨dd.typeIs,fun b q=>?_,hd⟩;cases q;obtain⟨bA,_,_,ae,ag,_⟩:=dd;exact⟨bA,ae,ag.2.1⟩
section
variable{X:aQ}{pinZ:cP}{σ:St}{H:av}{s:ahL}{a:Addr}{y d:V}{u r:Value}{o:Option V}{A:ah6}{E:cu}
theorem RQ{Q:cu}(cb:A.units+1<cLine)(I:Inv X pinZ σ H s)(g:kT H a y o)(bt:RelV y u)(cW:RelV d r)(h:∀eL aM,Inv X pinZ σ H aM->RelV (o.getD d) eL->Q eL aM) :
  wpAny (model X.prog X.w) A (call (.builtin "dict.get") [.ref a,u,r]) Q E s:=by
 rcases g with⟨aw,k,e,e9,l⟩ | ⟨aw,k,b,e,e9,cJ,l⟩
 ·subst e9
  obtain⟨z,hd,vs,rel,dd⟩:=tI I.bF e;refine call_meetsIn ajO dd.typeIs ak1 (amg _ _ _) (meets_dict_get_default (iQ X.prog X.w) a (uq bt) hd r) ⟨_,dd.mapOf,h _ _ (I.tok _) ?_⟩;rw[l];exact(rel.val k).getD cW
 ·subst e9
  cases(show u=aid b from bt);obtain⟨z,hd,xs,rel,dd⟩:=tK I.bF e;refine call_meetsIn ajO dd.typeIs ak1 (amg _ _ _) (meetsH_dict_get_default (alA (iQ X.prog X.w)) a b hd r) ⟨alC cb,k,xs,xW I.bF cJ,dd,h _ _ (I.tok _) ?_⟩;rw[l];exact(rel.val k).getD cW
end
def acv(kJ ty cy:TE):TE:=fun σ H Q=>kJ σ H fun x H1=>∃a,x=.ref a/\ED H1 a/\ty σ H1 fun y aJ=>cy σ aJ fun z cG=>∃o,kT cG a y o/\Q (o.getD z) cG
section
variable{X:aQ}{o e f:Expr}{apos cM:Pos}{kJ ty cy:TE}
theorem Zu(cb:X.A.units+1<cLine)(bc:bQ X o kJ)(he:bQ X e ty)(hf:bQ X f cy)(m:M2 X o "get" apos e f cM):bQ X (.Call (.Attribute o "get" apos) [e,f] [] cM) (acv kJ ty cy):=by
 intro pinZ s σ H Q I h;refine wpAny_Call_method m.base m.AU m.line amh ajO amy (bR (bc pinZ s σ H _ I h) fun u s1 ⟨x,H1,a8,a5,a,ex,d,ba⟩=>?_);subst ex;obtain rfl:u=aid a:=a5;obtain⟨t1,eC,_⟩:=Wt a8 d;refine⟨t1,eC,?_⟩;rw[m.trees];refine ako rfl (alk (akQ (bR (he pinZ s1 σ H1 _ a8 ba) fun o6 s2 ⟨y,aJ,bM,bt,bU⟩=>
  akQ (bR (hf pinZ s2 σ aJ _ bM bU) fun jC s3 ⟨z,cG,dr,jK,ef,g,gZ⟩=>alS ?_))))
 exact RQ cb dr g bt jK fun eL s4 i2 je=>⟨_,cG,i2,je,gZ⟩
end
class a6 where
 tp:Addr->Prop
 sE:Addr->Str
def n6:gx->Prop
 |.f5 _=>False|_=>True
def p4(c:Addr)(q:Str):Heap->Prop:=fun h=>h.CodeRec (.ref c) q
def Ol[a6](H:av)(P:Addr):Prop:=∃ps:Array Value,H P=some (.f5 ps)/\amn ps.toList/\∀pos ij,ald pos ps.toList=some ij->∃c,ij=.ref c/\H c=some (.ext (p4 c (a6.sE P)))
def TabsOk[a6](H:av):Prop:=∀P,a6.tp P->Ol H P
structure en[a6](H H':av):Prop where
 at':∀b o,H b=some o->(h:n6 o:=by exact trivial)->H' b=some o
 cU:∀b ps,H b=some (.f5 ps)->∃kF,H' b=some (.f5 kF)
 bO:TabsOk H->TabsOk H'
variable[a6]
theorem Ye(o:gx):n6 o\/∃ps,o=.f5 ps:=by cases o<;>first | exact .inl trivial | exact .inr ⟨_,rfl⟩
theorem en.refl(H:av):en H H:=⟨fun _ _ h _=>h,fun _ ps h=>⟨ps,h⟩,id⟩
theorem en.trans(a:en H H1)(b:en H1 aJ):en H aJ:=
 ⟨fun c o h n=>b.at' c o (a.at' c o h n) n,fun c ps h=>let⟨p1,aq⟩:=a.cU c ps h;b.cU c p1 aq,fun g=>b.bO (a.bO g)⟩
theorem en.some{H H':av}(s:en H H')(h:H b≠none):H' b≠none:=by
 cases e:H b with
 |none=>exact absurd e h|some o=>
  rcases Ye o with n | ⟨ps,rfl⟩
  ·rw[s.at' b o e n];intro z;cases z
  ·obtain⟨p,q⟩:=s.cU b ps e;rw[q];intro z;cases z
theorem en.free{H H':av}(e:en H H')(h:H' l=Option.none):H l=Option.none:=by
 cases q:H l with
 |none=>rfl| some o=>exact absurd h (e.some (by rw[q];intro z;cases z))
theorem en.seq{K:aP}{H H':av}{a:Addr}{xs:List V}(e:en H H')(h:c3 K H a xs):c3 K H' a xs:=by
 rcases h with(h | ⟨o,h⟩) | h
 ·exact .inl (.inl (e.at' _ _ h))
 ·exact .inl (.inr ⟨o,e.at' _ _ h⟩)
 ·exact .inr h
theorem TabsOk.put{H:av}(g:TabsOk H)(o:gx)(ae:∀ps,H p≠some (.f5 ps))(ag:∀q,H p≠some (.ext (p4 p q))):TabsOk (upd H p o):=fun P dM=>by
 obtain⟨ps,e,t,c⟩:=g P dM;refine⟨ps,by rw[cX (by rintro rfl;exact ae _ e)];exact e,t,fun pos ij aE=>?_⟩;obtain⟨c',aq,aD⟩:=c pos ij aE;exact⟨c',aq,by rw[cX (by rintro rfl;exact ag _ aD)];exact aD⟩
theorem TabsOk.new{H:av}(g:TabsOk H)(h:H p=none)(o:gx):TabsOk (upd H p o):=g.put o (fun ps=>by rw[h];intro z;cases z) (fun pQ=>by rw[h];intro z;cases z)
theorem TabsOk.lst{H:av}{p:Addr}{zs:List V}(g:TabsOk H)(h:H p=some (.lst zs))(o:gx):TabsOk (upd H p o):=g.put o (fun ps=>by rw[h];intro z;cases z) (fun pQ=>by rw[h];intro z;cases z)
theorem q0{H:av}(h:H p=none)(o:gx):en H (upd H p o):=
 ⟨fun b u q _=>by rw[cX (j7 q h)];exact q,fun b ps q=>⟨ps,by rw[cX (j7 q h)];exact q⟩,fun g=>g.new h o⟩
theorem ou{H1 H:av}{D:Addr}(ks:H1 D=none)(s:en H1 H)(aj:H D=some (.lst zs))(o:gx):en H1 (upd H D o):=
 ⟨fun b u q n=>by rw[cX (j7 q ks)];exact s.at' b u q n,fun b ps q=>by rw[cX (j7 q ks)];exact s.cU b ps q,fun g=>(s.bO g).lst aj o⟩
end aF
namespace aF
open PySem
def nI(env:Env):List (Str×akm)->List (Str×Addr)->List (Str×Addr)
 |[],acc=>acc|(n,k)::r,acc=>if(k==akE)=true then nI env r ((n,(env.cells.lookup n).getD 0)::acc)else nI env r acc
abbrev mI(scope:Scope)(env:Env):List (Str×Addr):=nI env scope.names []
theorem GQ{scope:Scope}{env:Env}(h:∀y∈scope.names,y.2=.free->∃c,env.cells.lookup y.1=some c):akf scope env=pure (mI scope env):=by
 unfold akf mI;generalize scope.names=ns at h;generalize([]:List (Str×Addr))=acc;show(forIn ns acc _ >>= _)=_
 induction ns generalizing acc with
 |nil=>rfl|cons y r a9=>
  obtain⟨n,k⟩:=y;rw[amo];have ID:=fun acc=>a9 (fun y a'=>h y (ahR _ a')) acc
  by_cases az:(k==akE)=true
  ·have nW:k=.free:=by simpa using az
   obtain⟨c,aE⟩:=h (n,k) ah0 nW;have aq:cellOf env n=pure c:=by unfold cellOf;rw[aE]
   simp only[az,if_true,aq,pure_bind,nI,aE,Option.getD_some];exact ID _
  ·simp only[az,nI]
   exact ID _
theorem Aj{env:Env}:∀{ns:List (Str×akm)}{acc:List (Str×Addr)}{p:Str×Addr},p∈nI env ns acc->p∈acc\/∃k,(p.1,k)∈ns/\k=akE/\p.2=(env.cells.lookup p.1).getD 0
 |[],_,_,h=>.inl h|(n,k)::r,acc,p,h=>by
  unfold nI at h;split at h
  ·rename_i az
   rcases Aj h with h | ⟨l2,a,b⟩
   ·rcases ahP.mp h with rfl | h
    ·exact .inr ⟨k,ah0,by simpa using az,rfl⟩
    ·exact .inl h
   ·exact .inr ⟨l2,ahR _ a,b⟩
  ·rcases Aj h with h | ⟨l2,a,b⟩
   ·exact .inl h
   ·exact .inr ⟨l2,ahR _ a,b⟩
theorem Ai:∀{ns:List (Str×akm)}{acc:List (Str×Addr)}{y:Str},((y,akE)∈ns\/∃c,(y,c)∈acc)->∃c,(y,c)∈nI env ns acc
 |[],_,_,h=>by
  rcases h with h | h
  ·cases h
  ·exact h
 |(n,k)::r,acc,y,h=>by
  unfold nI;split
  ·refine Ai ?_
   rcases h with h | ⟨c,h⟩
   ·rcases ahP.mp h with e | h
    ·cases e;exact .inr ⟨_,ah0⟩
    ·exact .inl h
   ·exact .inr ⟨c,ahR _ h⟩
  ·rename_i az
   refine Ai ?_;rcases h with h | h
   ·rcases ahP.mp h with e | h
    ·cases e;exact absurd rfl az
    ·exact .inl h
   ·exact .inr h
theorem JE{α:Type}{y:Str}{c:α}:∀{l:List (Str×α)},(y,c)∈l->∃c',l.lookup y=some c'
 |(n,k)::r,h=>by
  by_cases e:(y==n)=true
  ·exact⟨k,by rw[aiB,e]⟩
  ·have cf:(y==n)=false:=by simpa using e
   rcases ahP.mp h with z | z
   ·cases z;simp at e
   ·obtain⟨c',q⟩:=JE z
    exact⟨c',by rw[aiB,cf];exact q⟩
theorem Q9{scope:Scope}{env:Env}(h:∀y∈scope.names,y.2=.free->∃c,env.cells.lookup y.1=some c)(e:(mI scope env).lookup y=some c):env.cells.lookup y=some c:=by
 rcases Aj (ajf e)with z | ⟨k,a,b,d⟩
 ·cases z
 ·obtain⟨c',q⟩:=h _ a b
  have d':c=(env.cells.lookup y).getD 0:=d;have eA:env.cells.lookup y=some c':=q;rw[eA]at d' ⊢;exact congrArg some d'.symm
theorem GO{scope:Scope}(h:scope.names.lookup y=some .free):∃c,(mI scope env).lookup y=some c:=by
 obtain⟨c,q⟩:=Ai (env:=env) (acc:=[]) (.inl (ajf h));exact JE q
theorem J3{g:Str×akm->Str×akm}{y:Str}(ae:∀p,(g p).1=p.1)(ag:∀p,p.2≠.cell->(g p).2=.cell\/(g p).2=.free->p.2=.free) :
  ∀{ns:List (Str×akm)},(∀z∈ns,z.2≠alP)->((ns.map g).lookup y=some .cell\/(ns.map g).lookup y=some .free)->ns.lookup y=some .free
 | [],_,h=>by simp at h|p::r,aE,h=>by
  rw[ahT]at h;have a9:=J3 (g:=g) (y:=y) ae ag (ns:=r) fun z hz=>aE z (ahR _ hz)
  have CJ:=aE p ah0;have ba:=ae p;have bU:=ag p CJ;generalize g p=q at h ba bU;obtain⟨yK,yJ⟩:=q;obtain⟨n,k⟩:=p;have ba:yK=n:=ba;subst ba;have bU:yJ=.cell\/yJ=.free->k=.free:=bU;rw[aiB]at h ⊢
  cases e:(y==yK)with
  |true=>
   rw[e]at h;have h':some yJ=some alP\/some yJ=some akE:=h;exact congrArg some (bU (h'.imp aih aih))
  |false=>
   rw[e]at h;exact a9 h
theorem aau{scope:Scope}(aE:∀z∈scope.names,z.2≠alP)(h:(relabel scope env).names.lookup y=some .cell\/(relabel scope env).names.lookup y=some .free):scope.names.lookup y=some .free:=by
 refine J3 (fun p=>?_) (fun p aI q=>?_) aE h
 ·obtain⟨n,k⟩:=p
  dsimp only;split<;>rfl
 ·obtain⟨n,k⟩:=p
  dsimp only at q aI ⊢;split at q
  ·rename_i az
   have:=(aix _ _▸(aix _ _▸az).1).1;simpa using this
  ·exact q.elim (fun z=>absurd z aI) id
end aF
namespace aF
open PySem PySem.Spec PyProof.Rows
def cm(X:aQ)(scope:Scope)(N:List Str)(C:Addr)(aL:List Addr)(s:ahL)(H:av):aQ where
 prog:=X.prog
 w:=X.w
 K:=X.K
 mg:=X.mg
 base:=X.base
 A:=X.A
 N:=N
 gN:=s
 H₀:=H
 env:=compEnvC scope (mI scope X.env) C X.env
 outer:=X.stack
 stack:=X.stack
 ex:=aL
 fn:=fun _=>false
 calm:=X.calm
 nd:=[]
 dA:=fun _ _=>False
structure kS(esc scope:Scope)(EN N:List Str)(n:Nat)(cap:List Nat):Prop where
 kind:scope.kind=.function
 cell:∀y∈scope.names,y.2≠.cell
 loc:∀y∈scope.names,y.2=.local->scope.names.lookup y.1=some .local
 free:∀y∈scope.names,y.2=.free->esc.names.lookup y.1=some .cell\/esc.names.lookup y.1=some .free
 eI:N.Nodup
 len:N.length=n+cap.length
 Q0:∀j<cap.length,N[n+j]? = EN[cap.getD j 0]?/\∀x,N[n+j]? = some x->scope.names.lookup x=some .free
def g9(n:Nat)(cap:List Nat)(σ:St):St:=aiH n none++cap.map fun k=>(σ[k]?).join
theorem Rg{cap:List Nat}:(g9 n cap σ).length=n+cap.length:=by
 unfold g9;rw[ahS,aiU,ahJ]
theorem Rf{cap:List Nat}{σ:St}{v:V}(h:(g9 n cap σ)[i]? = some (some v)):∃j,i=n+j/\j<cap.length/\σ[cap.getD j 0]? = some (some v):=by
 unfold g9 at h
 by_cases ay:i<n
 ·rw[aic (by simpa using ay),ajD,if_pos ay]at h
  cases h
 ·rw[ah2 (by simpa using ay),aiU,aia]at h
  cases e:cap[i-n]? with
  |none=>rw[e]at h;cases h
  |some k=>
   rw[e]at h;have aj:i-n<cap.length:=(ahN.mp e).1;refine⟨i-n,by omega,aj,?_⟩;have h':(σ[k]?).join=some v:=aih h;rw[ail,e,Option.getD_some]
   cases q:σ[k]? with
   |none=>rw[q]at h';cases h'
   |some z=>rw[q]at h';exact congrArg some h'
section
variable{X:aQ}{scope esc:Scope}{EN N:List Str}{n:Nat}{cap:List Nat}{pinZ:cP}{σ:St}{H:av}{s:ahL}{aL:List Addr}
theorem Ws{h':Heap}{tk:Nat}{m:bk}(S:kS esc scope EN N n cap)(he:X.env.scope=esc)(hN:X.N=EN)(I:Inv X pinZ σ H s)(hf:∀b∈aL,gk X pinZ H b)(bc:∀b∈aL,∃o,s.heap.get? b=some o)
  (xx:h'.Ns s.heap.objs.size m) (k:∀b o,s.heap.get? b=some o->h'.get? b=some o) :
  Inv (cm X scope N s.heap.objs.size aL s H) [] (g9 n cap σ) H { s with heap:=h',toks:=tk }:=by
 have xu:∀y∈scope.names,y.2=.free->∃c,X.env.cells.lookup y.1=some c:=fun y a' az=>by
  refine I.ok.has y.1 ?_;show X.env.scope.names.lookup y.1=_\/X.env.scope.names.lookup y.1=_;rw[he];exact S.free y a' az
 have up:∀{y:Str}{c:Addr},(mI scope X.env).lookup y=some c->X.env.cells.lookup y=some c:=fun{y c} e=>Q9 xu e
 have Xi:∀y,(cm X scope N s.heap.objs.size aL s H).env.kindOf y=some .cell\/(cm X scope N s.heap.objs.size aL s H).env.kindOf y=some .free->scope.names.lookup y=some .free:=fun y h=>aau S.cell h
 have cellK:∀c v,s.heap.IsCell c v->h'.IsCell c v:=fun c v ⟨o,e,d⟩=>⟨o,k c o e,d⟩
 refine⟨⟨I.ok.mod,S.kind,I.ok.glob,I.ok.blt,ahM _,fun x y c ae ag=>I.ok.inj x y c (up ae) (up ag),fun y a'=>GO (Xi y a'),fun _ _ z=>absurd z ahV,I.ok.hd,I.ok.frames,.inl rfl,fun b aa=>⟨?_,fun x c e=>(hf b aa).2.2.2.2.1 x c (up e)⟩,I.bs,aiS I.ok.lE I.ll,fun b o e aa=>?_,fun b aa hz=>?_,I.stack,I.MG⟩,
  rfl,I.bare,gA.kept k,⟨m,xx,fun i x v aq aD cQ=>?_⟩,fun x c e=>?_,I.bF.fresh (ahM _),fun x c e=>I.lP x c (up e),fun p aI=>absurd (show p∈([]:cP)from aI) (by simp),I.bF.kept k,?_⟩
 ·obtain⟨o,e⟩:=bc b aa
  exact ah5 (ahY e)
 ·rcases(hf b aa).2.2.2.1 with z | z
  ·exact I.ok.uW b o e z
  ·exact absurd (aio (ahY e) (aiS I.ok.lE z)) (aii _)
 ·rcases ahP.mp (I.DR b hz)with z | z
  ·exact(hf b aa).2.1 z
  ·exact(hf b aa).2.2.1 z
 ·obtain⟨j,rfl,aZ,e8⟩:=Rf aD
  obtain⟨b2,af⟩:=S.Q0 j aZ;have aq:N[n+j]? = some x:=aq;have Bs:=af x aq;rw[aq,<-hN]at b2;obtain⟨c,aE⟩:=GO (env:=X.env) Bs;obtain⟨m0,ahc,aj⟩:=I.loc;have i':X.env.scope.names.lookup x=some .cell\/X.env.scope.names.lookup x=some .free:=by
   rw[he];exact S.free (x,.free) (ajf Bs) rfl
  obtain⟨u,r,l⟩:=aj _ x v b2.symm e8 (i'.elim (fun z=>.inr (.inl z)) fun z=>.inr (.inr z));refine⟨u,r,.inr ⟨?_,c,aE,?_⟩⟩
  ·rcases cQ with z | z | z
   ·exfalso
    have kQ:(relabel scope X.env).names.lookup x=some .local:=z;have hz:∀ns:List (Str×akm),ns.lookup x=some .free->(ns.map fun(n,k)=>if(k==akE&&X.env.scope.kind==.function&&X.env.kindOf n==some .cell)then(n,alP)else(n,k)).lookup x≠some .local:=by
     intro ns
     induction ns with
     |nil=>intro h;simp at h|cons p r a9=>
      obtain⟨nd,sC⟩:=p;intro h;rw[ahT];rw[aiB]at h
      cases q:(x==nd)with
      |true=>
       rw[q]at h;have h':sC=.free:=aih h;subst h';dsimp only;split
       ·rw[aiB,q];intro w;cases w
       ·rw[aiB,q];intro w;cases w
      |false=>
       rw[q]at h;dsimp only;split
       ·rw[aiB,q];exact a9 h
       ·rw[aiB,q];exact a9 h
    exact hz _ Bs kQ
   ·exact .inl z
   ·exact .inr z
  ·rcases l with⟨q,_⟩ | ⟨_,c',mK,z⟩
   ·exfalso
    have eA:X.env.scope.names.lookup x=some .local:=q;rcases i' with w | w<;>rw[w]at eA<;>cases eA
   ·rw[up aE]at mK
    cases mK;exact cellK c _ z
 ·obtain⟨v,z⟩:=I.cell x c (up e)
  exact⟨v,cellK c v z⟩
 ·show(g9 n cap σ).length=N.length
  rw[Rg,S.len]
theorem Wr{N:List Str}(I:Inv X pinZ σ H s)(hf:∀b∈aL,gk X pinZ H b)(b9:Inv (cm X scope N C aL s H) aht σ' H' aM):Inv X pinZ σ H' aM:=
 I.QM b9.os b9.base b9.bF b9.bare fun b aa=>⟨(hf b aa).2.2.2.1,(hf b aa).2.1,(hf b aa).2.2.2.2.1,(hf b aa).2.2.2.2.2⟩
end
section
variable{X:aQ}
def rr(X:aQ)(ifs:List Expr)(t:TT):Prop:=
 ∀(pinZ:cP)(s:ahL)(σ:St)(H:av)(Q:Bool->av->Prop),Inv X pinZ σ H s->t σ H Q->
  wpAny (model X.prog X.w) X.A (forIn ifs true fun c r=>if r=true then do let ok <-isTrue c X.env (eval c X.env);pure (alm ok)else pure (alm r)) (zE X pinZ σ Q) X.dA s
def acN:TT:=fun _ H Q=>Q true H
theorem ZN:rr X [] acN:=fun _ _ _ H _ I h=>wpAny_tests_nil ⟨H,I,h⟩
theorem ZO{t:TT}(h:iD X c t):rr X [c] t:=fun pinZ s σ H Q I a4=>wpAny_tests_one (h pinZ s σ H Q I a4)
end
section
variable{prog:ah1}{w:World}{A:ah6}{R:Result->ahL->Prop}{s:ahL}
theorem Ra{elt target iter:Expr}{ifs:List Expr}{scope:Scope}{pos:Pos}{it acc:Value}{env:Env}(I:Nat->ahL->Prop)
  (turn:∀n s,I n s->wpAny (model prog w) A (akd it) (fun r df=>match r with
   |none=>R (.ok .next) df| some v=>wpAny (model prog w) A (ali target it v) (fun _ ML=>wpAny (model prog w) A (akc target env v) (fun _ md=>
     wpAny (model prog w) A (forIn ifs true fun c r=>if r=true then do let ok <-isTrue c env (eval c env);pure (alm ok)else pure (alm r)) (fun ok kI=>
      if ok=true then wpAny (model prog w) A (eval elt env) (fun x yV=>
       wpAny (model prog w) A (call (.builtin "list.append") [acc,x]) (fun _ MM=>∃m,m<n/\I m MM) (fun _ _=>False) yV) (fun _ _=>False) kI
      else ∃m,m<n/\I m kI) (fun _ _=>False) md) (fun _ _=>False) ML) (fun _ _=>False) df) (fun _ _=>False) s)
  (n:Nat) (h:I n s) :
  akv (model prog w) A (.compLoop (.ListComp elt [⟨target,iter,ifs,0⟩] scope pos) 0 it acc env) R s:=by
 refine codeAny_loop rfl I (fun n s mQ=>?_) n h;show wpAny _ A ((compTurn (.ListComp elt [⟨target,iter,ifs,0⟩] scope pos) 0 it acc env).onRaise (fun x=>do noteFrame x env;theTreesLotGoes x)) _ _ s;refine wpAny_noted ?_;rw[compTurn_list];refine ahH (alQ (ahH (aiv (turn n s mQ) (fun r df kA=>?_) fun _ _ h'=>h'.elim)))
 cases r with
 |none=>exact ahO kA|some v=>
  refine ahH (aiv kA (fun _ ML Wd=>?_) fun _ _ h'=>h'.elim);refine ahH (aiv Wd (fun _ md l1=>ahH (aiv l1 (fun ok kI nZ=>?_) fun _ _ h'=>h'.elim)) fun _ _ h'=>h'.elim)
  cases ok with
  |false=>exact ahO ⟨rfl,nZ⟩|true=>
   exact ahH (ahH (aiv nZ (fun x yV uj=>ahH (aiv uj (fun _ MM ir=>ahO (ahO ⟨rfl,ir⟩)) fun _ _ h'=>h'.elim)) fun _ _ h'=>h'.elim))
end
def my(σ c6:St):Prop:=σ.length=c6.length/\∀(i:Nat) v,σ[i]? = some (some v)->c6[i]? = some (some v)
theorem my.refl(σ:St):my σ σ:=⟨rfl,fun _ _ h=>h⟩
theorem my.set{σ c6:St}(h:my σ c6)(aH:σ[i]? = some none):my σ (c6.set i (some x)):=by
 refine⟨by rw[aiu];exact h.1,fun j v e=>?_⟩
 by_cases aZ:i=j
 ·subst aZ;rw[aH]at e;cases e
 ·rw[ahZ aZ];exact h.2 j v e
def Ao(b9:hM)(σ':St)(g:i4)(tt:TT)(te:TE)(D:Addr)(H1:av)(Q:cZ):Prop:=
  ∃W:Nat->Nat->List V->av->Prop,(∃m,W 0 m [] (upd H1 D (.lst [])))/\∀i m ys H,W i m ys H->
   ((b9.stop i H/\Q (.ref D) H)\/(b9.go i H/\∀x H',b9.ox i H x H'->g x σ' H' fun c6 aJ=>my σ' c6/\tt c6 aJ fun b cG=>
       if b=true then te c6 cG fun y hp=>hp D=some (.lst ys)/\ys.length<ahQ/\∃ee,ee<m/\W (i+1) ee (ys++[y]) (upd hp D (.lst (ys++[y])))else ∃ee,ee<m/\W (i+1) ee ys cG))
def sN(n:Nat)(cap:List Nat)(wi:TI)(g:i4)(tt:TT)(te:TE):TE:=fun σ H Q=>wi σ H fun b9 H1=>∀D,H1 D=none->Ao b9 (g9 n cap σ) g tt te D H1 Q
section
variable{X:aQ}{scope esc:Scope}{EN N:List Str}{n:Nat}{cap:List Nat}{pinZ:cP}{σ:St}{s:ahL}{elt cc iter:Expr}{ifs:List Expr}{pos:Pos}{g:i4}{tt:TT}{te:TE}
theorem GV{E:cu}{H:av}{b9:hM}{aL:List Addr}{it:Addr}{fw:Nat->Heap->Prop}{Q:cZ}{wb:Value->Addr->Result->ahL->Prop}(S:kS esc scope EN N n cap)(he:X.env.scope=esc)(hN:X.N=EN)(aE:X.calm=true)
  (aS:∀C aL s H,oJ (cm X scope N C aL s H) cc g) (bG:∀C aL s H,rr (cm X scope N C aL s H) ifs tt) (hY:∀C aL s H,bQ (cm X scope N C aL s H) elt te)
  (I:Inv X pinZ σ H s) (T:Turn X.prog X.w X.K cc b9 aL it fw) (st:fw 0 s.heap) (hf:∀b∈aL,gk X pinZ H b) (a4:∀D,H D=none->Ao b9 (g9 n cap σ) g tt te D H Q)
  (T4:∀D C H' aM m,Inv X pinZ σ H' aM->gk X pinZ H' C->aM.heap.Ns C m->Q (.ref D) H'->wb (.ref D) C (.ok .next) aM) :
  wpAny (model X.prog X.w) X.A (newList []) (fun acc kI=>wpAny (model X.prog X.w) X.A (newFunctionEnv scope X.env.globals (mI scope X.env) [] X.env.qual none .none (some X.env)) (fun GL yV=>
   akv (model X.prog X.w) X.A (.compStart (.ListComp elt [⟨cc,iter,ifs,0⟩] scope pos) 0 (.ref it) acc { GL with scope:=relabel scope X.env }) (wb acc GL.locals) yV) E kI) E s:=by
 refine ajB (wpAny_newFunctionEnv S.cell (by intro y a';simp at a') (fun kA Bw BD=>?_) S.kind);have dr:=I.JD (t':=s.toks) (ys:=[]) (its:=[]) .nil (aib _);have ks:H s.heap.objs.size=none:=I.fresh;obtain⟨W,⟨m0,q'⟩,turn⟩:=a4 _ ks;generalize BC:({ s with heap:=s.heap.push { cls:=.type "list",data:=.seq ([]:List Value).toArray },toks:=s.toks }:ahL)=s3 at dr;have qy:∀b o,s.heap.get? b=some o->s3.heap.get? b=some o:=fun b o e=>by rw[<-BC];exact ahI _ e
 have ahe:({ s with heap:=s.heap.push { cls:=.type "list",data:=.seq ([]:List Value).toArray } }:ahL)=s3:=BC;have dX:s.heap.push { cls:=.type "list",data:=.seq ([]:List Value).toArray }=s3.heap:=by rw[<-BC]
 dsimp only at Bw BD ⊢
 try rw[dX]at Bw
 try rw[dX]at BD
 have Bq:∀b∈aL,gk X pinZ (upd H s.heap.objs.size (.lst [])) b:=fun b aa=>by
  refine⟨?_,(hf b aa).2⟩;obtain⟨o,e,_⟩:=T.obj _ _ st b aa;rw[cX (ah5 (ahY e))];exact(hf b aa).1
 have IY:∀b o,s3.heap.get? b=some o->kA.get? b=some o:=fun b o e=>BD.extBut b o (ah5 (ahY e)) (ahI _ e)
 have bA:∀b∈aL,∃o,s3.heap.get? b=some o:=fun b aa=>by
  obtain⟨o,e,_⟩:=T.obj _ _ st b aa;exact⟨o,qy b o e⟩
 have i2:=Ws (tk:=s3.toks) S he hN dr Bq bA Bw IY;have yT:fw 0 kA:=T.keep _ _ _ st fun b _ o e=>IY b o (qy b o e)
 have TX:s3.heap.objs.size<=s3.heap.objs.size:=ahM _;have loop:∀kI:ahL,kI.heap=kA->Inv (cm X scope N s3.heap.objs.size aL s3 (upd H s.heap.objs.size (.lst []))) [] (g9 n cap σ) (upd H s.heap.objs.size (.lst [])) kI->
   akv (model X.prog X.w) X.A (.compLoop (.ListComp elt [⟨cc,iter,ifs,0⟩] scope pos) 0 (.ref it) (.ref s.heap.objs.size) (compEnvC scope (mI scope X.env) s3.heap.objs.size X.env)) (wb (.ref s.heap.objs.size) s3.heap.objs.size) kI:=by
  intro kI S8 v3;have q2:∀{H':av},(∀b∈aL,H' b=none)->∀b∈aL,gk (cm X scope N s3.heap.objs.size aL s3 (upd H s.heap.objs.size (.lst []))) [] H' b:=fun{H'} aH b aa=>
   ⟨aH b aa,(v3.ok.w7 b aa).1,v3.ok.tM b aa,.inl aa,(v3.ok.w7 b aa).2,fun p aI=>absurd (show p∈([]:cP)from aI) (by simp)⟩
  refine Ra (fun k aM=>∃i ys H',Inv (cm X scope N s3.heap.objs.size aL s3 (upd H s.heap.objs.size (.lst []))) [] (g9 n cap σ) H' aM/\fw i aM.heap/\(∀b∈aL,H' b=none)/\W i k ys H') ?_ m0
   ⟨0,[],_,v3,by rw[S8];exact yT,fun b aa=>(Bq b aa).1,q'⟩
  rintro k s5 ⟨i,ys,kX,rl,sJ,xd,adk⟩;rcases turn i k ys kX adk with⟨stop,q⟩ | ⟨go,step⟩
  ·refine bR (T.done (cm X scope N s3.heap.objs.size aL s3 (upd H s.heap.objs.size (.lst []))) rfl rfl rfl aE i [] s5 _ kX _ rl (q2 xd) sJ stop) fun r gK ⟨aG,td⟩=>?_
   subst aG;obtain⟨m,aH,_⟩:=td.loc;exact T4 _ _ kX gK m (Wr dr Bq td) (dr.nK TX td.free) aH q
  ·refine bR (T.item (cm X scope N s3.heap.objs.size aL s3 (upd H s.heap.objs.size (.lst []))) rfl rfl rfl aE i [] s5 _ kX (fun _ _=>False) rl (q2 xd) sJ go) fun r gK ⟨u,aG,iq⟩=>?_
   subst aG;refine bR iq fun _ hA ⟨x,jR,kd,Ds,aep,DP,Tp⟩=>?_
   have Oa:=kd.pinned (q2 Tp) (T.obj _ _ DP);refine bR (aS _ _ _ _ _ hA _ jR x u _ Oa Ds (step x jR aep)) fun _ mb ⟨zq,N6,Ob,w9,aae⟩=>?_
   refine bR (bG _ _ _ _ _ mb zq N6 _ Ob aae) fun b ni ⟨EA,EC,K8⟩=>?_
   have back:∀{H':av}{aM:ahL},Inv (cm X scope N s3.heap.objs.size aL s3 (upd H s.heap.objs.size (.lst []))) ([]++qU aL hA.heap) zq H' aM->
     Inv (cm X scope N s3.heap.objs.size aL s3 (upd H s.heap.objs.size (.lst []))) [] (g9 n cap σ) H' aM/\fw (i+1) aM.heap/\∀b∈aL,H' b=none:=fun{H' aM} hL=>by
    refine⟨hL.vE.weak w9.1 w9.2,T.keep _ _ _ DP fun b aa o e=>(hL.pin (b,o) (aiD _ (aiD _ (yn aa e)))).1,fun b aa=>?_⟩;obtain⟨o,e,d⟩:=T.obj _ _ DP b aa;exact(hL.pin (b,o) (aiD _ (aiD _ (yn aa e)))).2.1
   cases b with
   |false=>
    obtain⟨ee,hm,eL⟩:=K8;obtain⟨bX,bY,gB⟩:=back EC;exact⟨ee,hm,i+1,ys,EA,bX,bY,gB,eL⟩
   |true=>
    refine bR (hY _ _ _ _ _ ni zq EA _ EC K8) fun v jf ⟨y,Ez,N9,aan,TZ,hz,ee,hm,eL⟩=>?_
    refine bR (uO _ jf zq Ez (.ref s.heap.objs.size) [y] (.ref s.heap.objs.size) [v] (fun z H'=>z=.aW/\H'=upd Ez s.heap.objs.size (.lst (ys++[y]))) N9 rfl (.cons aan .nil) ⟨_,ys,y,rfl,rfl,TZ,hz,rfl,rfl⟩) fun z iU ⟨ahF,afl,N_,_,_,rF⟩=>?_
    subst rF;obtain⟨bX,bY,gB⟩:=back N_;exact⟨ee,hm,i+1,ys++[y],_,bX,bY,gB,eL⟩
 have EB:Inv (cm X scope N s3.heap.objs.size aL s3 (upd H s.heap.objs.size (.lst []))) [] (g9 n cap σ) (upd H s.heap.objs.size (.lst [])) { heap:=kA,gens:=s3.gens,drawn:=s3.drawn,toks:=s3.toks+([]:List (Str×Value)).length,os:=s3.os }:=i2;exact codeAny_compStart_list (loop _ rfl EB) (T.self _ 0 _ _ _ yT (loop _ rfl EB))
theorem De(S:kS esc scope EN N n cap){wi:TI}(ay:jU X cc iter wi)(aS:∀C aL s H,oJ (cm X scope N C aL s H) cc g)(bG:∀C aL s H,rr (cm X scope N C aL s H) ifs tt)(hY:∀C aL s H,bQ (cm X scope N C aL s H) elt te)
  (he:X.env.scope=esc:=by rfl) (hN:X.N=EN:=by rfl) (aE:X.calm=true:=by rfl) (aC:∀x,aip iter X.env x=pure x:=by intro _;rfl):bQ X (.ListComp elt [⟨cc,iter,ifs,0⟩] scope pos) (sN n cap wi g tt te):=by
 intro pinZ s σ H Q I h;rw[eval_ListComp];have Bk:akf scope X.env=pure (mI scope X.env):=GQ fun y a' az=>I.ok.has y.1 (by
  show X.env.scope.names.lookup y.1=_\/X.env.scope.names.lookup y.1=_;rw[he];exact S.free y a' az)
 refine wpAny_comprehension_free (use:=none) rfl aC Bk S.kind S.loc (bR (ay pinZ s σ H _ I h) fun v s1 ae=>bR ae fun xO s2 ag=>?_);obtain⟨it,aL,fw,b9,aJ,e,bM,T,cv,f2,a4⟩:=ag;subst e;refine GV S he hN aE aS bG hY bM T cv f2 a4 fun D C H' aM m hL kl aH q=>?_
 exact⟨m,aH,fun h' ui=>⟨.ref D,H',hL.turned (t':=aM.toks) (fun b o aa e=>ui.extBut b o aa e) kl.1 kl.2.1 kl.2.2.2.1 kl.2.2.2.2.1 kl.2.2.2.2.2,rfl,q⟩⟩
theorem Z3{i:Nat}{y:Str}{py mc:Pos}(S:kS esc scope EN N n cap){wi:TI}(qf:X.N.Nodup)(k7:X.N[i]? = some y)(a':X.env.scope.names.lookup y=some .local)(ay:jU X cc iter wi)(aS:∀C aL s H,oJ (cm X scope N C aL s H) cc g)(bG:∀C aL s H,rr (cm X scope N C aL s H) ifs tt)(hY:∀C aL s H,bQ (cm X scope N C aL s H) elt te)
  (he:X.env.scope=esc:=by rfl) (hN:X.N=EN:=by rfl) (aE:X.calm=true:=by rfl) (aC:∀x,aip iter X.env x=pure x:=by intro _;rfl)
  (l0:aje (.ListComp elt [⟨cc,iter,ifs,0⟩] scope pos) (some (.Name y py)) mc.line X.env=pure true:=by rfl) :
  iB X (.Assign [.Name y py] (.ListComp elt [⟨cc,iter,ifs,0⟩] scope pos) mc) (sM (sN n cap wi g tt te) (k4 i)):=by
 intro pinZ s σ H D I h;have Bk:akf scope X.env=pure (mI scope X.env):=GQ fun y a' az=>I.ok.has y.1 (by
  show X.env.scope.names.lookup y.1=_\/X.env.scope.names.lookup y.1=_;rw[he];exact S.free y a' az)
 rw[exec_Assign_Name_used _ _ _ _ l0];refine ahH (alQ (ahH ?_));show wpAny _ X.A (do let _ <-comprehension (.ListComp elt [⟨cc,iter,ifs,0⟩] scope pos) scope X.env _ (newList []) false (eval iter X.env) (some (akc (.Name y py) X.env))) _ _ s;refine ahH (aiv (wpAny_comprehension_free (use:=some (akc (.Name y py) X.env)) (Q:=fun _ aM=>rv X pinZ D .next aM) rfl aC Bk S.kind S.loc
  (bR (ay pinZ s σ H _ I h) fun v s1 ae=>bR ae fun xO s2 ag=>?_)) (fun _ aM a4=>ahO (ahO a4)) fun _ _ e=>e)
 obtain⟨it,aL,fw,b9,aJ,e,bM,T,cv,f2,a4⟩:=ag;subst e;refine GV S he hN aE aS bG hY bM T cv f2 a4 fun Ew C H' aM m hL kl aH q=>?_
 show wpAny _ X.A (akc (.Name y py) X.env (.ref Ew)) _ _ _;refine wpAny_assign_Name (MI (v:=.ref Ew) hL qf k7 (.inl a') rfl (fun vl N8 ch=>?_) (.inr a'));obtain⟨a,V2,ao⟩:=ch;have TY:C≠a:=by
  rcases ao with z | z
  ·rw[z];exact kl.2.1
  ·exact fun w=>kl.2.2.2.2.1 y a z w.symm
 refine⟨m,aH.sameBut V2 TY,fun h' ui=>?_⟩;exact⟨_,H',N8.turned (t':=vl.toks) (fun b o aa e=>ui.extBut b o aa e) kl.1 kl.2.1 kl.2.2.2.1 kl.2.2.2.2.1 kl.2.2.2.2.2,q⟩
end
def dx(p:V->V->av->cZ->Prop):d9:=fun vs H Q _=>∃a b,vs=[a,b]/\p a b H Q
structure b6(P:ah1)(w:World)(K:aP)(mg:bk)(base:Heap)(x:Str)(ps:List Str)(k:Nat)(sp:d9):Prop where
 ex:∃f fd,e3 P w K mg base ej k f fd ps sp/\Binds K fd ps []/\ajG K (.ref f)=true/\mg x=some (.ref f)
structure cn(K:aP)(mg:bk)(x:Str)(st:Stmt)(ps:List Str):Prop where
 ex:∃f fd,kW K x x st f fd/\Binds K fd ps []/\mg x=some (.ref f)
section
variable{P:ah1}{w:World}{K:aP}{mg:bk}{base:Heap}{x:Str}{ps:List Str}{k:Nat}{sp:d9}
theorem b6.mono(h:b6 P w K mg base x ps k sp)(aZ:k<=j):b6 P w K mg base x ps j sp:=by
 obtain⟨f,fd,a,b⟩:=h.ex;exact⟨f,fd,a.mono aZ,b⟩
end
section
variable{X:aQ}{x:Str}{ps:List Str}{k:Nat}{sp:d9}{p pos:Pos}{e:Expr}{ax:List Expr}{t:fW}
def yY(sp:d9)(t:fW):TE:=fun σ H Q=>t σ H fun vs H1=>sp vs H1 Q i1
theorem KJ(h:b6 X.prog X.w X.K X.mg X.base x ps k sp)(aG:cB k X.A)(aS:d3 X x)(ao:e5 X (e::ax) t)(ey:(x==("__debug__":Str))=false:=by decide)
  (he:ahK (e::ax) X.env=(false,eval e X.env)::ahK ax X.env:=by rfl) (eY:(aie pos (ahK ax X.env)).any (·.1)=false:=by rfl):bQ X (.Call (.Name x p) (e::ax) [] pos) (yY sp t):=by
 obtain⟨f,fd,F,b,kp,m⟩:=h.ex;intro pinZ s σ H Q I a4;refine Zn (dvs:=[]) (ds:=[]) F aG aS m kp b .nil sA ao ey he eY pinZ s σ H Q I ?_;have mU:t σ H fun vs H1=>sp vs H1 Q i1:=a4
 show t σ H fun vs H1=>sp (vs++[]) H1 Q i1
 simpa only[ai7]using mU
theorem Zy(h:b6 X.prog X.w X.K X.mg X.base x ps k sp)(aG:cB k X.A)(aS:d3 X x)(ey:(x==("__debug__":Str))=false:=by decide):bQ X (.Call (.Name x p) [] [] pos) (yY sp vw):=by
 obtain⟨f,fd,F,b,kp,m⟩:=h.ex;intro pinZ s σ H Q I a4;exact Zo (dvs:=[]) (ds:=[]) F aG aS m kp b .nil sA ey pinZ s σ H Q I a4
end
structure tf(K:aP):Prop where
 ff:∀t∈["NoneType","bool","int","str","list","tuple"],∀c∈["int","bool","tuple","list","str"],W.kitOne K (.type t) (.type c)=some (t==c||(t == "bool"&&c == "int"))
inductive lB(K:aP)(H:av):V->String->Prop where
 |aW:lB K H .aW "NoneType"
 |aA (x:Bool):lB K H (.aA x) "bool"
 |int (i:Int):lB K H (.int i) "int"
 |str (x:Str):lB K H (.str x) "str"
 |lst {a:Addr}{xs:List V}(e:c3 K H a xs):lB K H (.ref a) "list"
 |tup {a:Addr}{xs:List V}(e:dp K H a xs):lB K H (.ref a) "tuple"
abbrev adf:List String:=["NoneType","bool","int","str","list","tuple"]
theorem lB.mem{K:aP}{H:av}{x:V}{t:String}(h:lB K H x t):t∈adf:=by
 cases h<;>decide
section
variable{X:aQ}
def iM(t n:String):Bool:=t==n||(t == "bool"&&n == "int")
def La(K:aP):List V->av->cZ->Prop:=fun xs H Q=>∃x n t,xs=[x,.ty n]/\lB K H x t/\n∈["int","bool","tuple","list","str"]/\Q (.aA (iM t n)) H
theorem QR(kt:tf X.K):iZ X (.builtin "isinstance") (La X.K):=by
 intro pinZ s σ H xs us Q I bI h;obtain⟨x,n,t,rfl,ty,aH,q⟩:=h;obtain⟨u,eL,rfl,bu,b4⟩:=vals2 bI;cases(show eL=akW n from b4);have e:=kt.ff t ty.mem n aH;have fin:∀tk,g7 X pinZ σ Q (.bool (iM t n)) { s with toks:=tk }:=fun tk=>⟨.aA _,H,I.tok tk,rfl,q⟩
 cases ty with
 |aW=>cases(show u=aiX from bu);exact alD W.kitx_none I.eZ aja e (fun z=>nomatch z) fin
 |aA y=>cases(show u=akb y from bu);exact alD W.kitx_bool I.eZ aja e (fun z=>nomatch z) fin
 |int i=>obtain⟨t,q⟩:=(show ∃t,u=ala i t from bu);cases q;exact alD W.kitx_int I.eZ aja e (fun z=>nomatch z) fin
 |str y=>obtain⟨t,q⟩:=(show ∃t,u=alz y t from bu);cases q;exact alD W.kitx_str I.eZ aja e (fun z=>nomatch z) fin
 |@lst a xs gb=>
  cases(show u=aid a from bu);obtain⟨its,_,⟨o,e0,ae,ag,_⟩,_⟩:=I.list gb;exact alD W.kitx_list I.eZ ⟨o,ae,ag⟩ e (fun z=>nomatch z) fin
 |@tup a xs gb=>
  cases(show u=aid a from bu);obtain⟨its,_,⟨o,ae,ag,_⟩,_⟩:=I.tuple gb;exact alD W.kitx_tuple I.eZ ⟨o,ae,ag⟩ e (fun z=>nomatch z) fin
theorem Ya:zA X "int.bit_length" (fun x xs H Q=>∃i,x=.int i/\xs=[]/\Q (.int (ai0 i:Nat)) H):=by
 intro pinZ s σ H x xs v us Q I a5 bI h;obtain⟨i,rfl,rfl,q⟩:=h;obtain⟨t,rfl⟩:=a5;cases bI;exact call_int_bit_length ⟨.int _,H,I.tok _,⟨_,rfl⟩,q⟩
end
mutual
def Rep(K:aP)(H:av):PyData->V->Prop
 |.none,v=>v=.aW|.bool b,v=>v=.aA b|.int i,v=>v=.int i|.str x,v=>v=.str x|.list ds,v=>∃a xs,v=.ref a/\c3 K H a xs/\a_ K H ds xs|.tuple ds,v=>∃a xs,v=.ref a/\dp K H a xs/\a_ K H ds xs|.dict _,_=>False
def a_(K:aP)(H:av):List PyData->List V->Prop
 |[],xs=>xs=[]|d::ds,xs=>∃x r,xs=x::r/\Rep K H d x/\a_ K H ds r
end
theorem en.vo[a6]{K:aP}{H H':av}{a:Addr}{xs:List V}(e:en H H')(h:dp K H a xs):dp K H' a xs:=by
 rcases h with(h | ⟨o,h⟩) | h
 ·exact .inl (.inl (e.at' _ _ h))
 ·exact .inl (.inr ⟨o,e.at' _ _ h⟩)
 ·exact .inr h
section
variable{X:aQ}{pinZ:cP}{σ:St}{H:av}{s:ahL}
mutual
theorem Rep.reads(I:Inv X pinZ σ H s):∀{d:PyData}{v:V}{u:Value},Rep X.K H d v->RelV v u->∃as,Reads s.heap u d as
 | .none,_,_,h,r=>by cases h;cases r;exact⟨_,.none⟩
 | .bool _,_,_,h,r=>by cases h;cases r;exact⟨_,.bool _⟩
 | .int _,_,_,h,r=>by cases h;obtain⟨t,rfl⟩:=r;exact⟨_,.int _ _⟩
 | .str _,_,_,h,r=>by cases h;obtain⟨t,rfl⟩:=r;exact⟨_,.str _ _⟩
 |.list _,_,_,h,r=>by
  obtain⟨a,xs,rfl,l,q⟩:=h;cases r;obtain⟨its,bI,⟨o,n,e,c,_,d⟩,_⟩:=I.list l;obtain⟨as,z⟩:=a_.reads I q bI;exact⟨_,.list e c d (by simpa using z)⟩
 |.tuple _,_,_,h,r=>by
  obtain⟨a,xs,rfl,l,q⟩:=h;cases r;obtain⟨its,bI,⟨o,e,c,n,d⟩,_⟩:=I.tuple l;obtain⟨as,z⟩:=a_.reads I q bI;exact⟨_,.tuple e c d (by simpa using z)⟩
 |.dict _,_,_,h,_=>h.elim
theorem a_.reads(I:Inv X pinZ σ H s):∀{ds:List PyData}{xs:List V}{us:List Value},a_ X.K H ds xs->Vals xs us->∃as,ReadsAll s.heap us ds as
 | [],_,_,h,r=>by cases h;cases r;exact⟨_,.nil⟩
 |_::_,_,_,h,r=>by
  obtain⟨x,t,rfl,a,b⟩:=h
  cases r with
  |cons bu b4=>
   obtain⟨as,fb⟩:=Rep.reads I a bu;obtain⟨bs,d2⟩:=a_.reads I b b4;exact⟨_,.cons fb d2⟩
end
end
section
variable{X:aQ}
def yL(K:aP)(neg:Bool):fG:=fun x y H Q=>∃d e,Rep K H d x/\Rep K H e y/\amO d=true/\amO e=true/\Q (.aA (if neg then !amB d e else amB d e)) H
theorem C'(cb:X.A.units+64<cLine):d4 X (ais .Eq) (yL X.K false):=by
 intro pinZ s σ H x y v u Q I a5 bt h;obtain⟨d,e,a,b,oi,kH,q⟩:=h;obtain⟨as,bh⟩:=a.reads I a5;obtain⟨bs,l'⟩:=b.reads I bt;exact eq_dataH bh l' oi kH cb ⟨.aA _,H,I,rfl,q⟩
theorem yB(cb:X.A.units+64<cLine):d4 X (ais .NotEq) (yL X.K true):=by
 intro pinZ s σ H x y v u Q I a5 bt h;obtain⟨d,e,a,b,oi,kH,q⟩:=h;obtain⟨as,bh⟩:=a.reads I a5;obtain⟨bs,l'⟩:=b.reads I bt;exact ne_dataH bh l' oi kH cb ⟨.aA _,H,I,rfl,q⟩
end
theorem yM{K:aP}{H:av}:∀ns:List Int,a_ K H (ns.map PyData.int) (ns.map V.int)
 |[]=>rfl|n::r=>⟨.int n,r.map V.int,rfl,rfl,yM r⟩
theorem GB:aiC "len"=some (.builtin "len"):=by decide +kernel
theorem GA:aiC "isinstance"=some (.builtin "isinstance"):=by decide +kernel
theorem GC:aiC "max"=some (.builtin "max"):=by decide +kernel
theorem QE:aiC "all"=some (.builtin "all"):=by decide +kernel
theorem Gz:aiC "int"=some (.type "int"):=by decide +kernel
theorem QF:aiC "bool"=some (.type "bool"):=by decide +kernel
theorem QG:aiC "list"=some (.type "list"):=by decide +kernel
theorem wG:aiC "tuple"=some (.type "tuple"):=by decide +kernel
theorem QI:aiC "str"=some (.type "str"):=by decide +kernel
variable[a6]
def vY(b9:hM)(H1:av)(xs:List V):Prop:=∀H,en H1 H->∀i,(i<xs.length->b9.go i H/\∀x H',b9.ox i H x H'->H'=H/\xs[i]? = some x)/\(xs.length<=i->b9.stop i H)
theorem BQ{K:aP}{H:av}{a:Addr}{xs:List V}(h:c3 K H a xs):vY (lz K a) H xs:=fun H' s i=>
 ⟨fun ay=>⟨⟨xs,xs[i],s.seq h,by simp[ay]⟩,fun x Ey y=>⟨y.1,y.2 xs (s.seq h)⟩⟩,fun ay=>⟨xs,s.seq h,ay⟩⟩
theorem IT{K:aP}{H:av}{a:Addr}{xs:List V}(h:dp K H a xs):vY (ro K a) H xs:=fun H' s i=>
 ⟨fun ay=>⟨⟨xs,xs[i],s.vo h,by simp[ay]⟩,fun x Ey y=>⟨y.1,y.2 xs (s.vo h)⟩⟩,fun ay=>⟨xs,s.vo h,ay⟩⟩
def pF(lo:Int)(n:Nat):List V:=(aiz n).map fun i=>V.int (lo+(i:Nat))
theorem IS(lo:Int)(n:Nat):vY (rm lo n) H (pF lo n):=fun H' s i=>by
 have aj:(pF lo n).length=n:=by unfold pF;rw[ahJ,List.length_range]
 refine⟨fun ay=>⟨by rw[aj]at ay;exact ay,fun x Ey y=>⟨y.1,?_⟩⟩,fun ay=>by rw[aj]at ay;exact ay⟩;rw[aj]at ay;rw[y.2];unfold pF;rw[aia,List.getElem?_range ay];rfl
end aF
namespace aF
open PySem PySem.Spec PyProof.Rows
theorem cn.none{P:ah1}{w:World}{K:aP}{mg:bk}{base:Heap}{x:Str}{st:Stmt}{ps:List Str}{k:Nat}{sp:d9}(D:cn K mg x st ps)(no:∀vs H Q E,¬sp vs H Q E):b6 P w K mg base x ps k sp:=by
 obtain⟨f,fd,F,b,m⟩:=D.ex;exact⟨f,fd,⟨fun vs H Q E h=>absurd h (no vs H Q E),fun A outer s H args us vs Q E _ _ _ _ h=>absurd h (no vs H Q E)⟩,b,F.kp,m⟩
theorem Xj(K:aP):tf K:=⟨by
 intro t bG c aE;simp only[ahP,List.mem_nil_iff,or_false]at bG aE;rcases bG with rfl | rfl | rfl | rfl | rfl | rfl<;>rcases aE with rfl | rfl | rfl | rfl | rfl<;>kernel_rfl⟩
theorem range_all(bs:List Bool):(aiz bs.length).all (fun i=>bs.getD i false)=bs.all id:=by
 rw[ajg,aiZ,aiZ];constructor
 ·intro h b aa
  obtain⟨i,ay,rfl⟩:=List.getElem_of_mem aa;have:=h i (ai4.mpr ay);rw[ail,ait ay]at this;exact this
 ·intro h i ay
  have k7:=ai4.mp ay;rw[ail,ait k7];exact h _ (List.getElem_mem k7)
section
variable{X:aQ}{K:aP}
theorem ac0{bs:List Bool}{its:List Value}(bI:Vals (bs.map V.aA) its):TruthOf prog w A (fun i v=>its.toArray[i]? = some v) (fun i=>bs.getD i false):=by
 intro i v s Q E bz a4;have jH:its[i]? = some v:=by simpa using bz
 have ay:i<bs.length:=by
  have ae:=(ahN.mp jH).1;have ag:=bI.length;rw[ahJ]at ag;omega
 obtain⟨u,cb,dD⟩:=bI.get (i:=i) (x:=.aA bs[i]) (by rw[aia,ait ay];rfl);rw[jH]at cb;cases cb;cases dD;have mU:Q (bs.getD i false) s:=a4;rw[ail,ait ay]at mU;exact ai2 mU
theorem QP(aE:X.calm=true):iZ X (.builtin "all") (fun xs H Q=>∃(l:Addr)(bs:List Bool),xs=[.ref l]/\c3 X.K H l (bs.map V.aA)/\Q (.aA (bs.all id)) H):=by
 intro pinZ s σ H xs us Q I bI h;obtain⟨l,bs,rfl,cq,q⟩:=h;obtain⟨u,rfl,bu⟩:=vals1 bI;cases bu;obtain⟨its,pG,p,hz⟩:=I.list cq;have e_:l<s.heap.objs.size:=by obtain⟨o,n,e,_⟩:=p;exact ahY e
 refine call_all_walk (ajA p.isList ?_);refine⟨s.heap.objs.size,_,_,_,_,_,fun i=>bs.getD i false,rfl,amC (A:=X.A.in1) (show X.A.in1.handled=none from I.ok.hd aE) s.heap.objs.size l (ah5 e_) its.toArray,⟨⟨_,ahU _ rfl,rfl,rfl⟩,p.isList.at fun o e=>ahI _ e⟩,ac0 pG,fun h' tk k=>?_⟩;have aH:its.toArray.size=bs.length:=by
  have ag:=pG.length;rw[ahJ]at ag;simp[ag]
 rw[aH,range_all];exact⟨.aA _,H,I.kept (h':=h') (t':=tk) fun b o e=>k b o (by intro z;rw[aij.mp z]at e;exact absurd (ahY e) (aii _)) (ahI _ e),rfl,q⟩
end
section
variable{X:aQ}
theorem KL{v:V}(aS:d3 X x)(h:∃u,X.mg x=some u/\RelV v u)(hd:(x==("__debug__":Str))=false:=by decide):bQ X (.Name x pos) (om v):=by
 obtain⟨u,hm,r⟩:=h;exact Zz aS hm r hd
variable[a6]
end
end aF
set_option maxHeartbeats 1000000
namespace aY
open PySem PySem.Spec aF
variable[aF.a6]
inductive D where
 |aW | aA (b:Bool) | int (i:Int) | str (x:Str) | tup (xs:List D) | lst (xs:List D) | ref (n:Nat) | fn (f:Str) | ty (n:String)
inductive Slot where
 |emp | val (d:D) | dZ (p:Bool) (xs:List D) | b1 (xs:List D)
abbrev aO:=List Slot
inductive gR where
 |lst (xs:List D) | d_ (aw:List (Key×D)) | dT (aw:List (List Key×D)) | bA (c:Str) (aV:List (Str×D))
abbrev ck:=List gR
inductive Out(α:Type) where
 |ok (a:α) (S:ck) | exc (c:Str) (S:ck) | bad
structure M(α:Type):Type where
 run:ck->Out α
 ei:∀S a au,run S=.ok a au->au=S
def M.jW{α β:Type}(m:M α)(f:α->M β):M β:=⟨fun S=>match m.run S with
 |.ok a au=>(f a).run au|.exc c au=>.exc c au|.bad=>.bad,fun S b au h=>by
  cases e:m.run S with
  |ok a S1=>rw[e]at h;exact((f a).ei _ _ _ h).trans (m.ei _ _ _ e)|exc c S1=>rw[e]at h;cases h
  | bad=>rw[e]at h;cases h⟩
noncomputable instance:Monad M where
 pure a:=⟨fun S=>.ok a S,fun _ _ _ h=>by cases h;rfl⟩
 bind:=M.jW
omit [aF.a6]in
theorem M.ext{α:Type}{x y:M α}(h:∀S,x.run S=y.run S):x=y:=by
 cases x with | mk f p=>cases y with | mk g q=>obtain rfl:f=g:=funext h;rfl
omit [aF.a6]in
theorem M.Qy{α β:Type}(m:M α)(f:α->M β):(m >>= f)=M.jW m f:=rfl
instance:LawfulMonad M:=LawfulMonad.mk'
 (id_map:=fun x=>M.ext fun S=>by show(M.jW x (fun a=>pure (id a))).run S=x.run S;unfold M.jW;dsimp only;cases x.run S<;>rfl)
 (pure_bind:=fun x f=>rfl)
 (bind_assoc:=fun x f g=>M.ext fun S=>by show(M.jW (M.jW x f) g).run S=(M.jW x (fun a=>M.jW (f a) g)).run S;unfold M.jW;dsimp only;cases x.run S<;>rfl)
 (bind_pure_comp:=fun f x=>rfl)
def bad{α:Type}:M α:=⟨fun _=>.bad,fun _ _ _ h=>by cases h⟩
omit [aF.a6]in
theorem M.inv{α β:Type}{m:M α}{f:α->M β}{S au:ck}{b:β}(h:(m >>= f).run S=.ok b au):∃a S1,m.run S=.ok a S1/\(f a).run S1=.ok b au:=by
 rw[M.Qy]at h;unfold M.jW at h;dsimp only at h
 cases e:m.run S with
 |ok a S1=>rw[e]at h;exact⟨a,S1,rfl,h⟩|exc c S1=>rw[e]at h;cases h
 |bad=>rw[e]at h;cases h
def hr(p:Prop)[Decidable p]:M Unit:=if p then pure ()else bad
omit [aF.a6]in
theorem GN{p:Prop}[Decidable p](h:p):hr p=pure ():=if_pos h
omit [aF.a6]in
theorem p5{p:Prop}[Decidable p](h:(hr p).run S=.ok u au):p/\S=au:=by
 unfold hr at h
 by_cases aI:p
 ·rw[if_pos aI]at h;cases h;exact⟨aI,rfl⟩
 ·rw[if_neg aI]at h;cases h
inductive R where
 |v (d:D) | fr (xs:List D) | b1 (xs:List D) | mv (xs:List D)
abbrev bl:=aO->M R
inductive Own where
 |free | out | di | loc (i:Nat)
 deriving DecidableEq
structure a3 where
 own:Addr->Own
 bC:List Addr
instance:CoeFun a3 (fun _=>Addr->Own):=⟨a3.own⟩
def zy(K:aP)(a:Addr)(xs:List V):Prop:=
 ∃(o:Obj)(its:Array Value)(n:Nat),K.lookup a=some o/\o.cls=.type "list"/\o.dict=none/\o.data=.seq its n/\its.size<=ahQ/\Vals xs its.toList
def rp(_:aP)(O:a3)(H:av)(a:Addr)(ys:List V):Prop:=H a=some (.lst ys)/\O a=.free
mutual
def Rep(K:aP)(mg:bk)(O:a3)(H:av):D->V->Prop
 |.aW,v=>v=.aW|.aA b,v=>v=.aA b|.int i,v=>v=.int i|.str x,v=>v=.str x|.tup xs,v=>∃a ys,v=.ref a/\dp K H a ys/\a_ K mg O H xs ys|.lst xs,v=>∃a ys,v=.ref a/\rp K O H a ys/\a_ K mg O H xs ys|.ref n,v=>∃a,v=.ref a/\O.bC[n]? = some a|.fn f,v=>∃a,v=.ref a/\mg f=some (.ref a)|.ty n,v=>v=.ty n
def a_(K:aP)(mg:bk)(O:a3)(H:av):List D->List V->Prop
 |[],ys=>ys=[]|x::xs,ys=>∃y r,ys=y::r/\Rep K mg O H x y/\a_ K mg O H xs r
end
structure Go(O ai:a3)(H H':av):Prop where
 same:en H H'
 own:∀b,H b≠none->ai b=O b
 bC:ai.bC=O.bC
theorem Go.refl(O:a3)(H:av):Go O O H H:=⟨en.refl _,fun _ _=>rfl,rfl⟩
theorem Go.trans{O aK bf:a3}(a:Go O aK H H1)(b:Go aK bf H1 aJ):Go O bf H aJ:=
 ⟨a.same.trans b.same,fun c h=>(b.own c (a.same.some h)).trans (a.own c h),b.bC.trans a.bC⟩
theorem fH.same(s:en H H')(h:fH H a u)(n:n6 u:=by exact trivial):fH H' a u:=by
 rcases h with h | ⟨o,h⟩
 ·exact .inl (s.at' _ _ h n)
 ·exact .inr ⟨o,s.at' _ _ h⟩
omit [aF.a6]in
theorem fH.some{H:av}(h:fH H a u):H a≠none:=by
 rcases h with h | ⟨o,h⟩<;>rw[h]<;>intro z<;>cases z
theorem rp.c9{O:a3}(h:rp K O H a ys):c3 K H a ys:=c3.of h.1
def hO(K:aP)(O:a3)(H:av)(a:Addr)(ys:List V):Prop:=(fH H a (.lst ys)/\(O a=.free\/O a=.out))\/zy K a ys
theorem hO.c9{O:a3}(h:hO K O H a ys):c3 K H a ys:=h.elim (fun z=>.inl z.1) .inr
theorem hO.go{O ai:a3}(g:Go O ai H H')(h:hO K O H a ys):hO K ai H' a ys:=by
 rcases h with⟨l,f⟩ | l
 ·exact .inl ⟨fH.same g.same l,by rw[g.own a (fH.some l)];exact f⟩
 ·exact .inr l
theorem rp.go{O ai:a3}(g:Go O ai H H')(h:rp K O H a ys):rp K ai H' a ys:=by
 exact⟨g.same.at' _ _ h.1,(g.own a (by rw[h.1];intro z;cases z)).trans h.2⟩
section
variable{K:aP}{mg:bk}{O ai:a3}{H H':av}
mutual
theorem Rep.go(g:Go O ai H H'):∀{d:D}{v:V},Rep K mg O H d v->Rep K mg ai H' d v
 |.aW,_,h=>h|.aA _,_,h=>h|.int _,_,h=>h|.str _,_,h=>h| .tup _,_,h=>by obtain⟨a,ys,q,l,r⟩:=h;exact⟨a,ys,q,g.same.vo l,a_.go g r⟩
 | .lst _,_,h=>by obtain⟨a,ys,q,l,r⟩:=h;exact⟨a,ys,q,l.go g,a_.go g r⟩
 | .ref _,_,h=>by obtain⟨a,q,l⟩:=h;exact⟨a,q,by rw[g.bC];exact l⟩
 |.fn _,_,h=>h|.ty _,_,h=>h
theorem a_.go(g:Go O ai H H'):∀{ds:List D}{ys:List V},a_ K mg O H ds ys->a_ K mg ai H' ds ys
 |[],_,h=>h| _::_,_,h=>by obtain⟨x,r,q,a,b⟩:=h;exact⟨x,r,q,Rep.go g a,a_.go g b⟩
end
structure mz(O ai:a3):Prop where
 fr:∀a,O a=.free->ai a=.free
 bC:ai.bC=O.bC
mutual
theorem Rep.da(g:mz O ai):∀{d:D}{v:V},Rep K mg O H d v->Rep K mg ai H d v
 |.aW,_,h=>h|.aA _,_,h=>h|.int _,_,h=>h|.str _,_,h=>h| .tup _,_,h=>by obtain⟨a,ys,q,l,r⟩:=h;exact⟨a,ys,q,l,a_.da g r⟩
 | .lst _,_,h=>by obtain⟨a,ys,q,l,r⟩:=h;exact⟨a,ys,q,⟨l.1,g.fr _ l.2⟩,a_.da g r⟩
 | .ref _,_,h=>by obtain⟨a,q,l⟩:=h;exact⟨a,q,by rw[g.bC];exact l⟩
 |.fn _,_,h=>h|.ty _,_,h=>h
theorem a_.da(g:mz O ai):∀{ds:List D}{ys:List V},a_ K mg O H ds ys->a_ K mg ai H ds ys
 |[],_,h=>h| _::_,_,h=>by obtain⟨x,r,q,a,b⟩:=h;exact⟨x,r,q,Rep.da g a,a_.da g b⟩
end
theorem a_.len:∀{ds:List D}{xs:List V},a_ K mg O H ds xs->xs.length=ds.length
 | [],_,h=>by cases h;rfl
 | _::_,_,h=>by obtain⟨x,r,rfl,_,b⟩:=h;rw[ahX,ahX,a_.len b]
theorem a_.get:∀{ds:List D}{xs:List V}{i:Nat}{d:D},a_ K mg O H ds xs->ds[i]? = some d->∃x,xs[i]? = some x/\Rep K mg O H d x
 | [],_,_,_,_,e=>by simp at e| _::_,_,0,d,h,e=>by obtain⟨x,r,rfl,a,_⟩:=h;cases(show some _=some d from e);exact⟨x,rfl,a⟩
 |_::ds,_,i+1,d,h,e=>by
  obtain⟨x,r,rfl,_,b⟩:=h;obtain⟨y,aq,aD⟩:=a_.get (i:=i) b (by simpa using e);exact⟨y,by simpa using aq,aD⟩
theorem a_.HG:∀{ds:List D}{xs:List V}{i:Nat}{x:V},a_ K mg O H ds xs->xs[i]? = some x->∃d,ds[i]? = some d/\Rep K mg O H d x
 | [],_,_,_,h,e=>by cases h;simp at e
 | _::_,_,0,x,h,e=>by obtain⟨y,r,rfl,a,_⟩:=h;cases(show some _=some x from e);exact⟨_,rfl,a⟩
 |_::ds,_,i+1,d,h,e=>by
  obtain⟨x,r,rfl,_,b⟩:=h;obtain⟨y,aq,aD⟩:=a_.HG (i:=i) b (by simpa using e);exact⟨y,by simpa using aq,aD⟩
theorem a_.append:∀{ds ax:List D}{xs ys:List V},a_ K mg O H ds xs->a_ K mg O H ax ys->a_ K mg O H (ds++ax) (xs++ys)
 | [],_,_,_,h,q=>by cases h;exact q
 | _::_,_,_,_,h,q=>by obtain⟨x,r,rfl,a,b⟩:=h;exact⟨x,_,rfl,a,a_.append b q⟩
theorem a_.one(h:Rep K mg O H d x):a_ K mg O H [d] [x]:=⟨x,[],rfl,h,rfl⟩
theorem a_.take:∀{ds:List D}{xs:List V}(n:Nat),a_ K mg O H ds xs->a_ K mg O H (ds.take n) (xs.take n)
 | [],_,_,h=>by cases h;rw[amG,amG];rfl
 | _::_,_,0,_=>by rw[alv,alv];rfl| _::_,_,n+1,h=>by obtain⟨x,r,rfl,a,b⟩:=h;exact⟨x,_,rfl,a,a_.take n b⟩
theorem a_.drop:∀{ds:List D}{xs:List V}(n:Nat),a_ K mg O H ds xs->a_ K mg O H (ds.drop n) (xs.drop n)
 | [],_,_,h=>by cases h;rw[List.drop_nil,List.drop_nil];rfl
 |_::_,_,0,h=>h| _::_,_,n+1,h=>by obtain⟨x,r,rfl,a,b⟩:=h;exact a_.drop n b
theorem yM(ns:List Int):a_ K mg O H (ns.map D.int) (ns.map V.int):=by
 induction ns with
 |nil=>rfl|cons n r a9=>exact⟨.int n,_,rfl,rfl,a9⟩
def dR{κ:Type}(K:aP)(mg:bk)(O:a3)(H:av)(aw:List (κ×D))(dm:List (κ×V)):Prop:=aw.map (·.1)=dm.map (·.1)/\a_ K mg O H (aw.map (·.2)) (dm.map (·.2))
def ew(K:aP)(mg:bk)(O:a3)(H:av):R->V->Prop
 |.v d,v=>Rep K mg O H d v|.fr xs,v=>∃a ys,v=.ref a/\H a=some (.lst ys)/\O a=.di/\a_ K mg O H xs ys|.b1 xs,v=>∃a ys,v=.ref a/\hO K O H a ys/\a_ K mg O H xs ys|.mv xs,v=>∃a ys,v=.ref a/\H a=some (.lst ys)/\a_ K mg O H xs ys
theorem ew.go(g:Go O ai H H'):∀{r:R}{v:V},ew K mg O H r v->ew K mg ai H' r v
 |.v _,_,h=>Rep.go g h| .fr _,_,h=>by obtain⟨a,ys,q,l,o,r⟩:=h;exact⟨a,ys,q,g.same.at' _ _ l,(g.own a (by rw[l];intro z;cases z)).trans o,r.go g⟩
 | .b1 _,_,h=>by obtain⟨a,ys,q,l,r⟩:=h;exact⟨a,ys,q,l.go g,r.go g⟩
 | .mv _,_,h=>by obtain⟨a,ys,q,l,r⟩:=h;exact⟨a,ys,q,g.same.at' _ _ l,r.go g⟩
theorem a_.imp{ai:a3}(f:∀d v,Rep K mg O H d v->Rep K mg ai H' d v):∀{ds:List D}{ys:List V},a_ K mg O H ds ys->a_ K mg ai H' ds ys
 |[],_,h=>h| _::_,_,h=>by obtain⟨x,r,q,a,b⟩:=h;exact⟨x,r,q,f _ _ a,a_.imp f b⟩
def N3(K:aP)(mg:bk)(c:Str)(C:Addr):Prop:=mg c=some (.ref C)/\i0 K C
def jt(K:aP)(mg:bk)(O:a3)(H:av)(w:Own):Slot->Option V->Prop
 |.emp,_=>True|.val d,u=>∃v,u=some v/\Rep K mg O H d v|.dZ _ xs,u=>∃a ys,u=some (.ref a)/\O a=w/\H a=some (.lst ys)/\a_ K mg O H xs ys|.b1 xs,u=>∃a ys,u=some (.ref a)/\hO K O H a ys/\a_ K mg O H xs ys
theorem jt.go(g:Go O ai H H'):∀{s:Slot}{u:Option V},jt K mg O H w s u->jt K mg ai H' w s u
 |.emp,_,_=>trivial| .val _,_,h=>by obtain⟨v,q,r⟩:=h;exact⟨v,q,r.go g⟩
 | .dZ _ _,_,h=>by obtain⟨a,ys,q,o,l,r⟩:=h;exact⟨a,ys,q,(g.own a (by rw[l];intro z;cases z)).trans o,g.same.at' _ _ l,r.go g⟩
 |.b1 _,_,h=>by
  obtain⟨a,ys,q,l,r⟩:=h;exact⟨a,ys,q,l.go g,r.go g⟩
end
def js(O:a3):Prop:=O.bC.Nodup/\∀a∈O.bC,O a=.out
structure cV(O:a3)(H:av):Prop where
 has:∀a,O a≠.free->H a≠none
 tabs:TabsOk H
 b8:js O
def mD(K:aP)(mg:bk)(O:a3)(H:av)(a:Addr):gR->Prop
 |.lst xs=>∃ys,H a=some (.lst ys)/\a_ K mg O H xs ys|.d_ aw=>∃dm,H a=some (.e7 dm)/\dR K mg O H aw dm|.dT aw=>∃dm,H a=some (.g_ dm)/\dR K mg O H aw dm|.bA c aV=>∃C bV jC,H a=some (.ins C bV jC)/\N3 K mg c C/\dR K mg O H aV jC
def f9(K:aP)(mg:bk)(O:a3)(H:av)(S:ck):Prop:=∀(n:Nat)(o:gR),S[n]? = some o->∃a,O.bC[n]? = some a/\mD K mg O H a o
theorem mD.all{O ai:a3}{H H':av}(f:∀d v,Rep K mg O H d v->Rep K mg ai H' d v)(g:∀u,H a=some u->n6 u->H' a=some u):∀{o:gR},mD K mg O H a o->mD K mg ai H' a o
 | .lst _,h=>by obtain⟨ys,l,r⟩:=h;exact⟨ys,g _ l trivial,r.imp f⟩
 | .d_ _,h=>by obtain⟨ys,l,e,r⟩:=h;exact⟨ys,g _ l trivial,e,r.imp f⟩
 | .dT _,h=>by obtain⟨ys,l,e,r⟩:=h;exact⟨ys,g _ l trivial,e,r.imp f⟩
 | .bA _ _,h=>by obtain⟨C,bV,jC,l,c,e,r⟩:=h;exact⟨C,bV,jC,g _ l trivial,c,e,r.imp f⟩
theorem f9.all{O ai:a3}{H H':av}(s:f9 K mg O H S)(f:∀d v,Rep K mg O H d v->Rep K mg ai H' d v)(e:ai.bC=O.bC)(g:∀a∈O.bC,∀u,H a=some u->n6 u->H' a=some u):f9 K mg ai H' S:=fun n o h=>by
 obtain⟨a,ae,ag⟩:=s n o h;exact⟨a,by rw[e];exact ae,ag.all f (g a (aiw ae))⟩
theorem f9.go{O ai:a3}(s:f9 K mg O H S)(g:Go O ai H H'):f9 K mg ai H' S:=
 s.all (fun _ _ z=>Rep.go g z) g.bC fun a _ u l n=>g.same.at' _ _ l n
theorem f9.nil{O:a3}:f9 K mg O H []:=fun n o h=>by cases n<;>cases h
structure b_(K:aP)(mg:bk)(O:a3)(σ:aO)(S:ck)(ak:St)(H:av):Prop where
 b7:cV O H
 len:σ.length=ak.length
 loc:∀i s,σ[i]? = some s->jt K mg O H (.loc i) s (ak[i]?.join)
 gM:f9 K mg O H S
theorem b_.go{O ai:a3}(h:b_ K mg O σ S ak H)(g:Go O ai H H')(d:cV ai H'):b_ K mg ai σ S ak H':=
 ⟨d,h.len,fun i s e=>(h.loc i s e).go g,h.gM.go g⟩
def fC(O:a3)(a:Addr)(o:Own):a3:=⟨fun b=>if b=a then o else O b,O.bC⟩
omit [aF.a6]in
theorem nk{O:a3}:fC O a o a=o:=if_pos rfl
omit [aF.a6]in
theorem ot{O:a3}(h:b≠a):fC O a o b=O b:=if_neg h
section
variable{K:aP}{mg:bk}{O:a3}{σ:aO}{S:ck}{ak:St}{H:av}{p:Addr}{u:gx}{o:Own}
theorem Go.new(aI:H p=none):Go O (fC O p o) H (upd H p u):=
 ⟨q0 aI u,fun b aa=>ot (by rintro rfl;exact aa aI),rfl⟩
theorem Go.eJ(aI:H p=none):Go O O H (upd H p u):=⟨q0 aI u,fun _ _=>rfl,rfl⟩
theorem cV.new(d:cV O H)(aI:H p=none):cV (fC O p o) (upd H p u):=⟨fun a ao=>by
 by_cases e:a=p
 ·subst e;rw[de];intro z;cases z
 ·rw[cX e];rw[ot e]at ao;exact d.has a ao,d.tabs.new aI u,d.b8.1,fun a h=>by rw[ot (by rintro rfl;exact d.has _ (by rw[d.b8.2 _ h];intro z;cases z) aI)];exact d.b8.2 a h⟩
theorem cV.same(d:cV O H)(s:en H H'):cV O H':=⟨fun a ao=>s.some (d.has a ao),s.bO d.tabs,d.b8⟩
theorem cV.free(d:cV O H)(aI:H p=none):O p=.free:=by
 cases e:O p with
 |free=>rfl| _=>exact absurd aI (d.has p (by rw[e];intro z;cases z))
theorem b_.new(h:b_ K mg O σ S ak H)(aI:H p=none):b_ K mg (fC O p o) σ S ak (upd H p u):=h.go (Go.new aI) (h.b7.new aI)
theorem b_.eJ(h:b_ K mg O σ S ak H)(aI:H p=none):b_ K mg O σ S ak (upd H p u):=h.go (Go.eJ aI) (h.b7.same (q0 aI u))
end
def jr(H:av):R->V->Prop
 |.fr _,v=>∀a,v=.ref a->H a=none|_,_=>True
theorem jr.back(s:en H H1):∀{r:R}{v:V},jr H1 r v->jr H r v
 |.v _,_,_=>trivial|.b1 _,_,_=>trivial|.mv _,_,_=>trivial|.fr _,_,h=>fun a e=>s.free (h a e)
def kf(H:av):List R->List V->Prop
 |r::rs,v::vs=>jr H r v/\kf H rs vs|_,_=>True
theorem kf.back(s:en H H1):∀{rs:List R}{vs:List V},kf H1 rs vs->kf H rs vs
 |[],_,_=>trivial|_::_,[],_=>trivial|_::_,_::_,h=>⟨h.1.back s,kf.back s h.2⟩
def v9(K:aP)(mg:bk)(O:a3)(σ:aO)(au:ck)(ak:St)(H:av)(r:R)(Q:cZ):Prop:=
 ∀ai v H',Go O ai H H'->b_ K mg ai σ au ak H'->ew K mg ai H' r v->jr H r v->Q v H'
inductive oL{α:Type}(K:aP)(mg:bk)(m:aO->M α)(ak:St)(H:av)(P:a3->aO->ck->α->Prop):Prop
 |mk (O:a3) (σ:aO) (S:ck) (x:α) (au:ck) (st:b_ K mg O σ S ak H) (h:(m σ).run S=.ok x au) (q:P O σ au x):oL K mg m ak H P
def e'(K:aP)(mg:bk)(m:bl):TE:=fun ak H Q=>oL K mg m ak H fun O σ au r=>v9 K mg O σ au ak H r Q
def kL(K:aP)(mg:bk)(m:aO->M Bool):TT:=fun ak H Q=>oL K mg m ak H fun O σ au b=>∀ai H',Go O ai H H'->b_ K mg ai σ au ak H'->Q b H'
abbrev hn(X:aQ)(e:Expr)(m:bl):Prop:=bQ X e (e' X.K X.mg m)
abbrev Eu(X:aQ)(e:Expr)(m:aO->M Bool):Prop:=iD X e (kL X.K X.mg m)
abbrev vU(X:aQ)(e:Expr)(m:aO->M Bool):Prop:=lA X e (kL X.K X.mg m)
def f6(K:aP)(mg:bk)(O:a3)(H:av):List R->List V->Prop
 |[],ys=>ys=[]|x::xs,ys=>∃y r,ys=y::r/\ew K mg O H x y/\f6 K mg O H xs r
theorem f6.go{O ai:a3}(g:Go O ai H H'):∀{rs:List R}{ys:List V},f6 K mg O H rs ys->f6 K mg ai H' rs ys
 |[],_,h=>h| _::_,_,h=>by obtain⟨x,r,q,a,b⟩:=h;exact⟨x,r,q,a.go g,f6.go g b⟩
theorem f6.len{O:a3}:∀{rs:List R}{ys:List V},f6 K mg O H rs ys->ys.length=rs.length
 | [],_,h=>by cases h;rfl
 | _::_,_,h=>by obtain⟨x,r,rfl,_,b⟩:=h;rw[ahX,ahX,f6.len b]
abbrev cL:=aO->M (List R)
def mh(K:aP)(mg:bk)(m:cL):fW:=fun ak H Q=>oL K mg m ak H fun O σ au rs=>∀ai vs H',Go O ai H H'->b_ K mg ai σ au ak H'->f6 K mg ai H' rs vs->kf H rs vs->Q vs H'
abbrev vR(X:aQ)(ax:List Expr)(m:cL):Prop:=e5 X ax (mh X.K X.mg m)
theorem eh{t t':TE}(h:bQ X e t)(i:∀σ H Q,t' σ H Q->t σ H Q):bQ X e t':=fun pinZ s σ H Q I q=>h pinZ s σ H Q I (i _ _ _ q)
theorem qV{t t':TT}(h:iD X e t)(i:∀σ H Q,t' σ H Q->t σ H Q):iD X e t':=fun pinZ s σ H Q I q=>h pinZ s σ H Q I (i _ _ _ q)
theorem K7{t t':TT}(h:lA X e t)(i:∀σ H Q,t' σ H Q->t σ H Q):lA X e t':=fun rd pinZ s σ H Q I q=>h rd pinZ s σ H Q I (i _ _ _ q)
theorem u3{t t':fW}(h:e5 X ax t)(i:∀σ H Q,t' σ H Q->t σ H Q):e5 X ax t':=fun pos pinZ s σ H Q I q=>h pos pinZ s σ H Q I (i _ _ _ q)
@[simp] def J(i:Nat)(σ:aO):M R:=match σ[i]? with
 |some (.val d)=>pure (.v d)|some (.dZ _ xs)=>pure (.mv xs)|some (.b1 xs)=>pure (.b1 xs)|_=>bad
def ab(d:D):bl:=fun _=>pure (.v d)
section
variable{X:aQ}{a b c e:Expr}{cT c0 gY m:bl}{b0:aO->M Bool}
theorem tG{v:V}(h:bQ X e (om v))(r:∀O H,Rep X.K X.mg O H d v):hn X e (ab d):=eh h fun ak H Q aX=>by
 obtain⟨O,σ,S,bL,au,st,h,q⟩:=aX;cases h;exact q O v H (Go.refl _ _) st (r O H) trivial
@[simp] def af(f:R->R->M R)(a b:bl)(σ:aO):M R:=do
 let x <-a σ
 let y <-b σ
 f x y
def eb(K:aP)(mg:bk)(r:fG)(f:R->R->M R):Prop:=
 ∀O σ S ak H x y a5 bt bL au (Q:cZ),b_ K mg O σ S ak H->ew K mg O H a5 x->ew K mg O H bt y->(f a5 bt).run S=.ok bL au->v9 K mg O σ au ak H bL Q->r x y H Q
theorem tB{r:fG}(hf:eb K mg r f):∀ak H Q,e' K mg (af f cT c0) ak H Q->vx r (e' K mg cT) (e' K mg c0) ak H Q:=by
 rintro ak H Q ⟨O,σ,S,bL,au,st,h,q⟩;obtain⟨x,S1,ae,h⟩:=M.inv h;obtain⟨y,bj,ag,h⟩:=M.inv h;refine⟨O,σ,S,x,S1,st,ae,fun aK gv H1 g1 aU a5 bq=>?_⟩;refine⟨aK,σ,S1,y,bj,aU,ag,fun bf sV aJ g2 cv bt Kp=>?_⟩;exact hf bf σ bj ak aJ gv sV x y bL au Q cv (a5.go g2) bt h fun ai v H' g b3 bo nn=>q ai v H' ((g1.trans g2).trans g) b3 bo (nn.back (g1.trans g2).same)
def R.q7:R->M Bool
 |.v (.aA b)=>pure b|_=>bad
@[simp] def bg(m:bl)(σ:aO):M Bool:=do
 let x <-m σ
 x.q7
omit [aF.a6]in
theorem vB{r:R}{b:Bool}{S au:ck}(h:r.q7.run S=.ok b au):r=.v (.aA b)/\S=au:=by
 cases r with
 |v d=>cases d<;>cases h<;>exact⟨rfl,rfl⟩
 |fr _=>cases h
 |b1 _=>cases h
 |mv _=>cases h
theorem DV:∀ak H Q,kL K mg (bg m) ak H Q->vz (e' K mg m) ak H Q:=by
 rintro ak H Q ⟨O,σ,S,t,au,st,h,q⟩;obtain⟨x,S1,ae,h⟩:=M.inv h;obtain⟨rfl,rfl⟩:=vB h;exact⟨O,σ,S,_,_,st,ae,fun ai v H' g b3 bo _=>⟨t,bo,q ai H' g b3⟩⟩
theorem MR{t t':TE}(i:∀σ H Q,t' σ H Q->t σ H Q):∀σ H Q,vz t' σ H Q->vz t σ H Q:=fun σ H Q q=>i _ _ _ q
@[simp] def i6(f g:R->R->M R)(a b c:bl)(σ:aO):M R:=do
 let x <-a σ
 let y <-b σ
 let z <-f x y
 let t <-z.q7
 if t=true then do
  let w <-c σ
  g y w
 else pure (.v (.aA false))
theorem QL{r bL:fG}(hf:eb K mg r f)(aS:eb K mg bL g):∀ak H Q,e' K mg (i6 f g cT c0 gY) ak H Q->MP r bL (e' K mg cT) (e' K mg c0) (e' K mg gY) ak H Q:=by
 rintro ak H Q ⟨O,σ,S,bL,au,st,h,q⟩;obtain⟨x,S1,ae,h⟩:=M.inv h;obtain⟨y,bj,ag,h⟩:=M.inv h;obtain⟨z,hR,bK,h⟩:=M.inv h;obtain⟨t,oM,dt,h⟩:=M.inv h;obtain⟨rfl,rfl⟩:=vB dt;refine⟨O,σ,S,x,S1,st,ae,fun aK gv H1 g1 aU a5 bq=>?_⟩;refine⟨aK,σ,S1,y,bj,aU,ag,fun bf sV aJ g2 cv bt Kp=>?_⟩;refine hf bf σ bj ak aJ gv sV x y _ _ _ cv (a5.go g2) bt bK fun eu ahz cG g3 gL bo _=>⟨t,bo,?_⟩
 have A2:=(g1.trans g2).trans g3
 cases t with
 |false=>
  rw[if_neg ahV]at h;cases h;exact qv (q eu _ cG A2 gL rfl trivial)
 |true=>
  rw[if_pos rfl]at h;obtain⟨w,ru,eW,h⟩:=M.inv h;refine qw ⟨eu,σ,_,w,ru,gL,eW,fun Oe b1 hp mO yT rw nw=>?_⟩;exact aS Oe σ ru ak hp sV b1 y w _ au Q yT (bt.go (g3.trans mO)) rw h fun ai v H' g b3 bo nn=>q ai v H' ((A2.trans mO).trans g) b3 bo (nn.back (A2.trans mO).same)
@[simp] def nD(a b:bl)(σ:aO):M R:=do
 let x <-a σ
 let t <-x.q7
 if t=true then b σ else pure (.v (.aA false))
@[simp] def wL(a:bl)(σ:aO):M R:=do
 let x <-a σ
 let t <-x.q7
 pure (.v (.aA (!t)))
@[simp] def g5(a b:aO->M Bool)(σ:aO):M Bool:=do
 let t <-a σ
 if t=true then b σ else pure false
@[simp] def iW(a b:aO->M Bool)(σ:aO):M Bool:=do
 let t <-a σ
 if t=true then pure true else b σ
@[simp] def f3(a:aO->M Bool)(σ:aO):M Bool:=do
 let t <-a σ
 pure (!t)
theorem vU.b'(h:vU X a b0):Eu X a b0:=h.pt
end
def qO(g:Int->Int->Int):R->R->M R
 |.v (.int i),.v (.int j)=>pure (.v (.int (g i j)))|_,_=>bad
def ob(C:Int->Int->Prop)[∀i j,Decidable (C i j)](g:Int->Int->Int):R->R->M R
 |.v (.int i),.v (.int j)=>if C i j then pure (.v (.int (g i j)))else bad|_,_=>bad
def qN(g:Int->Int->Bool):R->R->M R
 |.v (.int i),.v (.int j)=>pure (.v (.aA (g i j)))|_,_=>bad
section
variable{K:aP}{mg:bk}
theorem wF{g:Int->Int->Int}:eb K mg (hy fun i j=>.int (g i j)) (qO g):=fun O σ S ak H x y a5 bt bL au Q st ah a' h q=>by
 unfold qO at h;split at h
 ·rename_i i j
  cases h;exact⟨i,j,ah,a',q O _ H (Go.refl _ _) st rfl trivial⟩
 ·cases h
theorem rz{C:Int->Int->Prop}{ly:Int->Int->Prop}[∀i j,Decidable (ly i j)]{g:Int->Int->Int}(fs:∀i j,ly i j->C i j):eb K mg (j8 C fun i j=>.int (g i j)) (ob ly g):=fun O σ S ak H x y a5 bt bL au Q st ah a' h q=>by
 unfold ob at h;split at h
 ·rename_i i j
  by_cases c:ly i j
  ·rw[if_pos c]at h
   cases h;exact⟨i,j,ah,a',fs i j c,q O _ H (Go.refl _ _) st rfl trivial⟩
  ·rw[if_neg c]at h;cases h
 ·cases h
theorem wD{g:Int->Int->Bool}:eb K mg (hy fun i j=>.aA (g i j)) (qN g):=fun O σ S ak H x y a5 bt bL au Q st ah a' h q=>by
 unfold qN at h;split at h
 ·rename_i i j
  cases h;exact⟨i,j,ah,a',q O _ H (Go.refl _ _) st rfl trivial⟩
 ·cases h
end
abbrev hx:=qO (· + ·)
abbrev CW:=qO (· - ·)
abbrev oMod:=ob (fun _ j=>0<j) (· % ·)
abbrev l8:=ob (fun i j=>0<=j/\j<=1000000/\i.natAbs<2 ^ 64) (fun i j=>i ^ j.toNat)
abbrev CT:=ob (fun i j=>0<=j/\j<=1000000/\i.natAbs<2 ^ 64) (fun i j=>i*2 ^ j.toNat)
abbrev CU:=ob (fun _ j=>0<=j) (fun i j=>i / 2 ^ j.toNat)
abbrev CS:=qO aku
abbrev yu:=qO ak5
abbrev oLt:=qN fun i j=>decide (i<j)
abbrev oLe:=qN fun i j=>decide (i<=j)
abbrev su:=qN fun i j=>decide (j<i)
abbrev oa:=qN fun i j=>decide (j<=i)
section
variable{X:aQ}
theorem OG:eb X.K X.mg (hy fun i j=>.int (i+j)) hx:=wF
theorem OT:eb X.K X.mg (hy fun i j=>.int (i-j)) CW:=wF
theorem OO:eb X.K X.mg (j8 (fun _ j=>0<j) fun i j=>.int (i % j)) oMod:=rz fun _ _ h=>h
theorem OQ:eb X.K X.mg (j8 vT fun i j=>.int (i ^ j.toNat)) l8:=rz fun _ _ h=>h
theorem OR:eb X.K X.mg (j8 vT fun i j=>.int (i*2 ^ j.toNat)) CT:=rz fun _ _ h=>h
theorem OS:eb X.K X.mg (j8 (fun _ j=>0<=j) fun i j=>.int (i / 2 ^ j.toNat)) CU:=rz fun _ _ h=>h
theorem OH:eb X.K X.mg (hy fun i j=>.int (aku i j)) CS:=wF
theorem OI:eb X.K X.mg (hy fun i j=>.int (ak5 i j)) yu:=wF
theorem E2:eb X.K X.mg (hy fun i j=>.aA (decide (i<j))) oLt:=wD
theorem zR:eb X.K X.mg (hy fun i j=>.aA (decide (i<=j))) oLe:=wD
theorem ON:eb X.K X.mg (hy fun i j=>.aA (decide (j<i))) su:=wD
theorem EZ:eb X.K X.mg (hy fun i j=>.aA (decide (j<=i))) oa:=wD
end
@[simp] def b2(f:R->M R)(a:bl)(σ:aO):M R:=do
 let x <-a σ
 f x
def R.eH:R->Option (List D)
 |.v (.lst xs)=>some xs|.fr xs=>some xs|.b1 xs=>some xs|.mv xs=>some xs|_=>none
def R.DX:R->Option (List D)
 |.v (.tup xs)=>some xs|_=>none
def R.seq(r:R):Option (List D):=r.eH<|> r.DX
theorem R.mY{K:aP}{mg:bk}{O:a3}{H:av}{r:R}{v:V}{xs:List D}(h:ew K mg O H r v)(e:r.eH=some xs):∃a ys,v=.ref a/\c3 K H a ys/\a_ K mg O H xs ys:=by
 unfold R.eH at e;split at e
 ·cases e;obtain⟨a,ys,q,l,r⟩:=h;exact⟨a,ys,q,l.c9,r⟩
 ·cases e;obtain⟨a,ys,q,l,_,r⟩:=h;exact⟨a,ys,q,c3.of l,r⟩
 ·cases e;obtain⟨a,ys,q,l,r⟩:=h;exact⟨a,ys,q,l.c9,r⟩
 ·cases e;obtain⟨a,ys,q,l,r⟩:=h;exact⟨a,ys,q,c3.of l,r⟩
 ·cases e
theorem R.acX{K:aP}{mg:bk}{O:a3}{H:av}{r:R}{v:V}{xs:List D}(h:ew K mg O H r v)(e:r.DX=some xs):∃a ys,v=.ref a/\dp K H a ys/\a_ K mg O H xs ys:=by
 unfold R.DX at e;split at e
 ·cases e;exact h
 ·cases e
theorem R.yP{K:aP}{mg:bk}{O:a3}{H:av}{r:R}{v:V}{xs:List D}(h:ew K mg O H r v)(e:r.seq=some xs):∃a ys,v=.ref a/\(c3 K H a ys\/dp K H a ys)/\a_ K mg O H xs ys:=by
 unfold R.seq at e
 cases aq:r.eH with
 |some zs=>rw[aq]at e;cases e;obtain⟨a,ys,q,l,r⟩:=R.mY h aq;exact⟨a,ys,q,.inl l,r⟩
 |none=>rw[aq]at e;obtain⟨a,ys,q,l,r⟩:=R.acX h e;exact⟨a,ys,q,.inr l,r⟩
theorem a_.ed{O:a3}{i:Int}(h:a_ K mg O H ds xs)(e:ed ds i=some d):∃x,aF.ed xs i=some x/\Rep K mg O H d x:=by
 unfold aF.ed at e ⊢;rw[h.len]
 cases q:qx ds.length i with
 |none=>rw[q]at e;cases e
 |some j=>rw[q]at e;exact h.get e
def aN:R->R->M R
 |.v (.str z),.v (.int i)=>match ed z.cps.toList i with
  |some c=>if z.length<=ahQ then pure (.v (.str ⟨#[c]⟩))else bad|none=>bad
 |x,.v (.int i)=>match x.seq with
  |some xs=>match ed xs i with
   |some d=>pure (.v d)|none=>bad
  |none=>bad
 |_,_=>bad
theorem hT:eb K mg (Lc K) aN:=fun O σ S ak H x y a5 bt bL au Q st ah a' h q=>by
 unfold aN at h;split at h
 ·rename_i z i
  split at h
  ·rename_i c aD
   by_cases hz:z.length<=ahQ
   ·rw[if_pos hz]at h
    cases h;exact .inr (.inr ⟨z,i,c,ah,a',hz,aD,q O _ H (Go.refl _ _) st rfl trivial⟩)
   ·rw[if_neg hz]at h;cases h
  ·cases h
 ·rename_i i _
  split at h
  ·rename_i xs e
   split at h
   ·rename_i d aD
    cases h;obtain⟨a,ys,rfl,l,bh⟩:=R.yP ah e;obtain⟨z,cQ,jK⟩:=a_.ed bh aD;have iH:=q O z H (Go.refl _ _) st jK trivial;rcases l with l | l
    ·exact .inl ⟨a,ys,i,z,rfl,a',l,cQ,iH⟩
    ·exact .inr (.inl ⟨a,ys,i,z,rfl,a',l,cQ,iH⟩)
   ·cases h
  ·cases h
 ·cases h
def ar:cL:=fun _=>pure []
@[simp] def U(m:bl)(ms:cL)(σ:aO):M (List R):=do
 let x <-m σ
 let xs <-ms σ
 pure (x::xs)
def R.dat:R->M D
 |.v d=>pure d|.fr xs=>pure (.lst xs)|_=>bad
def k3:List R->M (List D)
 |[]=>pure []|r::rs=>do
  let d <-r.dat
  let ds <-k3 rs
  pure (d::ds)
def bW(H₀:av)(O:a3):a3:=⟨fun b=>match H₀ b,O b with
 |none,.di=>.free| _,o=>o,O.bC⟩
theorem xe{H₀:av}{O:a3}(h:H₀ b≠none):bW H₀ O b=O b:=by
 show(match H₀ b,O b with | none,.di=>.free | _,o=>o)=O b
 cases e:H₀ b with
 |none=>exact absurd e h|some o=>cases O b<;>rfl
theorem rP{H₀:av}{O:a3}(h:H₀ b=none)(t:O b=.di):bW H₀ O b=.free:=by show(match H₀ b,O b with | none,.di=>.free | _,o=>o)=Own.free;rw[h,t]
theorem qe{O:a3}(t:O b≠.di):bW H₀ O b=O b:=by
 show(match H₀ b,O b with | none,.di=>.free | _,o=>o)=O b;cases e:H₀ b<;>cases aD:O b<;>first | rfl | exact absurd aD t
theorem il(H₀:av)(O:a3):mz O (bW H₀ O):=⟨fun a h=>by rw[qe (by rw[h];intro z;cases z),h],rfl⟩
theorem jt.da{O ai:a3}(g:mz O ai)(bc:∀a,O a=.out->ai a=.out)(hw:∀a,O a=w->ai a=w):∀{s:Slot}{u:Option V},jt K mg O H w s u->jt K mg ai H w s u
 |.emp,_,_=>trivial| .val _,_,h=>by obtain⟨v,q,r⟩:=h;exact⟨v,q,r.da g⟩
 | .dZ _ _,_,h=>by obtain⟨a,ys,q,o,l,r⟩:=h;exact⟨a,ys,q,hw a o,l,r.da g⟩
 |.b1 _,_,h=>by
  obtain⟨a,ys,q,l,r⟩:=h;refine⟨a,ys,q,l.imp (fun z=>⟨z.1,z.2.imp (g.fr a) (bc a)⟩) id,r.da g⟩
section
variable{K:aP}{mg:bk}{O:a3}{σ:aO}{S:ck}{ak:St}{H H₀:av}
theorem b_.bW(h:b_ K mg O σ S ak H)(H₀:av):b_ K mg (bW H₀ O) σ S ak H:=
  ⟨⟨fun a ao=>h.b7.has a fun z=>ao (by rw[qe (by rw[z];intro w;cases w),z]),h.b7.tabs,h.b7.b8.1,fun a m=>by rw[qe (by rw[h.b7.b8.2 a m];intro w;cases w)];exact h.b7.b8.2 a m⟩,h.len,
   fun i s e=>(h.loc i s e).da (il _ _) (fun a z=>by rw[qe (by rw[z];intro w;cases w),z]) (fun a z=>by rw[qe (by rw[z];intro w;cases w),z]),h.gM.all (fun _ _ z=>Rep.da (il _ _) z) rfl fun _ _ _ l _=>l⟩
theorem Go.bW{oI:a3}(g:Go oI O H₀ H):Go oI (bW H₀ O) H₀ H:=⟨g.same,fun b aa=>(xe aa).trans (g.own b aa),g.bC⟩
theorem oT{r:R}{v:V}(aG:ew K mg O H r v)(aH:jr H₀ r v)(h:r.dat.run S=.ok d au):Rep K mg (aY.bW H₀ O) H d v/\S=au:=by
 cases r with
 |v d'=>cases h;exact⟨Rep.da (il _ _) aG,rfl⟩
 |fr xs=>
  cases h;obtain⟨a,ys,rfl,l,t,bh⟩:=aG;exact⟨⟨a,ys,rfl,⟨l,rP (aH a rfl) t⟩,a_.da (il _ _) bh⟩,rfl⟩
 |b1 xs=>cases h
 |mv xs=>cases h
theorem wX:∀{rs:List R}{vs:List V}{ds:List D}{S au:ck},f6 K mg O H rs vs->kf H₀ rs vs->(k3 rs).run S=.ok ds au->a_ K mg (aY.bW H₀ O) H ds vs/\S=au
 | [],vs,ds,S,au,aG,_,h=>by cases h;exact⟨aG,rfl⟩
 |r::rs,vs,ds,S,au,aG,aH,h=>by
  obtain⟨d,S1,ae,h⟩:=M.inv h;obtain⟨lK,bj,ag,h⟩:=M.inv h;cases h;obtain⟨v,D7,rfl,bu,b4⟩:=aG;obtain⟨ba,rfl⟩:=oT (H₀:=H₀) bu aH.1 ae;obtain⟨bU,rfl⟩:=wX b4 aH.2 ag;exact⟨⟨v,D7,rfl,ba,bU⟩,rfl⟩
end
@[simp] def bB(ms:cL)(σ:aO):M R:=do
 let rs <-ms σ
 let ds <-k3 rs
 hr (ds.length<=1000)
 pure (.v (.tup ds))
@[simp] def dS(ms:cL)(σ:aO):M R:=do
 let rs <-ms σ
 let ds <-k3 rs
 hr (ds.length<=1000)
 pure (.fr ds)
@[simp] def cC(f:List R->M R)(ms:cL)(σ:aO):M R:=do
 let rs <-ms σ
 f rs
def jo(K:aP)(mg:bk)(r:List V->av->cZ->Prop)(f:List R->M R):Prop:=
 ∀O σ S ak H xs rs bL au (Q:cZ),b_ K mg O σ S ak H->f6 K mg O H rs xs->(f rs).run S=.ok bL au->v9 K mg O σ au ak H bL Q->r xs H Q
section
variable{ms:cL}{r:List V->av->cZ->Prop}{f:List R->M R}
theorem GD(hf:jo K mg r f):∀ak H Q,e' K mg (cC f ms) ak H Q->DT r (mh K mg ms) ak H Q:=by
 rintro ak H Q ⟨O,σ,S,bL,au,st,h,q⟩;obtain⟨rs,S1,ae,h⟩:=M.inv h;refine⟨O,σ,S,rs,S1,st,ae,fun aK vs H1 g1 aU bo nn=>?_⟩;exact hf aK σ S1 ak H1 vs rs bL au Q aU bo h fun ai v H' g b3 aay Ys=>q ai v H' (g1.trans g) b3 aay (Ys.back g1.same)
end
def gX:List R->M R
 |[x]=>match x.seq with
  |some xs=>pure (.v (.int (xs.length:Nat)))|none=>bad
 |_=>bad
def tQ:List R->M R
 |[.v (.str z)]=>if z.length<=ahQ then pure (.v (.int (z.length:Nat)))else bad|_=>bad
def R.kind:R->Option String
 |.v .aW=>some "NoneType"|.v (.aA _)=>some "bool"|.v (.int _)=>some "int"|.v (.str _)=>some "str"|.v (.tup _)=>some "tuple"|.v (.lst _)=>some "list"|.fr _=>some "list"|.b1 _=>some "list"|.mv _=>some "list"|_=>none
def hs:List R->M R
 |[x,.v (.ty n)]=>match x.kind with
  |some t=>if n∈["int","bool","tuple","list","str"]then pure (.v (.aA (iM t n)))else bad|none=>bad
 |_=>bad
def tN(g:Int->Int->Int):List R->M R
 |[.v (.int i),.v (.int j)]=>pure (.v (.int (g i j)))|_=>bad
abbrev Hl:=tN fun i j=>if j > i then j else i
def tO:List R->M R
 |[.v (.int i)]=>pure (.v (.int (if i<0 then -i else i)))|_=>bad
def lD:List D->Option (List Bool)
 |[]=>some []|.aA b::r=>(lD r).map (b::·)|_=>none
def S9:List R->M R
 |[x]=>match x.eH.bind lD with
  |some bs=>pure (.v (.aA (bs.any id)))|none=>bad
 |_=>bad
def rK:List R->M R
 |[x]=>match x.eH.bind lD with
  |some bs=>pure (.v (.aA (bs.all id)))|none=>bad
 |_=>bad
def rL:List R->M R
 |[.v (.int i)]=>pure (.v (.int i))|[.v (.aA b)]=>pure (.v (.int (if b then 1 else 0)))|_=>bad
def lN:List R->M R
 |[x]=>match x.seq with
  |some xs=>pure (.v (.tup xs))|none=>bad
 |_=>bad
section
variable{K:aP}{mg:bk}
theorem kG{O:a3}{r:R}(h:f6 K mg O H [r] vs):∃v,vs=[v]/\ew K mg O H r v:=by
 obtain⟨v,bL,rfl,a,b⟩:=h;cases b;exact⟨v,rfl,a⟩
theorem Dx{O:a3}{r s:R}(h:f6 K mg O H [r,s] vs):∃v u,vs=[v,u]/\ew K mg O H r v/\ew K mg O H s u:=by
 obtain⟨v,bL,rfl,a,b⟩:=h;obtain⟨u,ahv,rfl,c,d⟩:=b;cases d;exact⟨v,u,rfl,a,c⟩
theorem WT:jo K mg (fun xs H Q=>∃p ys,xs=[.ref p]/\(c3 K H p ys\/dp K H p ys)/\Q (.int ys.length) H) gX:=fun O σ S ak H vs rs bL au Q st aG h q=>by
 unfold gX at h;split at h
 ·rename_i x
  obtain⟨v,rfl,ah⟩:=kG aG;split at h
  ·rename_i xs e
   cases h;obtain⟨a,ys,rfl,l,bh⟩:=R.yP ah e;exact⟨a,ys,rfl,l,by rw[bh.len];exact q O _ H (Go.refl _ _) st rfl trivial⟩
  ·cases h
 ·cases h
theorem WU:jo K mg (fun xs H Q=>∃z,xs=[.str z]/\z.length<=ahQ/\Q (.int z.length) H) tQ:=fun O σ S ak H vs rs bL au Q st aG h q=>by
 unfold tQ at h;split at h
 ·rename_i z
  obtain⟨v,rfl,ah⟩:=kG aG;cases(show v=.str z from ah)
  by_cases hz:z.length<=ahQ
  ·rw[if_pos hz]at h
   cases h;exact⟨z,rfl,hz,q O _ H (Go.refl _ _) st rfl trivial⟩
  ·rw[if_neg hz]at h;cases h
 ·cases h
theorem R.Je{O:a3}{H:av}{r:R}{v:V}{t:String}(h:ew K mg O H r v)(e:r.kind=some t):lB K H v t:=by
 unfold R.kind at e;split at e
 ·cases e;cases h;exact .aW
 ·cases e;cases h;exact .aA _
 ·cases e;cases h;exact .int _
 ·cases e;cases h;exact .str _
 ·cases e;obtain⟨a,ys,rfl,l,_⟩:=h;exact .tup l
 ·cases e;obtain⟨a,ys,rfl,l,_⟩:=h;exact .lst l.c9
 ·cases e;obtain⟨a,ys,rfl,l,_⟩:=h;exact .lst (c3.of l)
 ·cases e;obtain⟨a,ys,rfl,l,_⟩:=h;exact .lst l.c9
 ·cases e;obtain⟨a,ys,rfl,l,_⟩:=h;exact .lst (c3.of l)
 ·cases e
theorem WR:jo K mg (La K) hs:=fun O σ S ak H vs rs bL au Q st aG h q=>by
 unfold hs at h;split at h
 ·rename_i x n
  obtain⟨v,u,rfl,ah,a'⟩:=Dx aG;cases(show u=.ty n from a');split at h
  ·rename_i t e
   by_cases aH:n∈["int","bool","tuple","list","str"]
   ·rw[if_pos aH]at h
    cases h;exact⟨v,n,t,rfl,R.Je ah e,aH,q O _ H (Go.refl _ _) st rfl trivial⟩
   ·rw[if_neg aH]at h;cases h
  ·cases h
 ·cases h
theorem WK{g:Int->Int->Int}:jo K mg (fun xs H Q=>∃i j,xs=[.int i,.int j]/\Q (.int (g i j)) H) (tN g):=fun O σ S ak H vs rs bL au Q st aG h q=>by
 unfold tN at h;split at h
 ·rename_i i j
  obtain⟨v,u,rfl,ah,a'⟩:=Dx aG;cases(show v=.int i from ah);cases(show u=.int j from a');cases h;exact⟨i,j,rfl,q O _ H (Go.refl _ _) st rfl trivial⟩
 ·cases h
theorem WN:jo K mg (fun xs H Q=>∃i,xs=[.int i]/\Q (.int (if i<0 then -i else i)) H) tO:=fun O σ S ak H vs rs bL au Q st aG h q=>by
 unfold tO at h;split at h
 ·rename_i i
  obtain⟨v,rfl,ah⟩:=kG aG;cases(show v=.int i from ah);cases h;exact⟨i,rfl,q O _ H (Go.refl _ _) st rfl trivial⟩
 ·cases h
theorem Gw{O:a3}:∀{ds:List D}{ys:List V}{bs:List Bool},a_ K mg O H ds ys->lD ds=some bs->ys=bs.map V.aA
 | [],ys,bs,h,e=>by cases e;exact h
 |d::ds,ys,bs,h,e=>by
  cases d with
  |aA b=>
   have e:(lD ds).map (b::·)=some bs:=e;obtain⟨cs,aq,rfl⟩:=akp.mp e;obtain⟨y,r,rfl,ae,ag⟩:=h;rw[Gw ag aq,show y=.aA b from ae];rfl
  | _=>exact absurd (show(none:Option (List Bool))=some bs from e) (by intro z;cases z)
theorem WO:jo K mg (fun xs H Q=>∃(l:Addr)(bs:List Bool),xs=[.ref l]/\c3 K H l (bs.map V.aA)/\Q (.aA (bs.all id)) H) rK:=fun O σ S ak H vs rs bL au Q st aG h q=>by
 unfold rK at h;split at h
 ·rename_i x
  obtain⟨v,rfl,ah⟩:=kG aG;split at h
  ·rename_i xs e
   cases h;obtain⟨zs,aq,aD⟩:=ami.mp e;obtain⟨a,ys,rfl,l,bh⟩:=R.mY ah aq;rw[Gw bh aD]at l;exact⟨a,xs,rfl,l,q O _ H (Go.refl _ _) st rfl trivial⟩
  ·cases h
 ·cases h
theorem WQ:jo K mg (fun xs H Q=>(∃i,xs=[.int i]/\Q (.int i) H)\/∃k,xs=[.aA k]/\Q (.int (if k then 1 else 0)) H) rL:=fun O σ S ak H vs rs bL au Q st aG h q=>by
 unfold rL at h;split at h
 ·rename_i i
  obtain⟨v,rfl,ah⟩:=kG aG;cases(show v=.int i from ah);cases h;exact .inl ⟨i,rfl,q O _ H (Go.refl _ _) st rfl trivial⟩
 ·rename_i b
  obtain⟨v,rfl,ah⟩:=kG aG;cases(show v=.aA b from ah);cases h;exact .inr ⟨b,rfl,q O _ H (Go.refl _ _) st rfl trivial⟩
 ·cases h
theorem BU:jo K mg (fun xs H Q=>∃p ys,xs=[.ref p]/\((c3 K H p ys/\∀l,H l=none->Q (.ref l) (upd H l (.tup ys)))\/(dp K H p ys/\Q (.ref p) H))) lN:=fun O σ S ak H vs rs bL au Q st aG h q=>by
 unfold lN at h;split at h
 ·rename_i x
  obtain⟨v,rfl,ah⟩:=kG aG;split at h
  ·rename_i xs e
   cases h;obtain⟨a,ys,rfl,l,bh⟩:=R.yP ah e;refine⟨a,ys,rfl,?_⟩;rcases l with l | l
   ·exact .inl ⟨l,fun p aI=>q O _ _ (Go.eJ aI) (st.eJ aI) ⟨p,ys,rfl,dp.of de,bh.go (Go.eJ aI)⟩ trivial⟩
   ·exact .inr ⟨l,q O _ _ (Go.refl _ _) st ⟨a,ys,rfl,l,bh⟩ trivial⟩
  ·cases h
 ·cases h
end
def cutD{α:Type}(xs:List α)(lo ay:Option Int):List α:=(xs.drop (dE.cF xs.length 0 lo)).take (dE.cF xs.length xs.length ay-dE.cF xs.length 0 lo)
theorem a_.cut{O:a3}(h:a_ K mg O H ds xs)(lo ay:Option Int):a_ K mg O H (cutD ds lo ay) (oS xs lo ay):=by
 unfold cutD oS;rw[h.len];exact(h.drop _).take _
abbrev oH:=aO->M (Option Int)
def acU(K:aP)(mg:bk)(m:oH):dI:=fun ak H Q=>oL K mg m ak H fun O σ au b=>∀ai H',Go O ai H H'->b_ K mg ai σ au ak H'->Q b H'
abbrev N2(X:aQ)(e:Option Expr)(m:oH):Prop:=tj X e (acU X.K X.mg m)
def Ab:oH:=fun _=>pure none
@[simp] def wM(m:bl)(σ:aO):M (Option Int):=do
 let r <-m σ
 match r with
 |.v (.int i)=>pure (some i)|_=>bad
def qQ(x:R)(lo ay:Option Int):M R:=
 match x with
 |.v (.tup xs)=>if dE.cF xs.length 0 lo=0/\dE.cF xs.length xs.length ay=xs.length then bad else pure (.v (.tup (cutD xs lo ay)))|_=>match x.eH with
  |some xs=>pure (.fr (cutD xs lo ay))|none=>bad
@[simp] def Ac(a:bl)(lo ay:oH)(σ:aO):M R:=do
 let x <-a σ
 let l <-lo σ
 let h <-ay σ
 qQ x l h
def R.own:R->Option (List D)
 |.v (.lst xs)=>some xs|.fr xs=>some xs|.mv xs=>some xs|_=>none
def iv(x y:R):M R:=match x.own,y.own with
 |some xs,some ys=>if xs.length+ys.length<=ahQ then pure (.fr (xs++ys))else bad|_,_=>bad
def sr:R->R->M R
 |.v (.str x),.v (.str y)=>if x.length+y.length<=ahQ then pure (.v (.str (x++y)))else bad|_,_=>bad
theorem R.Dd{K:aP}{mg:bk}{O:a3}{H:av}{r:R}{v:V}{xs:List D}(h:ew K mg O H r v)(e:r.own=some xs):∃a ys,v=.ref a/\H a=some (.lst ys)/\a_ K mg O H xs ys:=by
 unfold R.own at e;split at e
 ·cases e;obtain⟨a,ys,q,l,r⟩:=h;exact⟨a,ys,q,l.1,r⟩
 ·cases e;obtain⟨a,ys,q,l,_,r⟩:=h;exact⟨a,ys,q,l,r⟩
 ·cases e;obtain⟨a,ys,q,l,r⟩:=h;exact⟨a,ys,q,l,r⟩
 ·cases e
section
variable{K:aP}{mg:bk}
theorem OJ:eb K mg K_ iv:=fun O σ S ak H x y a5 bt bL au Q st ah a' h q=>by
 unfold iv at h
 cases aq:a5.own with
 |none=>rw[aq]at h;cases h
 |some xs=>
  cases aD:bt.own with
  |none=>rw[aq,aD]at h;cases h
  |some ys=>
   rw[aq,aD]at h;dsimp only at h
   by_cases aj:xs.length+ys.length<=ahQ
   ·rw[if_pos aj]at h
    cases h;obtain⟨a,us,rfl,bP,bu⟩:=R.Dd ah aq;obtain⟨b,ws,rfl,ct,b4⟩:=R.Dd a' aD;refine⟨a,b,us,ws,rfl,rfl,bP,ct,by rw[bu.len,b4.len];exact aj,fun p aI=>q (fC O p .di) _ _ (Go.new aI) (st.new aI) ⟨p,_,rfl,de,nk,(bu.append b4).go (Go.new aI)⟩ fun b cJ=>?_⟩;cases cJ;exact aI
   ·rw[if_neg aj]at h;cases h
theorem OK:eb K mg (fun x y H Q=>∃i j,x=.str i/\y=.str j/\i.length+j.length<=ahQ/\Q (.str (i++j)) H) sr:=fun O σ S ak H x y a5 bt bL au Q st ah a' h q=>by
 unfold sr at h;split at h
 ·rename_i i j
  by_cases aj:i.length+j.length<=ahQ
  ·rw[if_pos aj]at h
   cases h;exact⟨i,j,ah,a',aj,q O _ H (Go.refl _ _) st rfl trivial⟩
  ·rw[if_neg aj]at h;cases h
 ·cases h
end
def D.py:D->PyData
 |.aW=>.none|.aA b=>.bool b|.int i=>.int i|.str x=>.str x|.tup xs=>.tuple (lh xs)|.lst xs=>.list (lh xs)|.ref _=>.none|.fn _=>.none|.ty _=>.none
where lh:List D->List PyData
 |[]=>[]
 |x::xs=>x.py::lh xs
mutual
def D.bO:D->Nat->Bool
 |.aW,_=>true|.aA _,_=>true|.int _,_=>true|.str x,_=>ah9 x|.tup xs,n=>match n with
  |0=>false|k+1=>ip xs k
 |.lst xs,n=>match n with
  |0=>false|k+1=>ip xs k
 |.ref _,_=>false|.fn _,_=>false|.ty _,_=>false
def ip:List D->Nat->Bool
 |[],_=>true|x::xs,n=>x.bO n&&ip xs n
end
mutual
def jc:D->D->Bool
 |.aW,b=>match b with | .aW=>true | _=>false
 |.aA a,b=>match b with | .aA c=>a==c | .int j=>(if a then 1 else 0)==j | _=>false
 |.int i,b=>match b with | .aA c=>i==(if c then 1 else 0) | .int j=>i==j | _=>false
 |.str x,b=>match b with | .str y=>x==y | _=>false
 |.tup xs,b=>match b with | .tup ys=>qR xs ys | _=>false
 |.lst xs,b=>match b with | .lst ys=>qR xs ys | _=>false
 |.ref _,_=>false|.fn _,_=>false|.ty _,_=>false
def qR:List D->List D->Bool
 |[],ys=>match ys with | []=>true | _=>false
 |x::xs,ys=>match ys with | []=>false | y::r=>jc x y&&qR xs r
end
mutual
theorem AK:∀(a b:D)(n m:Nat),a.bO n=true->b.bO m=true->amB a.py b.py=jc a b
 | .aW,b,n,m,ao,aa=>by cases b<;>first | rfl | (simp[D.bO]at aa)
 | .aA _,b,n,m,ao,aa=>by cases b<;>first | rfl | (simp[D.bO]at aa)
 | .int _,b,n,m,ao,aa=>by cases b<;>first | rfl | (simp[D.bO]at aa)
 | .str _,b,n,m,ao,aa=>by cases b<;>first | rfl | (simp[D.bO]at aa)
 |.tup xs,b,n,m,ao,aa=>by
  cases b with
  |tup ys=>
   cases n with
   |zero=>simp[D.bO]at ao|succ k=>
    cases m with
    |zero=>simp[D.bO]at aa|succ j=>exact AL xs ys k j ao aa
  |ref _=>simp[D.bO]at aa|fn _=>simp[D.bO]at aa|ty _=>simp[D.bO]at aa|_=>rfl
 |.lst xs,b,n,m,ao,aa=>by
  cases b with
  |lst ys=>
   cases n with
   |zero=>simp[D.bO]at ao|succ k=>
    cases m with
    |zero=>simp[D.bO]at aa|succ j=>exact AL xs ys k j ao aa
  |ref _=>simp[D.bO]at aa|fn _=>simp[D.bO]at aa|ty _=>simp[D.bO]at aa|_=>rfl
 | .ref _,b,n,m,ao,aa=>by simp[D.bO]at ao| .fn _,b,n,m,ao,aa=>by simp[D.bO]at ao| .ty _,b,n,m,ao,aa=>by simp[D.bO]at ao
theorem AL:∀(xs ys:List D)(n m:Nat),ip xs n=true->ip ys m=true->PyData.eqvAll (D.py.lh xs) (D.py.lh ys)=qR xs ys
 | [],ys,n,m,ao,aa=>by cases ys<;>rfl
 |x::xs,ys,n,m,ao,aa=>by
  cases ys with
  |nil=>rfl|cons y r=>
   rw[ip,aix]at ao aa;show(amB x.py y.py&&PyData.eqvAll (D.py.lh xs) (D.py.lh r))=(jc x y&&qR xs r);rw[AK x y n m ao.1 aa.1,AL xs r n m ao.2 aa.2]
end
mutual
theorem HC:∀(a:D)(n:Nat),a.bO n=true->a.py.canLay0=true/\a.py.depth<=n
 |.aW,n,h=>⟨rfl,aib _⟩
 |.aA _,n,h=>⟨rfl,aib _⟩
 |.int _,n,h=>⟨rfl,aib _⟩
 |.str _,n,h=>⟨h,aib _⟩
 |.tup xs,n,h=>by
  cases n with
  |zero=>simp[D.bO]at h|succ k=>obtain⟨ba,bU⟩:=A8 xs k h;exact⟨ba,Nat.succ_le_succ bU⟩
 |.lst xs,n,h=>by
  cases n with
  |zero=>simp[D.bO]at h|succ k=>obtain⟨ba,bU⟩:=A8 xs k h;exact⟨ba,Nat.succ_le_succ bU⟩
 | .ref _,n,h=>by simp[D.bO]at h| .fn _,n,h=>by simp[D.bO]at h| .ty _,n,h=>by simp[D.bO]at h
theorem A8:∀(xs:List D)(n:Nat),ip xs n=true->PyData.canLayAll0 (D.py.lh xs)=true/\PyData.depthAll (D.py.lh xs)<=n
 |[],n,h=>⟨rfl,aib _⟩
 |x::xs,n,h=>by
  rw[ip,aix]at h;obtain⟨a1,a2⟩:=HC x n h.1;obtain⟨bX,bY⟩:=A8 xs n h.2;exact⟨by show(x.py.canLay0&&PyData.canLayAll0 (D.py.lh xs))=true;rw[a1,bX];rfl,by show max x.py.depth (PyData.depthAll (D.py.lh xs))<=n;omega⟩
end
theorem xg{a:D}(h:a.bO 64=true):amO a.py=true:=by
 obtain⟨ae,ag⟩:=HC a 64 h;show(a.py.canLay0&&decide (a.py.depth<=64))=true;rw[ae,decide_eq_true ag];rfl
mutual
theorem Rep.py{O:a3}:∀{d:D}{v:V}{n:Nat},d.bO n=true->Rep K mg O H d v->aF.Rep K H d.py v
 |.aW,_,_,_,h=>h|.aA _,_,_,_,h=>h|.int _,_,_,_,h=>h|.str _,_,_,_,h=>h|.tup _,_,n,g,h=>by
  cases n with
  |zero=>simp[D.bO]at g|succ k=>obtain⟨a,ys,q,l,r⟩:=h;exact⟨a,ys,q,l,a_.py (n:=k) g r⟩
 |.lst _,_,n,g,h=>by
  cases n with
  |zero=>simp[D.bO]at g|succ k=>obtain⟨a,ys,q,l,r⟩:=h;exact⟨a,ys,q,l.c9,a_.py (n:=k) g r⟩
 | .ref _,_,_,g,h=>by simp[D.bO]at g| .fn _,_,_,g,h=>by simp[D.bO]at g| .ty _,_,_,g,h=>by simp[D.bO]at g
theorem a_.py{O:a3}:∀{ds:List D}{ys:List V}{n:Nat},ip ds n=true->a_ K mg O H ds ys->aF.a_ K H (D.py.lh ds) ys
 |[],_,_,_,h=>h|_::_,_,n,g,h=>by
  rw[ip,aix]at g;obtain⟨x,r,q,a,b⟩:=h;exact⟨x,r,q,Rep.py g.1 a,a_.py g.2 b⟩
end
def R.arg:R->D
 |.v d=>d|.fr xs=>.lst xs|.b1 xs=>.lst xs|.mv xs=>.lst xs
theorem R.wj{K:aP}{mg:bk}{O:a3}{H:av}{r:R}{v:V}{n:Nat}(g:r.arg.bO n=true)(h:ew K mg O H r v):aF.Rep K H r.arg.py v:=by
 have eH:∀xs,r.eH=some xs->(D.lst xs).bO n=true->aF.Rep K H (D.lst xs).py v:=fun xs e g=>by
  obtain⟨a,ys,q,l,bh⟩:=R.mY h e
  cases n with
  |zero=>simp[D.bO]at g|succ k=>exact⟨a,ys,q,l,a_.py (n:=k) g bh⟩
 cases r with
 |v d=>exact Rep.py g h|fr xs=>exact eH xs rfl g|b1 xs=>exact eH xs rfl g|mv xs=>exact eH xs rfl g
def oEq(x y:R):M R:=if x.arg.bO 64=true/\y.arg.bO 64=true then pure (.v (.aA (jc x.arg y.arg)))else bad
def ez(x y:R):M R:=if x.arg.bO 64=true/\y.arg.bO 64=true then pure (.v (.aA (!jc x.arg y.arg)))else bad
section
variable{K:aP}{mg:bk}
theorem zP:eb K mg (yL K false) oEq:=fun O σ S ak H x y a5 bt bL au Q st ah a' h q=>by
 unfold oEq at h
 by_cases c:a5.arg.bO 64=true/\bt.arg.bO 64=true
 ·rw[if_pos c]at h
  cases h;refine⟨_,_,R.wj c.1 ah,R.wj c.2 a',xg c.1,xg c.2,?_⟩;rw[if_neg ahV,AK _ _ _ _ c.1 c.2];exact q O _ H (Go.refl _ _) st rfl trivial
 ·rw[if_neg c]at h;cases h
theorem wq:eb K mg (yL K true) ez:=fun O σ S ak H x y a5 bt bL au Q st ah a' h q=>by
 unfold ez at h
 by_cases c:a5.arg.bO 64=true/\bt.arg.bO 64=true
 ·rw[if_pos c]at h
  cases h;refine⟨_,_,R.wj c.1 ah,R.wj c.2 a',xg c.1,xg c.2,?_⟩;rw[if_pos rfl,AK _ _ _ _ c.1 c.2];exact q O _ H (Go.refl _ _) st rfl trivial
 ·rw[if_neg c]at h;cases h
end
def R.kB:R->Bool
 |.v .aW=>true|_=>false
def kE(x:R):R->M R
 |.v .aW=>pure (.v (.aA x.kB))|_=>bad
def la(x:R):R->M R
 |.v .aW=>pure (.v (.aA (!x.kB)))|_=>bad
section
variable{K:aP}{mg:bk}
theorem IP{O:a3}{r:R}{v:V}(h:ew K mg O H r v):decide (v=.aW)=r.kB:=by
 have no:∀{a:Addr},v=.ref a->decide (v=.aW)=false:=fun{a} e=>by rw[e];exact decide_eq_false (by intro z;cases z)
 cases r with
 |v d=>
  cases d with
  |aW=>exact decide_eq_true h|aA _=>rw[show v=_ from h];rfl|int _=>rw[show v=_ from h];rfl|str _=>rw[show v=_ from h];rfl|ty _=>rw[show v=_ from h];rfl|tup _=>obtain⟨a,_,e,_⟩:=h;exact no e
  |lst _=>obtain⟨a,_,e,_⟩:=h;exact no e
  |ref _=>obtain⟨a,e,_⟩:=h;exact no e
  |fn _=>obtain⟨a,e,_⟩:=h;exact no e
 |fr _=>obtain⟨a,_,e,_⟩:=h;exact no e
 |b1 _=>obtain⟨a,_,e,_⟩:=h;exact no e
 |mv _=>obtain⟨a,_,e,_⟩:=h;exact no e
theorem E1:eb K mg (fun x y H Q=>y=.aW/\Q (.aA (decide (x=.aW))) H) kE:=fun O σ S ak H x y a5 bt bL au Q st ah a' h q=>by
 unfold kE at h;split at h
 ·cases h;exact⟨a',by rw[IP ah];exact q O _ H (Go.refl _ _) st rfl trivial⟩
 ·cases h
theorem E3:eb K mg (fun x y H Q=>y=.aW/\Q (.aA (!decide (x=.aW))) H) la:=fun O σ S ak H x y a5 bt bL au Q st ah a' h q=>by
 unfold la at h;split at h
 ·cases h;exact⟨a',by rw[IP ah];exact q O _ H (Go.refl _ _) st rfl trivial⟩
 ·cases h
end
def D.flat:D->Bool
 |.aW=>true|.aA _=>true|.int _=>true|.str _=>true|_=>false
def inD(x:D)(xs:List D):Bool:=xs.any fun y=>jc y x
def jb(neg:Bool)(x y:R):M R:=match x,y.seq with
 |.v d,some xs=>if d.flat=true/\xs.all D.flat=true then pure (.v (.aA (if neg then !inD d xs else inD d xs)))else bad|_,_=>bad
section
variable{K:aP}{mg:bk}
theorem Hp{O:a3}{d:D}{v:V}(h:Rep K mg O H d v)(f:d.flat=true):mN v=true:=by
 cases d with
 |aW=>rw[show v=_ from h];rfl|aA _=>rw[show v=_ from h];rfl|int _=>rw[show v=_ from h];rfl|str _=>rw[show v=_ from h];rfl|_=>exact absurd (show false=true from f) ahV
theorem SV{O:a3}{d e:D}{v u:V}(h:Rep K mg O H d v)(h':Rep K mg O H e u)(f:d.flat=true)(qb:e.flat=true):mL v u=jc d e:=by
 cases d with
 |aW=>
  rw[show v=_ from h]
  cases e with
  |aW=>rw[show u=_ from h'];rfl|aA _=>rw[show u=_ from h'];rfl|int _=>rw[show u=_ from h'];rfl|str _=>rw[show u=_ from h'];rfl|_=>exact absurd (show false=true from qb) ahV
 |aA _=>
  rw[show v=_ from h]
  cases e with
  |aW=>rw[show u=_ from h'];rfl|aA _=>rw[show u=_ from h'];rfl|int _=>rw[show u=_ from h'];rfl|str _=>rw[show u=_ from h'];rfl|_=>exact absurd (show false=true from qb) ahV
 |int _=>
  rw[show v=_ from h]
  cases e with
  |aW=>rw[show u=_ from h'];rfl|aA _=>rw[show u=_ from h'];rfl|int _=>rw[show u=_ from h'];rfl|str _=>rw[show u=_ from h'];rfl|_=>exact absurd (show false=true from qb) ahV
 |str _=>
  rw[show v=_ from h]
  cases e with
  |aW=>rw[show u=_ from h'];rfl|aA _=>rw[show u=_ from h'];rfl|int _=>rw[show u=_ from h'];rfl|str _=>rw[show u=_ from h'];rfl|_=>exact absurd (show false=true from qb) ahV
 |_=>exact absurd (show false=true from f) ahV
theorem IH{O:a3}{d:D}{v:V}(h:Rep K mg O H d v)(f:d.flat=true):∀{ds:List D}{ys:List V},a_ K mg O H ds ys->ds.all D.flat=true->ys.all mN=true/\BL v ys=inD d ds
 | [],ys,r,_=>by cases r;exact⟨rfl,rfl⟩
 |e::ds,ys,r,g=>by
  obtain⟨y,t,rfl,bu,b4⟩:=r;rw[akD,aix]at g;obtain⟨ba,bU⟩:=IH h f b4 g.2;refine⟨by rw[akD,Hp bu g.1,ba];rfl,?_⟩;show(y::t).any (fun z=>mL z v)=(e::ds).any fun z=>jc z d
  rw[ajs,ajs,SV bu h g.1 f];exact congrArg _ bU
theorem zQ(neg:Bool):eb K mg (Dt K neg) (jb neg):=fun O σ S ak H x y a5 bt bL au Q st ah a' h q=>by
 unfold jb at h;split at h
 ·rename_i d xs e
  by_cases c:d.flat=true/\xs.all D.flat=true
  ·rw[if_pos c]at h
   cases h;obtain⟨a,ys,rfl,l,bh⟩:=R.yP a' e;obtain⟨f1,f2⟩:=IH ah c.1 bh c.2;exact⟨a,ys,rfl,l,Hp ah c.1,f1,by rw[f2];exact q O _ H (Go.refl _ _) st rfl trivial⟩
  ·rw[if_neg c]at h;cases h
 ·cases h
end
inductive fm where
 |bq (σ:aO) | cS (r:R) | eP (σ:aO) | b' (σ:aO)
abbrev a0:=aO->M fm
def Fix(o:gx):Prop:=(∃xs,o=.tup xs)\/∃bA u,o=.bW bA u
structure dP(O ai:a3)(H H':av):Prop where
 cells:∀b o,H b=some o->(O b=.free\/O b=.out\/Fix o)->(h:n6 o:=by exact trivial)->H' b=some o
 own:∀b,H b≠none->(O b=.free\/O b=.out)->ai b=O b
 has:∀b,H b≠none->H' b≠none
 cU:∀b ps,H b=some (.f5 ps)->∃kF,H' b=some (.f5 kF)
 bO:TabsOk H->TabsOk H'
 bC:ai.bC=O.bC
theorem Go.aB{O ai:a3}(g:Go O ai H H'):dP O ai H H':=⟨fun b o e _ n=>g.same.at' b o e n,fun b h _=>g.own b h,fun _ h=>g.same.some h,g.same.cU,g.same.bO,g.bC⟩
theorem dP.refl(O:a3)(H:av):dP O O H H:=(Go.refl O H).aB
theorem dP.trans{O aK bf:a3}(a:dP O aK H H1)(b:dP aK bf H1 aJ):dP O bf H aJ:=by
 have MB:∀{b:Addr}{o:gx},H b=some o->H b≠none:=fun e z=>by rw[e]at z;cases z
 refine⟨fun c o e h n=>?_,fun c h f=>?_,fun c h=>b.has c (a.has c h),fun c ps h=>let⟨p1,aq⟩:=a.cU c ps h;b.cU c p1 aq,fun g=>b.bO (a.bO g),b.bC.trans a.bC⟩
 ·have aq:=a.cells c o e h n
  rcases h with h | h | h
  ·exact b.cells c o aq (.inl ((a.own c (MB e) (.inl h)).trans h)) n
  ·exact b.cells c o aq (.inr (.inl ((a.own c (MB e) (.inr h)).trans h))) n
  ·exact b.cells c o aq (.inr (.inr h)) n
 ·have aq:=a.own c h f
  rw[b.own c (a.has c h) (by rw[aq];exact f),aq]
def ek(σ σ':aO)(ak cD:St):Prop:=(∀(i:Nat)(xs:List D),σ'[i]? = some (Slot.b1 xs)->σ[i]? = some (Slot.b1 xs)/\cD[i]? = ak[i]?)/\
 (∀(i:Nat)(ys:List D),σ'[i]? = some (Slot.dZ true ys)->(∃xs,σ[i]? = some (Slot.dZ true xs))/\cD[i]? = ak[i]?)
theorem ek.refl(σ:aO)(ak:St):ek σ σ ak ak:=⟨fun _ _ h=>⟨h,rfl⟩,fun _ _ h=>⟨⟨_,h⟩,rfl⟩⟩
theorem ek.trans{v v1 v2:St}(a:ek σ hJ v v1)(b:ek hJ c6 v1 v2):ek σ c6 v v2:=⟨fun i xs h=>⟨(a.1 i xs (b.1 i xs h).1).1,(b.1 i xs h).2.trans (a.1 i xs (b.1 i xs h).1).2⟩,fun i ys h=>by
 obtain⟨⟨xs,e⟩,q⟩:=b.2 i ys h;obtain⟨z,eA⟩:=a.2 i xs e;exact⟨z,q.trans eA⟩⟩
theorem ek.put{σ:aO}(h0:σ[i]? = some s0)(bz:∀xs,s≠.b1 xs)(bc:∀xs,s=.dZ true xs->∃ys,s0=.dZ true ys):ek σ (σ.set i s) ak ak:=by
 have e_:i<σ.length:=(ahN.mp h0).1;have key:∀(j:Nat)(t:Slot),(σ.set i s)[j]? = some t->(i=j/\t=s)\/(i≠j/\σ[j]? = some t):=fun j t h=>by
  by_cases aZ:i=j
  ·subst aZ
   rw[aiJ e_]at h;exact .inl ⟨rfl,(aih h).symm⟩
  ·rw[ahZ aZ]at h
   exact .inr ⟨aZ,h⟩
 refine⟨fun j xs h=>?_,fun j ys h=>?_⟩
 ·rcases key j _ h with⟨_,e⟩ | ⟨_,e⟩
  ·exact absurd e.symm (bz xs)
  ·exact⟨e,rfl⟩
 ·rcases key j _ h with⟨rfl,e⟩ | ⟨_,e⟩
  ·obtain⟨zs,cf⟩:=bc ys e.symm
   exact⟨⟨zs,cf▸h0⟩,rfl⟩
  ·exact⟨⟨_,e⟩,rfl⟩
def zC(K:aP)(mg:bk)(O:a3)(H:av):R->V->Prop
 |.v d,v=>Rep K mg O H d v|.fr xs,v=>∃a ys,v=.ref a/\H a=some (.lst ys)/\(O a=.di\/∃i,O a=.loc i)/\a_ K mg O H xs ys|_,_=>False
def nA(K:aP)(mg:bk)(O:a3)(σ:aO)(au:ck)(ak:St)(H:av)(σ':aO)(N:St->av->Prop):Prop:=
 ∀ai cD H',dP O ai H H'->b_ K mg ai σ' au cD H'->ek σ σ' ak cD->N cD H'
def v_(K:aP)(mg:bk)(O:a3)(σ:aO)(au:ck)(ak:St)(H:av)(a7:fm)(ho:Ends):Prop:=match a7 with
 |.bq σ'=>nA K mg O σ au ak H σ' ho.bq|.eP σ'=>nA K mg O σ au ak H σ' ho.eP|.b' σ'=>nA K mg O σ au ak H σ' ho.b'|.cS r=>∀ai v H',dP O ai H H'->cV ai H'->f9 K mg ai H' au->zC K mg ai H' r v->ho.cS v H'
theorem nA.aB{O aK:a3}{N:St->av->Prop}(h:nA K mg O σ au ak H σ' N)(g:dP O aK H H1)(k:ek σ hJ ak vQ):nA K mg aK hJ au vQ H1 σ' N:=
 fun ai cD H' g' st l2=>h ai cD H' (g.trans g') st (k.trans l2)
theorem v_.aB{O aK:a3}(h:v_ K mg O σ au ak H a7 ho)(g:dP O aK H H1)(k:ek σ hJ ak vQ):v_ K mg aK hJ au vQ H1 a7 ho:=by
 cases a7 with
 |bq σ'=>exact nA.aB h g k|eP σ'=>exact nA.aB h g k|b' σ'=>exact nA.aB h g k|cS r=>exact fun ai v H' g' d e r=>h ai v H' (g.trans g') d e r
def jj(K:aP)(mg:bk)(m:a0):gT:=fun ho ak H=>oL K mg m ak H fun O σ au a7=>v_ K mg O σ au ak H a7 ho
abbrev zt(X:aQ)(st:Stmt)(m:a0):Prop:=iB X st (jj X.K X.mg m)
abbrev pR(X:aQ)(sL:List Stmt)(m:a0):Prop:=iC X sL (jj X.K X.mg m)
theorem gh{t t':gT}(h:iB X s t)(i:∀D σ H,t' D σ H->t D σ H):iB X s t':=fun pinZ s σ H D I q=>h pinZ s σ H D I (i _ _ _ q)
theorem yH{t t':gT}(h:iC X s t)(i:∀D σ H,t' D σ H->t D σ H):iC X s t':=fun pinZ s σ H D I q=>h pinZ s σ H D I (i _ _ _ q)
@[simp] def cH(σ:aO):M fm:=pure (.bq σ)
def tE:a0:=fun _=>bad
@[simp] def bZ(a b:a0)(σ:aO):M fm:=do
 let a7 <-a σ
 match a7 with
 |.bq σ'=>b σ'|a7=>pure a7
@[simp] def bE(m:bl)(σ:aO):M fm:=do
 let r <-m σ
 match r with
 |.v d=>pure (.cS (.v d))|.fr xs=>pure (.cS (.fr xs))|_=>bad
@[simp] def wN(i:Nat)(σ:aO):M fm:=match σ[i]? with
 |some (.dZ false xs)=>pure (.cS (.fr xs))|_=>bad
@[simp] def c4(t:aO->M Bool)(a b:a0)(σ:aO):M fm:=do
 let t <-t σ
 if t=true then a σ else b σ
@[simp] def cg(i:Nat)(m:bl)(σ:aO):M fm:=do
 let r <-m σ
 let d <-r.dat
 pure (.bq (σ.set i (.val d)))
@[simp] def jz(i:Nat)(m:bl)(σ:aO):M fm:=do
 let r <-m σ
 match r with
 |.fr xs=>pure (.bq (σ.set i (.dZ false xs)))|_=>bad
section
variable{st:Stmt}{a b:a0}{e:Expr}{m:bl}
theorem Lm{O:a3}{r:R}{v:V}(h:ew K mg O H r v)(aG:(∃d,r=.v d)\/∃xs,r=.fr xs):zC K mg O H r v:=by
 rcases aG with⟨d,rfl⟩ | ⟨xs,rfl⟩
 ·exact h
 ·obtain⟨a,ys,q,l,t,bh⟩:=h;exact⟨a,ys,q,l,.inl t,bh⟩
theorem b_.set{O:a3}{σ:aO}{ak:St}{v:V}(st:b_ K mg O σ S ak H)(h:jt K mg O H (.loc i) s (some v)):b_ K mg O (σ.set i s) S (ak.set i (some v)) H:=by
 refine⟨st.b7,by rw[aiu,aiu];exact st.len,fun j t e=>?_,st.gM⟩
 by_cases aZ:i=j
 ·subst aZ
  have aj:i<σ.length:=by
   have:=(ahN.mp e).1
   rwa[aiu]at this
  rw[aiJ aj]at e;cases e;rw[aiJ (by rw[<-st.len];exact aj)];exact h
 ·rw[ahZ aZ]at e
  rw[ahZ aZ];exact st.loc j t e
theorem ek.set{σ:aO}{ak:St}{v:Option V}(aC:∀xs,s≠.b1 xs)(bG:∀xs,s≠.dZ true xs:=by intro xs z;cases z):ek σ (σ.set i s) ak (ak.set i v):=by
 have key:∀(j:Nat)(t:Slot),(σ.set i s)[j]? = some t->t≠s->σ[j]? = some t/\(ak.set i v)[j]? = ak[j]?:=fun j t h gG=>by
  by_cases aZ:i=j
  ·subst aZ
   have aj:i<σ.length:=by
    have:=(ahN.mp h).1
    rwa[aiu]at this
   rw[aiJ aj]at h;exact absurd (aih h).symm gG
  ·rw[ahZ aZ]at h ⊢
   exact⟨h,rfl⟩
 refine⟨fun j xs h=>key j _ h (fun z=>aC xs z.symm),fun j ys h=>?_⟩;obtain⟨a,b⟩:=key j _ h (fun z=>bG ys z.symm);exact⟨⟨ys,a⟩,b⟩
theorem b_.own{K:aP}{mg:bk}{O:a3}{σ:aO}{S:ck}{ak:St}{H:av}{i:Nat}{a:Addr}{xs:List D}{ys:List V}(st:b_ K mg O σ S ak H)(bG:O a=.di)(aj:H a=some (.lst ys))(aG:a_ K mg O H xs ys) :
  b_ K mg (fC O a (.loc i)) (σ.set i (.dZ false xs)) S (ak.set i (some (.ref a))) H:=by
 have ne:∀{b:Addr}{w:Own},O b=w->w≠.di->fC O a (.loc i) b=w:=fun{b w} h hw=>by
  rw[ot];exact h;rintro rfl;exact hw (h.symm.trans bG)
 have da:mz O (fC O a (.loc i)):=⟨fun b h=>ne h (by intro z;cases z),rfl⟩;have aU:b_ K mg (fC O a (.loc i)) σ S ak H:=by
  refine⟨⟨fun b aa=>?_,st.b7.tabs,st.b7.b8.1,fun b m=>ne (st.b7.b8.2 b m) (by intro z;cases z)⟩,st.len,fun j s e=>(st.loc j s e).da da (fun b h=>ne h (by intro z;cases z)) (fun b h=>ne h (by intro z;cases z)),st.gM.all (fun _ _ z=>Rep.da da z) rfl fun _ _ _ l _=>l⟩
  by_cases e:b=a
  ·rw[e,aj];intro z;cases z
  ·rw[ot e]at aa;exact st.b7.has b aa
 exact aU.set ⟨a,ys,rfl,nk,aj,aG.da da⟩
theorem dP.di{O:a3}{H:av}{a:Addr}{w:Own}(bG:O a=.di):dP O (fC O a w) H H:=by
 refine⟨fun b o e _ _=>e,fun b h f=>?_,fun _ h=>h,fun _ ps h=>⟨ps,h⟩,id,rfl⟩;rw[ot];rintro rfl;rw[bG]at f;rcases f with z | z<;>cases z
theorem Mw{te:TE}(ay:∀σ H Q,e' K mg m σ H Q->te σ H Q):∀D ak H,jj K mg (cg i m) D ak H->sM te (k4 i) D ak H:=by
 rintro D ak H ⟨O,σ,S,a7,au,st,h,q⟩;obtain⟨r,S1,ae,h⟩:=M.inv h;obtain⟨d,bj,ag,h⟩:=M.inv h;cases h;refine ay ak H _ ⟨O,σ,S,r,S1,st,ae,fun aK v H1 g1 aU bo nn=>?_⟩;obtain⟨cW,rfl⟩:=oT (H₀:=H) bo nn ag;exact q (bW H aK) _ H1 g1.bW.aB ((aU.bW H).set ⟨v,rfl,cW⟩) (ek.set fun xs z=>by cases z)
theorem KH{te:TE}(ay:∀σ H Q,e' K mg m σ H Q->te σ H Q):∀D ak H,jj K mg (jz i m) D ak H->sM te (k4 i) D ak H:=by
 rintro D ak H ⟨O,σ,S,a7,au,st,h,q⟩;obtain⟨r,S1,ae,h⟩:=M.inv h;split at h
 ·rename_i xs
  cases h;refine ay ak H _ ⟨O,σ,S,_,_,st,ae,fun aK v H1 g1 aU bo nn=>?_⟩;obtain⟨a,ys,rfl,l,t,bh⟩:=bo;exact q _ _ H1 (g1.aB.trans (dP.di t)) (aU.own t l bh) (ek.set fun xs z=>by cases z)
 ·cases h
end
@[simp] def GF(i:Nat)(f:List D->List R->M (R×List D))(ms:cL)(σ:aO):M (R×aO):=do
 let rs <-ms σ
 match σ[i]? with
 |some (.dZ p xs)=>do
  let(r,ys) <-f xs rs
  pure (r,σ.set i (.dZ p ys))
 |_=>bad
@[simp] def ki(i:Nat)(f:List D->List R->M (R×List D))(ms:cL)(σ:aO):M fm:=do
 let(_,σ') <-GF i f ms σ
 pure (.bq σ')
def h9(xs:List D):List R->M (R×List D)
 |[r]=>do
  let d <-r.dat
  hr (xs.length<ahQ)
  pure (.v .aW,xs++[d])
 |_=>bad
def vC(xs:List D):List R->M (R×List D)
 |[r]=>match r.own with
  |some ys=>do
   hr (xs.length+ys.length<=ahQ)
   pure (.v .aW,xs++ys)
  |none=>bad
 |_=>bad
section
variable{K:aP}{mg:bk}{O:a3}{H:av}{l:Addr}{zs ws:List V}
mutual
theorem Rep.d1(bc:O l≠.free)(aj:H l=some (.lst zs)):∀{d:D}{v:V},Rep K mg O H d v->Rep K mg O (upd H l (.lst ws)) d v
 |.aW,_,h=>h|.aA _,_,h=>h|.int _,_,h=>h|.str _,_,h=>h|.tup _,_,h=>by
  obtain⟨a,ys,q,t,r⟩:=h;refine⟨a,ys,q,?_,a_.d1 bc aj r⟩;rcases t with(t | ⟨o,t⟩) | t
  ·exact .inl (.inl (by rw[cX (CK t aj (by intro z;cases z))];exact t))
  ·exact .inl (.inr ⟨o,by rw[cX (CK t aj (by intro z;cases z))];exact t⟩)
  ·exact .inr t
 |.lst _,_,h=>by
  obtain⟨a,ys,q,t,r⟩:=h;exact⟨a,ys,q,⟨by rw[cX (by rintro rfl;exact bc t.2)];exact t.1,t.2⟩,a_.d1 bc aj r⟩
 |.ref _,_,h=>h|.fn _,_,h=>h|.ty _,_,h=>h
theorem a_.d1(bc:O l≠.free)(aj:H l=some (.lst zs)):∀{ds:List D}{ys:List V},a_ K mg O H ds ys->a_ K mg O (upd H l (.lst ws)) ds ys
 |[],_,h=>h| _::_,_,h=>by obtain⟨x,r,q,a,b⟩:=h;exact⟨x,r,q,Rep.d1 bc aj a,a_.d1 bc aj b⟩
end
theorem hO.d1(bc:O l≠.free)(hZ:O l≠.out)(h:hO K O H a ys):hO K O (upd H l (.lst ws)) a ys:=by
 rcases h with⟨h,f⟩ | h
 ·have ne:a≠l:=by rintro rfl;exact f.elim bc hZ
  refine .inl ⟨?_,f⟩;rcases h with h | ⟨o,h⟩
  ·exact .inl (by rw[cX ne];exact h)
  ·exact .inr ⟨o,by rw[cX ne];exact h⟩
 ·exact .inr h
theorem jt.d1(bc:O l≠.free)(hZ:O l≠.out)(hw:O l≠w)(aj:H l=some (.lst zs)):∀{s:Slot}{u:Option V},jt K mg O H w s u->jt K mg O (upd H l (.lst ws)) w s u
 |.emp,_,_=>trivial| .val _,_,h=>by obtain⟨v,q,r⟩:=h;exact⟨v,q,r.d1 bc aj⟩
 | .dZ _ _,_,h=>by obtain⟨a,ys,q,o,t,r⟩:=h;exact⟨a,ys,q,o,by rw[cX (by rintro rfl;exact hw o)];exact t,r.d1 bc aj⟩
 | .b1 _,_,h=>by obtain⟨a,ys,q,t,r⟩:=h;exact⟨a,ys,q,t.d1 bc hZ,r.d1 bc aj⟩
theorem cV.d1(d:cV O H)(aj:H l=some (.lst zs)):cV O (upd H l (.lst ws)):=⟨fun a ao=>by
 by_cases e:a=l
 ·rw[e,de];intro z;cases z
 ·rw[cX e];exact d.has a ao,d.tabs.lst aj _,d.b8⟩
theorem dP.d1(bc:O l≠.free)(hZ:O l≠.out)(aj:H l=some (.lst zs)):dP O O H (upd H l (.lst ws)):=by
 refine⟨fun b o e h _=>?_,fun _ _ _=>rfl,fun b h=>?_,fun b ps e=>⟨ps,by rw[cX (by rintro rfl;rw[aj]at e;cases e)];exact e⟩,fun g=>g.lst aj _,rfl⟩
 ·rw[cX]
  ·exact e
  ·rintro rfl
   rcases h with h | h | ⟨xs,h⟩ | ⟨_,_,h⟩
   ·exact bc h
   ·exact hZ h
   ·subst h;rw[e]at aj;cases aj
   ·subst h;rw[e]at aj;cases aj
 ·by_cases e:b=l
  ·rw[e,de];intro z;cases z
  ·rw[cX e];exact h
theorem f9.d1(s:f9 K mg O H S)(cE:cV O H)(bc:O l≠.free)(hZ:O l≠.out)(aj:H l=some (.lst zs)):f9 K mg O (upd H l (.lst ws)) S:=
 s.all (fun _ _ z=>Rep.d1 bc aj z) rfl fun a h u e _=>by rw[cX (by rintro rfl;exact hZ (cE.b8.2 _ h))];exact e
theorem b_.d1{σ:aO}{ak:St}(st:b_ K mg O σ S ak H)(ay:σ[i]? = some (.dZ p xs))(bz:ak[i]?.join=some (.ref l))(bc:O l=.loc i)(aj:H l=some (.lst zs))(aG:a_ K mg O H ys ws) :
  b_ K mg O (σ.set i (.dZ p ys)) S ak (upd H l (.lst ws)):=by
 have ne:∀w:Own,w≠.loc i->O l≠w:=fun w hw z=>hw (z.symm.trans bc)
 refine⟨st.b7.d1 aj,by rw[aiu];exact st.len,fun j t e=>?_,st.gM.d1 st.b7 (ne _ (by intro z;cases z)) (ne _ (by intro z;cases z)) aj⟩
 by_cases aZ:i=j
 ·subst aZ
  have e_:i<σ.length:=(ahN.mp ay).1;rw[aiJ e_]at e;cases e;exact⟨l,ws,bz,bc,de,aG.d1 (ne _ (by intro z;cases z)) aj⟩
 ·rw[ahZ aZ]at e
  exact(st.loc j t e).d1 (ne _ (by intro z;cases z)) (ne _ (by intro z;cases z)) (ne _ (by intro z;cases z;exact aZ rfl)) aj
end
def tb(K:aP)(mg:bk)(r:V->List V->av->cZ->Prop)(f:List D->List R->M (R×List D)):Prop:=
 ∀O H H₀ l xs zs rs vs S au bL ys (Q:cZ),H l=some (.lst zs)->a_ K mg O H xs zs->f6 K mg O H rs vs->kf H₀ rs vs->(f xs rs).run S=.ok (bL,ys) au->
  (∀v ws,S=au->a_ K mg (bW H₀ O) H ys ws->(∃d,bL=.v d/\Rep K mg (bW H₀ O) H d v)->Q v (upd H l (.lst ws)))->r (.ref l) vs H Q
section
variable{K:aP}{mg:bk}
theorem x8:tb K mg K9 h9:=fun O H H₀ l xs zs rs vs S au bL ys Q aj ah aG aH h q=>by
 unfold h9 at h;split at h
 ·rename_i r
  obtain⟨v,rfl,bI⟩:=kG aG;obtain⟨d,S1,ae,h⟩:=M.inv h;obtain⟨_,bj,ag,h⟩:=M.inv h;obtain⟨c,rfl⟩:=p5 ag;obtain⟨cW,rfl⟩:=oT (H₀:=H₀) bI aH.1 ae;cases h;exact⟨l,zs,v,rfl,rfl,aj,by rw[ah.len];exact c,q .aW _ rfl ((ah.da (il _ _)).append (.one cW)) ⟨.aW,rfl,rfl⟩⟩
 ·cases h
theorem XT:tb K mg K' vC:=fun O H H₀ l xs zs rs vs S au bL ys Q aj ah aG aH h q=>by
 unfold vC at h;split at h
 ·rename_i r
  obtain⟨v,rfl,bI⟩:=kG aG;split at h
  ·rename_i us e
   obtain⟨_,bj,ag,h⟩:=M.inv h;obtain⟨c,rfl⟩:=p5 ag;cases h;obtain⟨b,ws,rfl,ct,b4⟩:=R.Dd bI e;exact⟨l,b,zs,ws,rfl,rfl,aj,ct,by rw[ah.len,b4.len];exact c,q .aW _ rfl ((ah.append b4).da (il _ _)) ⟨.aW,rfl,rfl⟩⟩
  ·cases h
 ·cases h
variable{f:List D->List R->M (R×List D)}{r:V->List V->av->cZ->Prop}{ms:cL}{i:Nat}
theorem Yd(hf:tb K mg r f){O:a3}{σ σ':aO}{S au:ck}{ak:St}{H:av}{bL:R}{Q:cZ}(st:b_ K mg O σ S ak H)(h:(GF i f ms σ).run S=.ok (bL,σ') au)
  (q:∀ai v H',dP O ai H H'->b_ K mg ai σ' au ak H'->ek σ σ' ak ak->(∃d,bL=.v d/\Rep K mg ai H' d v)->Q v H') :
  ∃v,ak[i]? = some (some v)/\y7 K "list" v H/\mh K mg ms ak H fun vs aJ=>r v vs aJ Q:=by
 obtain⟨rs,S1,ae,h⟩:=M.inv h
 cases e:σ[i]? with
 |none=>rw[e]at h;cases h
 |some s=>
  rw[e]at h
  cases s with
  |emp=>cases h
  |val _=>cases h
  |b1 _=>cases h
  |dZ p xs=>
   obtain⟨⟨b4,ys⟩,bj,ag,h⟩:=M.inv h;cases h;obtain⟨a,zs,aq,aD,cQ,e8⟩:=st.loc i _ e;have ev:ak[i]? = some (some (.ref a)):=by
    cases w:ak[i]? with
    |none=>rw[w]at aq;cases aq
    |some y=>rw[w]at aq;exact congrArg some aq
   refine⟨.ref a,ev,.inl ⟨rfl,_,c3.of cQ⟩,O,σ,S,rs,S1,st,ae,fun aK vs H1 g1 aU bo nn=>?_⟩;have w1:=g1.same.at' _ _ cQ;have aH:H a≠none:=by rw[cQ];intro z;cases z
   have SJ:aK a=.loc i:=(g1.own a aH).trans aD;refine hf aK H1 H a xs zs rs vs S1 _ _ ys Q w1 (e8.go g1) bo nn ag fun v ws ax bh aX=>?_
   obtain⟨d,dK,cW⟩:=aX;subst ax;have n':bW H aK a=.loc i:=by rw[xe aH];exact SJ
   have no:∀w:Own,w≠.loc i->bW H aK a≠w:=fun w hw z=>hw (z.symm.trans n')
   refine q (bW H aK) v _ (g1.bW.aB.trans (dP.d1 (no _ (by intro z;cases z)) (no _ (by intro z;cases z)) w1)) ((aU.bW H).d1 e (by rw[ev];rfl) n' w1 bh) ?_ ⟨d,dK,cW.d1 (no _ (by intro z;cases z)) w1⟩;have e_:i<σ.length:=(ahN.mp e).1;exact ek.put e (fun xs z=>by cases z) (fun _ z=>by cases z;exact⟨xs,rfl⟩)
end
def vZ(b9:hM)(O:a3)(H:av)(ys:List V):Prop:=∀bf aJ,dP O bf H aJ->∀i,(i<ys.length->b9.go i aJ/\∀x H',b9.ox i aJ x H'->H'=aJ/\ys[i]? = some x)/\(ys.length<=i->b9.stop i aJ)
abbrev eS:=aO->M (List D)
def pI(K:aP)(mg:bk)(m:eS):TI:=fun ak H R=>oL K mg m ak H fun O σ au xs=>∀ai H' b9 ys,Go O ai H H'->b_ K mg ai σ au ak H'->vY b9 H' ys->a_ K mg ai H' xs ys->R b9 H'
def vA(K:aP)(mg:bk)(m:eS):TI:=fun ak H R=>oL K mg m ak H fun O σ au xs=>∀ai H' b9 ys,Go O ai H H'->b_ K mg ai σ au ak H'->vZ b9 ai H' ys->a_ K mg ai H' xs ys->R b9 H'
abbrev Es(X:aQ)(cc iter:Expr)(m:eS):Prop:=jU X cc iter (pI X.K X.mg m)
abbrev N1(X:aQ)(cc iter:Expr)(m:eS):Prop:=jU X cc iter (vA X.K X.mg m)
theorem pD{cc e:Expr}{t t':TI}(h:jU X cc e t)(i:∀σ H Q,t' σ H Q->t σ H Q):jU X cc e t':=fun pinZ s σ H Q I q=>h pinZ s σ H Q I (i _ _ _ q)
theorem dP.vu{O ai:a3}(g:dP O ai H H')(h:dp K H a ys):dp K H' a ys:=by
 rcases h with(h | ⟨o,h⟩) | h
 ·exact .inl (.inl (g.cells _ _ h (.inr (.inr (.inl ⟨_,rfl⟩)))))
 ·exact .inl (.inr ⟨o,g.cells _ _ h (.inr (.inr (.inr ⟨_,_,rfl⟩)))⟩)
 ·exact .inr h
theorem dP.JH{O ai:a3}(g:dP O ai H H')(h:hO K O H a ys):hO K ai H' a ys:=by
 rcases h with⟨h,f⟩ | h
 ·refine .inl ⟨?_,by rw[g.own a (fH.some h) f];exact f⟩
  rcases h with h | ⟨o,h⟩
  ·exact .inl (g.cells _ _ h (f.elim .inl fun z=>.inr (.inl z)))
  ·exact .inr ⟨o,g.cells _ _ h (f.elim .inl fun z=>.inr (.inl z))⟩
 ·exact .inr h
@[simp] def iu(m:bl)(σ:aO):M (List D):=do
 let r <-m σ
 match r with
 |.v (.tup xs)=>pure xs|_=>bad
@[simp] def BJ(m:bl)(σ:aO):M (List D):=do
 let r <-m σ
 match r with
 |.v (.lst xs)=>pure xs|.fr xs=>pure xs|.b1 xs=>pure xs|_=>bad
@[simp] def j3(m:bl)(σ:aO):M (List D):=do
 let r <-m σ
 match r.eH with
 |some xs=>pure xs|none=>bad
def nh(lo:Int)(n:Nat):List D:=(aiz n).map fun i=>D.int (lo+(i:Nat))
@[simp] def qu(m:cL)(σ:aO):M (List D):=do
 let rs <-m σ
 match rs with
 |[.v (.int j)]=>if -(2 ^ 62)<=j/\j<2 ^ 62 then pure (nh 0 j.toNat)else bad|_=>bad
theorem aax{O:a3}(lo:Int)(n:Nat):a_ K mg O H (nh lo n) (pF lo n):=by
 unfold nh pF
 induction(aiz n)with
 |nil=>rfl|cons a r a9=>exact⟨.int (lo+a),_,rfl,rfl,a9⟩
theorem Wz{O:a3}(lo:Int)(n:Nat):vZ (rm lo n) O H (pF lo n):=fun bf aJ _ i=>IS (H:=aJ) lo n aJ (en.refl _) i
section
variable{a:Expr}{ms:cL}
theorem Lq:(∀ak H R,vA K mg (qu ms) ak H R->BK (mh K mg ms) ak H R)/\(∀ak H R,pI K mg (qu ms) ak H R->BK (mh K mg ms) ak H R):=by
 constructor<;>
 ·rintro ak H R ⟨O,σ,S,xs,au,st,h,q⟩
  obtain⟨rs,S1,ae,h⟩:=M.inv h;split at h
  ·rename_i j
   by_cases c:-(2 ^ 62)<=j/\j<2 ^ 62
   ·rw[if_pos c]at h
    cases h;refine⟨O,σ,S,_,_,st,ae,fun aK vs H1 g1 aU bo nn=>?_⟩;obtain⟨v,rfl,bI⟩:=kG bo;cases(show v=.int j from bI);exact⟨j,rfl,c.1,c.2,q aK H1 (rm 0 j.toNat) (pF 0 j.toNat) g1 aU (by first | exact Wz _ _ | exact IS _ _) (aax _ _)⟩
   ·rw[if_neg c]at h;cases h
  ·cases h
theorem BR{K:aP}{O:a3}{H:av}{a:Addr}{xs:List V}(h:hO K O H a xs):vZ (lz K a) O H xs:=fun bf aJ g i=>BQ (g.JH h).c9 aJ (en.refl _) i
theorem WB{K:aP}{O:a3}{H:av}{a:Addr}{xs:List V}(h:dp K H a xs):vZ (ro K a) O H xs:=fun bf aJ g i=>IT (g.vu h) aJ (en.refl _) i
end
def gc(b:D->a0):List D->a0
 |[]=>fun σ=>pure (.bq σ)
 |d::ds=>fun σ=>do
  let a7 <-b d σ
  match a7 with
  |.bq σ'=>gc b ds σ'|.b' σ'=>gc b ds σ'|.eP σ'=>pure (.bq σ')|.cS r=>pure (.cS r)
@[simp] def nE(i:Nat)(it:eS)(b:a0)(σ:aO):M fm:=do
 let ds <-it σ
 gc (fun d σ=>b (σ.set i (.val d))) ds σ
theorem b_.val{O:a3}{σ:aO}{ak:St}{v:V}(st:b_ K mg O σ S ak H)(h:Rep K mg O H d v):b_ K mg O (σ.set i (.val d)) S (ak.set i (some v)) H:=st.set ⟨v,rfl,h⟩
theorem a_.aB{O ai:a3}(g:dP O ai H H'):∀{ds:List D}{ys:List V},a_ K mg O H ds ys->a_ K mg ai H' ds ys:=by
 have rep:∀(d:D)(v:V),Rep K mg O H d v->Rep K mg ai H' d v:=by
  intro d
  induction d using D.rec (motive_2:=fun ds=>∀ys,a_ K mg O H ds ys->a_ K mg ai H' ds ys)with
  |aW=>exact fun v h=>h
  |aA _=>exact fun v h=>h
  |int _=>exact fun v h=>h
  |str _=>exact fun v h=>h
  |fn _=>exact fun v h=>h
  |ty _=>exact fun v h=>h
  | ref n=>exact fun v ⟨a,q,l⟩=>⟨a,q,by rw[g.bC];exact l⟩
  |tup xs a9=>exact fun v ⟨a,ys,q,l,r⟩=>⟨a,ys,q,g.vu l,a9 ys r⟩
  | lst xs a9=>exact fun v ⟨a,ys,q,l,r⟩=>⟨a,ys,q,⟨g.cells _ _ l.1 (.inl l.2),by rw[g.own a (by rw[l.1];intro z;cases z) (.inl l.2)];exact l.2⟩,a9 ys r⟩
  |nil=>assumption|cons x xs um uo=>
   rename_i zs hz;obtain⟨y,r,q,a,b⟩:=hz;exact⟨y,r,q,um y a,uo r b⟩
 intro ds
 induction ds with
 |nil=>exact fun h=>h
 |cons x xs a9=>rintro ys ⟨y,r,q,a,b⟩;exact⟨y,r,q,rep x y a,a9 b⟩
section
variable{it:eS}{i:Nat}{b:a0}{x:Str}
theorem a_.get'{O:a3}{ds:List D}{ys:List V}{k:Nat}(h:a_ K mg O H ds ys)(e:ds.drop k=d::lK):∃y,ys[k]? = some y/\Rep K mg O H d y/\ds.drop (k+1)=lK:=by
 have aq:ds[k]? = some d:=by
  have:=congrArg (·[0]?) e;simpa using this
 obtain⟨y,q,r⟩:=h.get aq;refine⟨y,q,r,?_⟩;have:=congrArg (alE 1) e;simpa[aky]using this
theorem Ht{G:i4}{B:aY.D->a0}(oX:∀O σ S ak H d y f bj Q,b_ K mg O σ S ak H->Rep K mg O H d y->(B d σ).run S=.ok f bj->(∀ic jm,b_ K mg O ic S jm H->ek σ ic ak jm->(b ic).run S=.ok f bj->Q jm H)->G y ak H Q) :
  ∀D ak H,jj K mg (fun σ=>do
   let ds <-it σ
   gc B ds σ) D ak H->pH (vA K mg it) G (jj K mg b) D ak H:=by
 rintro D ak H ⟨O,σ,S,a7,au,st,h,q⟩;obtain⟨ds,S1,ae,h⟩:=M.inv h;refine⟨O,σ,S,ds,S1,st,ae,fun aK H1 b9 ys g1 aU its bh=>?_⟩;refine⟨fun k m cD H'=>m=ys.length-k/\k<=ys.length/\∃ai σ' fI,b_ K mg ai σ' fI cD H'/\dP aK ai H1 H'/\ek σ σ' ak cD/\(gc B (ds.drop k) σ').run fI=.ok a7 au,
  ⟨_,rfl,aib _,aK,σ,S1,aU,dP.refl _ _,ek.refl _ _,h⟩,?_⟩
 rintro k m cD H' ⟨rfl,az,ai,σ',fI,b3,g',kp,h⟩
 cases e:ds.drop k with
 |nil=>
  have aj:ys.length<=k:=by
   have:=congrArg ai8 e;rw[aiA,aiy]at this;rw[bh.len];omega
  rw[e]at h;cases h;exact .inl ⟨(its ai H' g' k).2 aj,q ai cD H' (g1.aB.trans g') b3 kp⟩
 |cons d lK=>
  obtain⟨y,e9,bt,cf⟩:=(a_.aB g' bh).get' e;have e_:k<ys.length:=(ahN.mp e9).1;obtain⟨go,mq⟩:=(its ai H' g' k).1 e_;rw[e]at h;obtain⟨f1,bj,ag,h⟩:=M.inv h;refine .inr ⟨go,fun fl aJ=>∃bf c6 bj,b_ K mg bf c6 bj fl aJ/\dP aK bf H1 aJ/\ek σ c6 ak fl/\(gc B (ds.drop (k+1)) c6).run bj=.ok a7 au,?_,fun x aJ ib=>?_⟩
  ·rintro fl aJ ⟨bf,c6,bj,a1,a2,d6,gU⟩
   exact⟨_,by omega,rfl,e_,bf,c6,bj,a1,a2,d6,gU⟩
  ·obtain⟨rfl,ex⟩:=mq x aJ ib
   rw[e9]at ex;cases ex;refine oX _ _ _ _ _ _ _ _ _ _ b3 bt ag fun ic jm jN br aa=>?_
   refine⟨ai,ic,fI,f1,bj,jN,aa,?_⟩
   cases f1 with
   | bq c6=>exact fun bf fl aJ g2 cv eF=>⟨bf,c6,bj,cv,g'.trans g2,kp.trans (br.trans eF),by rw[cf];exact h⟩
   | b' c6=>exact fun bf fl aJ g2 cv eF=>⟨bf,c6,bj,cv,g'.trans g2,kp.trans (br.trans eF),by rw[cf];exact h⟩
   |eP c6=>cases h;exact fun bf fl aJ g2 cv eF=>q bf fl aJ (g1.aB.trans (g'.trans g2)) cv (kp.trans (br.trans eF))
   |cS r=>cases h;exact fun bf v aJ g2 cN aD b4=>q bf v aJ (g1.aB.trans (g'.trans g2)) cN aD b4
theorem Tn:∀D ak H,jj K mg (nE i it b) D ak H->pH (vA K mg it) (k4 i) (jj K mg b) D ak H:=
 Ht (B:=fun d σ=>b (σ.set i (.val d))) fun _ _ _ _ _ _ _ _ _ _ st bt h k=>k _ _ (st.val bt) (ek.set fun xs z=>by cases z) h
end
def fO(t:aO->M Bool)(el:bl)(σ:aO):List D->M (List D)
 |[]=>pure []|d::ds=>do
  let b <-t (σ.set 0 (.val d))
  if b=true then do
   let r <-el (σ.set 0 (.val d))
   let x <-r.dat
   let xs <-fO t el σ ds
   pure (x::xs)
  else fO t el σ ds
def rC:Option Slot->Slot
 |some (.val d)=>.val d|some (.dZ _ xs)=>.b1 xs|some (.b1 xs)=>.b1 xs|_=>.emp
def hU(n:Nat)(cap:List Nat)(σ:aO):aO:=aiH n .emp++cap.map fun k=>rC σ[k]?
@[simp] def eV(n:Nat)(cap:List Nat)(it:eS)(t:aO->M Bool)(el:bl)(σ:aO):M R:=do
 let ds <-it σ
 hr (ds.length<ahQ)
 let xs <-fO t el (hU n cap σ) ds
 pure (.fr xs)
def gi:aO->M Bool:=fun _=>pure true
abbrev zr(X:aQ)(ifs:List Expr)(t:aO->M Bool):Prop:=rr X ifs (kL X.K X.mg t)
def Own.e6:Own->Own
 |.loc _=>.out|.di=>.out|o=>o
def e6(O:a3):a3:=⟨fun b=>(O b).e6,O.bC⟩
theorem tA(O:a3)(b:Addr):e6 O b=(O b).e6:=rfl
theorem Gu{O:a3}(d:cV O H):js (e6 O):=⟨d.b8.1,fun a h=>by rw[tA,d.b8.2 a h];rfl⟩
theorem oR{O:a3}:e6 O b=.free↔O b=.free:=by rw[tA];cases O b<;>simp[Own.e6]
theorem mG(O:a3)(b:Addr):e6 O b=.free\/e6 O b=.out:=by rw[tA];cases O b<;>simp[Own.e6]
theorem k2(O:a3):mz O (e6 O):=⟨fun _ h=>oR.mpr h,rfl⟩
theorem hO.e6{O:a3}(h:hO K O H a ys):hO K (e6 O) H a ys:=by
 rcases h with⟨h,f⟩ | h
 ·refine .inl ⟨h,?_⟩
  rcases f with f | f
  ·exact .inl (oR.mpr f)
  ·exact .inr (by rw[tA,f];rfl)
 ·exact .inr h
theorem b_.e6{O:a3}(st:b_ K mg O σ S ak H)(n:Nat)(cap:List Nat):b_ K mg (e6 O) (hU n cap σ) S (g9 n cap ak) H:=by
 refine⟨⟨fun a ao=>st.b7.has a fun z=>ao (oR.mpr z),st.b7.tabs,Gu st.b7⟩,?_,fun i s e=>?_,st.gM.all (fun _ _ z=>Rep.da (k2 O) z) rfl fun _ _ _ l _=>l⟩
 ·unfold hU g9
  rw[ahS,ahS,aiU,aiU,ahJ,ahJ]
 ·unfold hU at e
  unfold g9
  by_cases ay:i<n
  ·rw[aic (by simpa using ay),ajD,if_pos ay]at e
   cases e;exact trivial
  ·rw[ah2 (by simpa using ay),aiU,aia]at e
   rw[ah2 (by simpa using ay),aiU,aia]
   cases lL:cap[i-n]? with
   |none=>rw[lL]at e;cases e
   |some k=>
    rw[lL]at e;have cf:rC σ[k]? = s:=aih e;show jt K mg _ H _ s (some (ak[k]?.join)).join
    cases ax:σ[k]? with
    |none=>rw[ax]at cf;subst cf;exact trivial|some s0=>
     rw[ax]at cf;have l:=st.loc k s0 ax
     cases s0 with
     |emp=>subst cf;exact trivial|val d=>subst cf;obtain⟨v,q,r⟩:=l;exact⟨v,q,r.da (k2 O)⟩
     |b1 xs=>subst cf;obtain⟨a,ys,q,l,r⟩:=l;exact⟨a,ys,q,l.e6,r.da (k2 O)⟩
     | dZ p xs=>subst cf;obtain⟨a,ys,q,o,l,r⟩:=l;exact⟨a,ys,q,.inl ⟨.inl l,.inr (by rw[tA,o];rfl)⟩,r.da (k2 O)⟩
theorem b_.adh{O:a3}{H:av}(st:b_ K mg O σ S ak H)(bc:O l=.di)(aj:H l=some (.lst zs)):b_ K mg O σ S ak (upd H l (.lst ws)):=by
 have ne:∀w:Own,w≠.di->O l≠w:=fun w hw z=>hw (z.symm.trans bc)
 exact⟨st.b7.d1 aj,st.len,fun j t e=>(st.loc j t e).d1 (ne _ (by intro z;cases z)) (ne _ (by intro z;cases z)) (ne _ (by intro z;cases z)) aj,st.gM.d1 st.b7 (ne _ (by intro z;cases z)) (ne _ (by intro z;cases z)) aj⟩
section
variable{K:aP}{mg:bk}{n:Nat}{cap:List Nat}{it:eS}{t:aO->M Bool}{el:bl}
def k'{α:Type}(put:α->Option aO)(t:aO->M Bool)(el:bl):List α->M (List D)
 |[]=>pure []|d::ds=>match put d with
  |none=>bad|some σ=>do
   let b <-t σ
   if b=true then do
    let r <-el σ
    let x <-r.dat
    let xs <-k' put t el ds
    pure (x::xs)
   else k' put t el ds
omit [aF.a6]in
theorem I1(σ:aO):∀ds:List D,fO t el σ ds=k' (fun d=>some (σ.set 0 (.val d))) t el ds
 |[]=>rfl| d::ds=>by unfold fO k';rw[I1 σ ds]
inductive CompI{α:Type}(K:aP)(mg:bk)(n:Nat)(cap:List Nat)(L:Nat->M (List aY.D))(aK:a3)(σ:aO)(S1:ck)(ak:St)(H1:av)(A:Addr)(xs:List aY.D)(k:Nat)(zs:List V)(H':av):Prop
 |mk (ai:a3) (acc s7:List aY.D) (b3:b_ K mg ai (hU n cap σ) S1 (g9 n cap ak) H') (g':Go (e6 aK) ai H1 H') (yX:ai A=.di) (dW:H' A=some (.lst zs)) (hz:zs.length<=k)
   (jK:a_ K mg ai H' acc zs) (h:(L k).run S1=.ok s7 S1) (ex:acc++s7=xs)
theorem Am{α:Type}{put:α->Option aO}{items:List α}{aK:a3}{σ:aO}{S1 au:ck}{ak:St}{H1:av}{b9:hM}{G:i4}{xs:List aY.D}{Q:cZ}(aU:b_ K mg aK σ S1 ak H1)(hlen:items.length<ahQ)
  (stop:∀H',en H1 H'->b9.stop items.length H')
  (step:∀k d nt ai H',items[k]? = some d->put d=some nt->Go (e6 aK) ai H1 H'->b_ K mg ai (hU n cap σ) S1 (g9 n cap ak) H'->b9.go k H'/\∀x aJ (R:St->av->Prop),b9.ox k H' x aJ->
   (∀ic cG,Go ai ai H' cG->b_ K mg ai nt S1 ic cG->my (g9 n cap ak) ic->R ic cG)->G x (g9 n cap ak) aJ R)
  (bK:(k' put t el items).run S1=.ok xs au) (q:∀ai v H',Go aK ai H1 H'->b_ K mg ai σ au ak H'->ew K mg ai H' (.fr xs) v->jr H1 (.fr xs) v->Q v H') :
  ∀D,H1 D=none->Ao b9 (g9 n cap ak) G (kL K mg t) (e' K mg el) D H1 Q:=by
 intro D ks;obtain rfl:=(k' put t el items).ei _ _ _ bK;have jM:b_ K mg (fC (e6 aK) D .di) (hU n cap σ) au (g9 n cap ak) (upd H1 D (.lst [])):=(aU.e6 n cap).new ks;refine⟨fun k m zs H'=>m=items.length-k/\k<=items.length/\CompI (α:=α) K mg n cap (fun k=>k' put t el (items.drop k)) aK σ au ak H1 D xs k zs H',
  ⟨_,rfl,aib _,_,[],xs,jM,Go.new ks,nk,de,ahM _,rfl,bK,rfl⟩,?_⟩
 rintro k m zs H' ⟨rfl,az,ai,acc,s7,b3,g',yX,dW,hz,jK,h,ex⟩
 cases e:items.drop k with
 |nil=>
  obtain rfl:k=items.length:=by
   have:=congrArg ai8 e;rw[aiA,aiy]at this;omega
  rw[e]at h;cases h;rw[ai7]at ex;subst ex;refine .inl ⟨stop H' g'.same,?_⟩
  let rq:a3:=⟨fun b=>match H1 b with | none=>ai b | some _=>aK b,aK.bC⟩
  have C0:∀b,H1 b≠none->rq b=aK b:=fun b aa=>by
   show(match H1 b with | none=>ai b | some _=>aK b)=aK b
   cases e:H1 b with
   |none=>exact absurd e aa|some _=>rfl
  have CZ:∀b,H1 b=none->rq b=ai b:=fun b aa=>by
   show(match H1 b with | none=>ai b | some _=>aK b)=ai b;rw[aa]
  have da:mz ai rq:=⟨fun b aa=>by
    by_cases oZ:H1 b=none
    ·rw[CZ b oZ];exact aa
    ·rw[C0 b oZ];exact oR.mp ((g'.own b oZ).symm.trans aa),g'.bC.symm⟩
  have go:Go aK rq H1 H':=⟨g'.same,C0,rfl⟩;have b7:cV rq H':=⟨fun b aa=>by
   by_cases oZ:H1 b=none
   ·rw[CZ b oZ]at aa;exact b3.b7.has b aa
   ·exact g'.same.some oZ,b3.b7.tabs,aU.b7.b8.1,fun b m=>(C0 b (aU.b7.has b (by rw[aU.b7.b8.2 b m];intro z;cases z))).trans (aU.b7.b8.2 b m)⟩
  refine q rq (.ref D) H' go (aU.go go b7) ⟨D,zs,rfl,dW,(CZ D ks).trans yX,jK.da da⟩ fun a gb=>?_
  cases gb;exact ks
 |cons d lK=>
  have e_:k<items.length:=by
   have:=congrArg ai8 e;rw[aiA,ahX]at this;omega
  have dK:items[k]? = some d:=by
   have:=congrArg (·[0]?) e;simpa using this
  have cf:items.drop (k+1)=lK:=by
   have:=congrArg (alE 1) e;simpa[aky]using this
  rw[e]at h;unfold k' at h
  cases cI:put d with
  |none=>rw[cI]at h;cases h
  |some nt=>
  rw[cI]at h;dsimp only at h;obtain⟨b,bj,ag,h⟩:=M.inv h;obtain rfl:=(t nt).ei _ _ _ ag;obtain⟨go,mq⟩:=step k d nt ai H' dK cI g' b3;refine .inr ⟨go,fun x aJ ib=>mq x aJ _ ib fun ic cG fM jN w9=>⟨w9,ai,nt,bj,b,bj,jN,ag,fun bf hp g2 cv=>?_⟩⟩;have rQ:Go ai bf H' hp:=fM.trans g2
  cases b with
  |false=>
   rw[if_neg ahV]at h;exact qv ⟨items.length-(k+1),by omega,rfl,e_,bf,acc,s7,b3.go rQ cv.b7,g'.trans rQ,(rQ.own D (by rw[dW];intro z;cases z)).trans yX,rQ.same.at' _ _ dW,by omega,jK.go rQ,by rw[cf];exact h,ex⟩
  |true=>
   rw[if_pos rfl]at h;obtain⟨r,oM,dt,h⟩:=M.inv h;obtain rfl:=(el nt).ei _ _ _ dt;obtain⟨x,ru,eW,h⟩:=M.inv h;obtain rfl:=r.dat.ei _ _ _ eW;obtain⟨NR,afn,iq,h⟩:=M.inv h;cases h;refine qw ⟨bf,_,_,r,_,cv,dt,fun eu v kX g3 gL bo nn=>?_⟩;obtain⟨a5,_⟩:=oT (H₀:=hp) bo nn eW;have nx:Go ai (bW hp eu) H' kX:=rQ.trans g3.bW;have xl:kX D=some (.lst zs):=nx.same.at' _ _ dW;have DU:bW hp eu D=.di:=(nx.own D (by rw[dW];intro z;cases z)).trans yX;have tY:=g'.trans nx;exact⟨xl,by omega,items.length-(k+1),by omega,rfl,e_,bW hp eu,acc++[x],NR,(b3.go nx (gL.bW hp).b7).adh DU xl,⟨ou ks tY.same xl _,tY.own,tY.bC⟩,DU,de,
    by rw[ahS,akx];omega,((jK.go nx).append (.one a5)).d1 (by rw[DU];intro z;cases z) xl,by rw[cf];exact iq,by rw[akr];exact ex⟩
theorem An(aH:0<n):∀ak H Q,e' K mg (eV n cap it t el) ak H Q->sN n cap (pI K mg it) (k4 0) (kL K mg t) (e' K mg el) ak H Q:=by
 rintro ak H Q ⟨O,σ,S,r,au,st,h,q⟩;obtain⟨ds,S1,ae,h⟩:=M.inv h;obtain⟨_,bj,ag,h⟩:=M.inv h;obtain⟨hlen,rfl⟩:=p5 ag;obtain⟨xs,hR,bK,h⟩:=M.inv h;cases h;rw[I1]at bK;refine⟨O,σ,S,ds,S1,st,ae,fun aK H1 b9 ys g1 aU its bh=>Am aU hlen (fun H' s=>(its H' s _).2 (ajn bh.len)) (fun k d nt ai H' dK cI g' b3=>?_) bK fun ai v H' g b3 bo nn=>q ai v H' (g1.trans g) b3 bo (nn.back g1.same)⟩;cases cI;obtain⟨y,e9,bt⟩:=(a_.go g' (bh.da (k2 aK))).get dK;obtain⟨go,mq⟩:=(its H' g'.same k).1 (ahN.mp e9).1;refine⟨go,fun x aJ R ib dB=>?_⟩;obtain⟨rfl,ex⟩:=mq x aJ ib;rw[e9]at ex;cases ex;exact dB _ _ (Go.refl _ _) (b3.val bt) ((my.refl _).set (by cases n with | zero=>exact absurd aH (aii _) | succ j=>rfl))
end
section
variable{X:aQ}{scope esc:Scope}{EN N:List Str}{n:Nat}{cap:List Nat}{elt iter:Expr}{ifs:List Expr}{pos dq:Pos}{x:Str}{it:eS}{t:aO->M Bool}{el:bl}
theorem EV{i:Nat}{y:Str}{py mc:Pos}(S:kS esc scope EN N n cap)(qf:X.N.Nodup)(k7:X.N[i]? = some y)(a':X.env.scope.names.lookup y=some .local)(aH:0<n)(ay:Es X (.Name x dq) iter it)(ah:N[0]? = some x)(iJ:∀C aL s H,Loc (cm X scope N C aL s H).env.scope x/\(cm X scope N C aL s H).env.scope.names.lookup x=some .local)
  (bG:∀C aL s H,zr (cm X scope N C aL s H) ifs t) (hY:∀C aL s H,hn (cm X scope N C aL s H) elt el)
  (he:X.env.scope=esc:=by rfl) (hN:X.N=EN:=by rfl) (aE:X.calm=true:=by rfl) (aC:∀x,aip iter X.env x=pure x:=by intro _;rfl)
  (l0:aje (.ListComp elt [⟨.Name x dq,iter,ifs,0⟩] scope pos) (some (.Name y py)) mc.line X.env=pure true:=by rfl) :
  iB X (.Assign [.Name y py] (.ListComp elt [⟨.Name x dq,iter,ifs,0⟩] scope pos) mc) (sM (sN n cap (pI X.K X.mg it) (k4 0) (kL X.K X.mg t) (e' X.K X.mg el)) (k4 i)):=
 Z3 (wi:=pI X.K X.mg it) (g:=k4 0) (tt:=kL X.K X.mg t) (te:=e' X.K X.mg el) S qf k7 a' ay (fun C aL s H=>u7 S.eI ah (iJ C aL s H).1 (.inr (iJ C aL s H).2)) bG hY he hN aE aC l0
end
abbrev bD:=List D->M R
def ta(K:aP)(mg:bk)(O:a3)(H:av):D->V->Prop
 |.lst xs,v=>∃a ys,v=.ref a/\c3 K H a ys/\a_ K mg O H xs ys|d,v=>Rep K mg O H d v
def lx(K:aP)(mg:bk)(O:a3)(H:av):List D->List V->Prop
 |[],ys=>ys=[]|x::xs,ys=>∃y r,ys=y::r/\ta K mg O H x y/\lx K mg O H xs r
def c8:D->Slot
 |.lst xs=>.b1 xs|d=>.val d
theorem ET{O:a3}{r:R}{v:V}(h:ew K mg O H r v):ta K mg O H r.arg v:=by
 match r,h with
 |.v (.lst xs),h=>obtain⟨a,ys,q,l,r⟩:=h;exact⟨a,ys,q,l.c9,r⟩
 |.fr xs,h=>obtain⟨a,ys,q,l,_,r⟩:=h;exact⟨a,ys,q,c3.of l,r⟩
 |.b1 xs,h=>obtain⟨a,ys,q,l,r⟩:=h;exact⟨a,ys,q,l.c9,r⟩
 |.mv xs,h=>obtain⟨a,ys,q,l,r⟩:=h;exact⟨a,ys,q,c3.of l,r⟩
 |.v .aW,h=>exact h|.v (.aA _),h=>exact h|.v (.int _),h=>exact h|.v (.str _),h=>exact h|.v (.tup _),h=>exact h|.v (.ref _),h=>exact h|.v (.fn _),h=>exact h|.v (.ty _),h=>exact h
theorem zL{O:a3}:∀{rs:List R}{vs:List V},f6 K mg O H rs vs->lx K mg O H (rs.map R.arg) vs
 |[],_,h=>h| _::_,_,h=>by obtain⟨y,r,q,a,b⟩:=h;exact⟨y,r,q,ET a,zL b⟩
theorem lx.len{O:a3}:∀{ds:List D}{vs:List V},lx K mg O H ds vs->vs.length=ds.length
 | [],_,h=>by cases h;rfl
 | _::_,_,h=>by obtain⟨x,r,rfl,_,b⟩:=h;rw[ahX,ahX,lx.len b]
theorem lx.get{O:a3}:∀{ds:List D}{xs:List V}{i:Nat}{d:D},lx K mg O H ds xs->ds[i]? = some d->∃x,xs[i]? = some x/\ta K mg O H d x
 | [],_,_,_,_,e=>by simp at e| _::_,_,0,d,h,e=>by obtain⟨x,r,rfl,a,_⟩:=h;cases(show some _=some d from e);exact⟨x,rfl,a⟩
 |_::ds,_,i+1,d,h,e=>by
  obtain⟨x,r,rfl,_,b⟩:=h;obtain⟨y,aq,aD⟩:=lx.get (i:=i) b (by simpa using e);exact⟨y,by simpa using aq,aD⟩
def b5(K:aP)(mg:bk)(mf:bD):d9:=fun vs H Q _=>∃O ds r S,cV O H/\f9 K mg O H S/\lx K mg O H ds vs/\(mf ds).run S=.ok r S/\∀ai v H',Go O ai H H'->cV ai H'->ew K mg ai H' r v->jr H r v->Q v H'
@[simp] def bJ(mf:bD)(ms:cL)(σ:aO):M R:=do
 let rs <-ms σ
 mf (rs.map R.arg)
section
variable{mf:bD}{ms:cL}
theorem Ag:∀ak H Q,e' K mg (bJ mf ms) ak H Q->yY (b5 K mg mf) (mh K mg ms) ak H Q:=by
 rintro ak H Q ⟨O,σ,S,r,au,st,h,q⟩;obtain⟨rs,S1,ae,h⟩:=M.inv h;refine⟨O,σ,S,rs,S1,st,ae,fun aK vs H1 g1 aU bo nn=>?_⟩;obtain rfl:=(mf _).ei _ _ _ h;exact⟨aK,_,r,au,aU.b7,aU.gM,zL bo,h,fun ai v H' g d bL e0=>q ai v H' (g1.trans g) (aU.go g d) bL (e0.back g1.same)⟩
end
def fnOf(n N:Nat)(b:a0):bD:=fun ds=>if ds.length=n then do
  let a7 <-b (ds.map c8++aiH (N-n) .emp)
  match a7 with
  |.cS (.v d)=>pure (.v d)|.cS (.fr xs)=>pure (.fr xs)|.bq _=>pure (.v .aW)|_=>bad
 else bad
theorem ab5{O:a3}{v:V}(h:ta K mg O H d v):jt K mg (e6 O) H w (c8 d) (some v):=by
 have val:Rep K mg O H d v->jt K mg (e6 O) H w (.val d) (some v):=fun h=>⟨v,rfl,h.da (k2 O)⟩
 match d,h,val with
 |.lst xs,h,_=>
  obtain⟨a,ys,rfl,l,r⟩:=h;exact⟨a,ys,rfl,l.imp (fun z=>⟨z,mG O a⟩) id,r.da (k2 O)⟩
 |.aW,h,val=>exact val h|.aA _,h,val=>exact val h|.int _,h,val=>exact val h|.str _,h,val=>exact val h|.tup _,h,val=>exact val h|.ref _,h,val=>exact val h|.fn _,h,val=>exact val h|.ty _,h,val=>exact val h
omit [aF.a6]in
theorem xa{n N:Nat}{ds:List D}{r:R}(h:(fnOf n N b ds).run S=.ok r au):ds.length=n:=by
 unfold fnOf at h
 by_cases c:ds.length=n
 ·exact c
 ·rw[if_neg c]at h;cases h
theorem DQ{ps N:List Str}{O:a3}{ds:List D}(cE:cV O H)(eK:f9 K mg O H S)(eN:lx K mg O H ds vs)(aj:ds.length=ps.length):b_ K mg (e6 O) (ds.map c8++aiH (N.length-ps.length) .emp) S (aF.start N vs) H:=by
 have Ii:=eN.len;refine⟨⟨fun a ao=>cE.has a fun z=>ao (oR.mpr z),cE.tabs,Gu cE⟩,?_,fun i s e=>?_,eK.all (fun _ _ z=>Rep.da (k2 O) z) rfl fun _ _ _ l _=>l⟩
 ·unfold aF.start
  rw[ahS,ahS,ahJ,ahJ,aiU,aiU,Ii,aj]
 ·by_cases ay:i<ds.length
  ·rw[aic (by rw[ahJ];exact ay),aia]at e
   cases dK:ds[i]? with
   |none=>rw[dK]at e;cases e
   |some d=>
    rw[dK]at e;cases e;obtain⟨v,ev,bI⟩:=eN.get dK;unfold aF.start;rw[aic (by rw[ahJ,Ii];exact ay),aia,ev];exact ab5 bI
  ·rw[ah2 (by rw[ahJ];omega),ajD]at e
   split at e
   ·cases e;exact trivial
   ·cases e
theorem Gy{ps N:List Str}(hu:b5 K mg (fnOf ps.length N.length c0) vs H Q E):jj K mg c0 { bq:=fun _ H'=>Q .aW H',cS:=Q } (aF.start N vs) H:=by
 obtain⟨O,ds,r,S,cE,eK,eN,h,q⟩:=hu;have aj:=xa h;unfold fnOf at h;rw[if_pos aj]at h;obtain⟨a7,S1,ae,h⟩:=M.inv h;have vv:=DQ (N:=N) cE eK eN aj;have old:∀b,H b≠none->e6 O b=.free\/e6 O b=.out:=fun b _=>mG O b
 have back:∀{ai:a3}{H':av},dP (e6 O) ai H H'->cV ai H'->∃bf:a3,Go O bf H H'/\cV bf H'/\mz ai bf/\∀b,(ai b=.di\/∃i,ai b=.loc i)->H b=none/\bf b=.di:=fun{ai H'} g d=>by
  refine⟨⟨fun b=>match H b with | some _=>O b | none=>(match ai b with | .loc _=>.di | o=>o),O.bC⟩,⟨⟨fun b o e n=>g.cells b o e ((old b (by rw[e];intro z;cases z)).elim .inl fun z=>.inr (.inl z)) n,g.cU,g.bO⟩,fun b aa=>?_,rfl⟩,⟨fun b aa=>?_,d.tabs,cE.b8.1,fun b m=>?_⟩,⟨fun b aa=>?_,g.bC.symm⟩,fun b aa=>?_⟩
  ·dsimp only
   cases e:H b with
   |none=>exact absurd e aa|some o=>rfl
  ·dsimp only at aa
   cases e:H b with
   | some o=>exact g.has b (by rw[e];intro z;cases z)|none=>
    rw[e]at aa;refine d.has b fun z=>aa ?_
    dsimp only;rw[z]
  ·dsimp only
   cases e:H b with
   |some o=>exact cE.b8.2 b m| none=>exact absurd e (cE.has b (by rw[cE.b8.2 b m];intro z;cases z))
  ·dsimp only
   cases e:H b with
   |some o=>
    dsimp only;have:=(g.own b (by rw[e];intro z;cases z) (mG O b)).symm.trans aa;exact oR.mp this
   |none=>
    dsimp only;rw[aa]
  ·have aH:H b=none:=by
    cases e:H b with
    |none=>rfl|some o=>
     exfalso;have ba:=g.own b (by rw[e];intro z;cases z) (mG O b);rcases mG O b with z | z<;>rw[z]at ba<;>rcases aa with w | ⟨i,w⟩<;>rw[ba]at w<;>cases w
   refine⟨aH,?_⟩;dsimp only;rw[aH];rcases aa with w | ⟨i,w⟩<;>rw[w]
 refine⟨e6 O,_,S,a7,S1,vv,ae,?_⟩
 cases a7 with
 |bq σ'=>
  cases h;intro ai cD H' g b3 _;obtain⟨bf,g2,cN,f2,_⟩:=back g b3.b7;exact q bf .aW H' g2 cN rfl trivial
 |eP σ'=>cases h
 |b' σ'=>cases h
 |cS bL=>
  intro ai v H' g d w2 bo;obtain⟨bf,g2,cN,f2,eC⟩:=back g d
  cases bL with
  |v dd=>cases h;exact q bf v H' g2 cN (Rep.da f2 bo) trivial
  |fr xs=>
   cases h;obtain⟨a,ys,rfl,l,t,bh⟩:=bo;obtain⟨aH,bG⟩:=eC a t;exact q bf _ H' g2 cN ⟨a,ys,rfl,l,bG,bh.da f2⟩ fun b cJ=>by cases cJ;exact aH
  |b1 xs=>exact air bo|mv xs=>exact air bo
theorem Hs{P:ah1}{w:World}{K:aP}{mg:bk}{base:Heap}{x qual:Str}{st:Stmt}{ps N:List Str}{k:Nat}{c0:a0}{f:Addr}{fd:aiW}{n nl:Nat}(F:kW K x qual st f fd)(Sc:cp N ps (bH st))(aH:ps.length=n)(aj:N.length=nl)
  (aa:∀(bw:Value)(A:ah6)(outer:List Env)(s:ahL)(H:av)(E:gn),cB k (A.deeper (aiT qual (bH st) s.heap.objs.size f bw))->
   pR (gW ej P w K mg base N qual (bH st) f bw A outer s H E).gr (fg st) c0):e3 P w K mg base ej (k+1) f fd ps (b5 K mg (fnOf n nl c0)):=by
 subst aH aj;exact F.ok Sc (fun vs H Q E ⟨O,ds,r,S,cE,eK,eN,h,q⟩=>eN.len.trans (xa h)) fun bw A outer s H vs Q E aG hu=>⟨_,aa bw A outer s H E aG,Gy hu⟩
theorem oY{P:ah1}{w:World}{K:aP}{mg:bk}{base:Heap}{x:Str}{st:Stmt}{ps N:List Str}{k:Nat}{c0:a0}{n nl:Nat}(cn:cn K mg x st ps)(Sc:cp N ps (bH st))(aH:ps.length=n)(aj:N.length=nl)
  (aa:∀(f:Addr)(bw:Value)(A:ah6)(outer:List Env)(s:ahL)(H:av)(E:gn),cB k (A.deeper (aiT x (bH st) s.heap.objs.size f bw))->
   pR (gW ej P w K mg base N x (bH st) f bw A outer s H E).gr (fg st) c0):b6 P w K mg base x ps (k+1) (b5 K mg (fnOf n nl c0)):=by
 obtain⟨f,fd,F,b,m⟩:=cn.ex;exact⟨f,fd,Hs F Sc aH aj (fun bw=>aa f bw),b,F.kp,m⟩
omit [aF.a6]in
theorem G6{K:aP}{h:Heap}{mg:bk}{x:Str}{st:Stmt}{f:Addr}{ps:List Str}{c1 an:Option Addr}{cA:Array (Option Value)}{dw cw oU pm cd b':Value}(X:K.In h)(G:h.Ns aik mg)
  (a:ak2 K aik x=some (some (.ref f))) (l:K.lookup f=some ⟨dw,c1,.func (ajt x x (hV st) (fg st) (bH st) .none cw oU pm an cd b'),cA⟩) (c:alu K cd x=true) (k:ajG K (.ref f)=true)
  (aa:∀(cw doc pm:Value)(an:Option Addr)(bw b':Value)(us:List Value),us.length=ps.length->ajZ (ajt x x (hV st) (fg st) (bH st) .none cw doc pm an bw b') ⟨us,[]⟩=pure (ps.zip us)):cn K mg x st ps:=
 ⟨f,_,xf (st:=st) l c k,(xf (st:=st) l c k).binds aa,alw X G a⟩
abbrev vt(K:aP):d9:=fun vs H Q _=>∃(a:Addr)(ns:List Int),vs=[.ref a]/\c3 K H a (ns.map V.int)/\ns.length<=63/\TabsOk H/\∀H',Q (.aA true) H'
abbrev oB:Nat:=10715086071862673209484250490600018105614048117055336074437503883703510511249361224931983788156958581275946729175531468251871452856923140435984577574698574803934567774824230985421074605062371141877954182153046474983581941267398767559165543946077062914571196477686542167660429831652624386837205668069376
omit [aF.a6]in
theorem Gk:oB=2 ^ 1000:=by decide +kernel
omit [aF.a6]in
theorem Kd{i:Int}(h:i.natAbs<oB):ai0 i<=1000:=by
 unfold ai0;split
 ·exact aib _
 ·rename_i hz
  have:i.natAbs.log2<1000:=(Nat.log2_lt (by simpa using hz)).mpr (Gk▸h);omega
def nv(i j:Int):Prop:=(-(2 ^ 64)<i/\i<2 ^ 64)\/(-(2 ^ 64)<j/\j<2 ^ 64)\/(i.natAbs<oB/\j.natAbs<oB)
omit [aF.a6]in
theorem nv.ok{i j:Int}(h:nv i j):IntMulOk i j:=by
 rcases h with h | h | h
 ·exact(show vS i j from .inl h).ok
 ·exact(show vS i j from .inr h).ok
 ·have ae:=Kd h.1
  have ag:=Kd h.2;have aa:amz (ai0 i+ai0 j)=false:=by
   unfold amz;refine decide_eq_false ?_;have:(2000:Int)<=((bitsLine:Nat):Int):=by decide
   omega
  unfold IntMulOk;rw[aa];simp
instance (i j:Int):Decidable (nv i j):=by unfold nv;exact inferInstance
theorem YZ:d4 X (ajF .Mult) (j8 nv fun i j=>.int (i*j)):=sy fun _ _ _ _ _ _ _ aE q=>PyProof.Rows.mul_int q aE.ok
abbrev uX:=ob nv (· * ·)
theorem OP{X:aQ}:eb X.K X.mg (j8 nv fun i j=>.int (i*j)) uX:=rz fun _ _ h=>h
def nu(_ j:Int):Prop:=0<j/\j.natAbs<oB
instance (i j:Int):Decidable (nu i j):=by unfold nu;exact inferInstance
theorem YU:d4 X (ajF .FloorDiv) (j8 nu fun i j=>.int (i / j)):=sy fun i j _ _ _ _ _ aE q=>by
 have ae:(0:Int)<j:=aE.1;have ag:j.natAbs<oB:=aE.2;refine PyProof.Rows.floordiv_int (by omega) (by rw[alM i (by omega)];exact q) (.inl (PyProof.noPylong_of_log2 ?_));have:j.natAbs.log2<1000:=(Nat.log2_lt (by omega)).mpr (Gk▸ag);omega
abbrev fR:=ob nu (· / ·)
theorem OL{X:aQ}:eb X.K X.mg (j8 nu fun i j=>.int (i / j)) fR:=rz fun _ _ h=>h
def oBits:R->M R
 |.v (.int i)=>pure (.v (.int (ai0 i:Nat)))|_=>bad
structure Er(mg:bk):Prop where
 len:mg "len"=none
 range:mg "range"=none
 isinstance:mg "isinstance"=none
 max:mg "max"=none
 min:mg "min"=none
 any:mg "any"=none
 all:mg "all"=none
 IJ:mg "int"=none
 QC:mg "bool"=none
 XN:mg "list"=none
 tuple':mg "tuple"=none
 ach:mg "str"=none
 abs:mg "abs"=none
 sorted:mg "sorted"=none
 sum:mg "sum"=none
 zip:mg "zip"=none
 enumerate:mg "enumerate"=none
 reversed:mg "reversed"=none
 ahx:mg "set"=none
omit [aF.a6]in
theorem QD:aiC "abs"=some (.builtin "abs"):=by decide +kernel
end aY
namespace aY
open PySem PySem.Spec aF
@[simp] theorem afJ{α β:Type}(f:α->M β):(bad >>= f)=bad:=rfl
@[simp] theorem afN{p:Prop}[Decidable p]:hr p=if p then pure ()else bad:=rfl
@[simp] theorem afw:ab d σ=pure (.v d):=rfl
@[simp] theorem agZ:R.q7 (.v (.aA b))=pure b:=rfl
@[simp] theorem afv{g:Int->Int->Int}{i j:Int}:qO g (.v (.int i)) (.v (.int j))=pure (.v (.int (g i j))):=rfl
@[simp] theorem afu{C:Int->Int->Prop}[∀i j,Decidable (C i j)]{g:Int->Int->Int}{i j:Int}:ob C g (.v (.int i)) (.v (.int j))=if C i j then pure (.v (.int (g i j)))else bad:=rfl
@[simp] theorem aft{g:Int->Int->Bool}{i j:Int}:qN g (.v (.int i)) (.v (.int j))=pure (.v (.aA (g i j))):=rfl
@[simp] theorem afK{i:Int}:oBits (.v (.int i))=pure (.v (.int (ai0 i:Nat))):=rfl
@[simp] theorem agx:ar σ=pure []:=rfl
@[simp] theorem afW:R.dat (.v d)=pure d:=rfl
@[simp] theorem afT:R.dat (.fr xs)=pure (.lst xs):=rfl
@[simp] theorem afV:k3 []=pure []:=rfl
@[simp] theorem afU{r:R}:k3 (r::rs)=(do
  let d <-r.dat
  let ds <-k3 rs
  pure (d::ds)):=rfl
@[simp] theorem agu:R.eH (.v (.lst xs))=some xs:=rfl
@[simp] theorem ags:R.eH (.fr xs)=some xs:=rfl
@[simp] theorem agv:R.eH (.b1 xs)=some xs:=rfl
@[simp] theorem agt:R.eH (.mv xs)=some xs:=rfl
@[simp] theorem agH:R.seq (.v (.lst xs))=some xs:=rfl
@[simp] theorem agG:R.seq (.v (.tup xs))=some xs:=rfl
@[simp] theorem agE:R.seq (.fr xs)=some xs:=rfl
@[simp] theorem agI:R.seq (.b1 xs)=some xs:=rfl
@[simp] theorem agF:R.seq (.mv xs)=some xs:=rfl
@[simp] theorem agD:R.own (.v (.lst xs))=some xs:=rfl
@[simp] theorem agB:R.own (.fr xs)=some xs:=rfl
@[simp] theorem agC:R.own (.mv xs)=some xs:=rfl
@[simp] theorem afD:R.arg (.v d)=d:=rfl
@[simp] theorem afB:R.arg (.fr xs)=.lst xs:=rfl
@[simp] theorem afE:R.arg (.b1 xs)=.lst xs:=rfl
@[simp] theorem afC:R.arg (.mv xs)=.lst xs:=rfl
@[simp] theorem agq{x:R}:gX [x]=match x.seq with
  |some xs=>pure (.v (.int (xs.length:Nat)))|none=>bad:=rfl
@[simp] theorem agm:R.kind (.v .aW)=some "NoneType":=rfl
@[simp] theorem agh:R.kind (.v (.aA b))=some "bool":=rfl
@[simp] theorem agj{i:Int}:R.kind (.v (.int i))=some "int":=rfl
@[simp] theorem agn:R.kind (.v (.str x))=some "str":=rfl
@[simp] theorem ago:R.kind (.v (.tup xs))=some "tuple":=rfl
@[simp] theorem agk:R.kind (.v (.lst xs))=some "list":=rfl
@[simp] theorem agi:R.kind (.fr xs)=some "list":=rfl
@[simp] theorem agp:R.kind (.b1 xs)=some "list":=rfl
@[simp] theorem agl:R.kind (.mv xs)=some "list":=rfl
@[simp] theorem af2{x:R}:hs [x,.v (.ty n)]=match x.kind with
  |some t=>if n∈["int","bool","tuple","list","str"]then pure (.v (.aA (iM t n)))else bad|none=>bad:=rfl
@[simp] theorem af3{t n:String}:iM t n=(t==n||(t == "bool"&&n == "int")):=rfl
@[simp] theorem afs{g:Int->Int->Int}{i j:Int}:tN g [.v (.int i),.v (.int j)]=pure (.v (.int (g i j))):=rfl
@[simp] theorem afx{i:Int}:tO [.v (.int i)]=pure (.v (.int (if i<0 then -i else i))):=rfl
@[simp] theorem afz{x:R}:S9 [x]=match x.eH.bind lD with
  |some bs=>pure (.v (.aA (bs.any id)))|none=>bad:=rfl
@[simp] theorem afy{x:R}:rK [x]=match x.eH.bind lD with
  |some bs=>pure (.v (.aA (bs.all id)))|none=>bad:=rfl
theorem Gv{α:Type}(p:α->Bool):∀xs:List α,lD (xs.map fun x=>D.aA (p x))=some (xs.map p)
 |[]=>rfl| x::xs=>by rw[ahT,ahT,lD,Gv p xs];rfl
@[simp] theorem af0{i:Int}:rL [.v (.int i)]=pure (.v (.int i)):=rfl
@[simp] theorem afZ:rL [.v (.aA b)]=pure (.v (.int (if b then 1 else 0))):=rfl
@[simp] theorem ag0{x:R}:lN [x]=match x.seq with
  |some xs=>pure (.v (.tup xs))|none=>bad:=rfl
@[simp] theorem agf{i:Int}:aN (.v (.tup xs)) (.v (.int i))=match ed xs i with
   |some d=>pure (.v d)|none=>bad:=rfl
@[simp] theorem agd{i:Int}:aN (.v (.lst xs)) (.v (.int i))=match ed xs i with
   |some d=>pure (.v d)|none=>bad:=rfl
@[simp] theorem agc{i:Int}:aN (.fr xs) (.v (.int i))=match ed xs i with
   |some d=>pure (.v d)|none=>bad:=rfl
@[simp] theorem agg{i:Int}:aN (.b1 xs) (.v (.int i))=match ed xs i with
   |some d=>pure (.v d)|none=>bad:=rfl
@[simp] theorem age{i:Int}:aN (.mv xs) (.v (.int i))=match ed xs i with
   |some d=>pure (.v d)|none=>bad:=rfl
theorem nC{α:Type}{xs:List α}(k:Nat){v:α}(h:xs[k]? = some v):ed xs (k:Int)=some v:=OB h
@[simp] theorem afF{α:Type}{x:α}{xs:List α}:ed (x::xs) 0=some x:=nC 0 rfl
@[simp] theorem afG{α:Type}{x y:α}{xs:List α}:ed (x::y::xs) 1=some y:=nC 1 rfl
@[simp] theorem afH{α:Type}{x y z:α}{xs:List α}:ed (x::y::z::xs) 2=some z:=nC 2 rfl
@[simp] theorem afI{α:Type}{x y z w:α}{xs:List α}:ed (x::y::z::w::xs) 3=some w:=nC 3 rfl
@[simp] theorem afA{r:R}:h9 xs [r]=(do
  let d <-r.dat
  hr (xs.length<ahQ)
  pure (.v .aW,xs++[d])):=rfl
@[simp] theorem afY{r:R}:vC xs [r]=match r.own with
  |some ys=>do
   hr (xs.length+ys.length<=ahQ)
   pure (.v .aW,xs++ys)
  |none=>bad:=rfl
@[simp] theorem agy:Ab σ=pure none:=rfl
@[simp] theorem agM{l h:Option Int}:qQ (.fr xs) l h=pure (.fr (cutD xs l h)):=rfl
@[simp] theorem agX{l h:Option Int}:qQ (.b1 xs) l h=pure (.fr (cutD xs l h)):=rfl
@[simp] theorem agO{l h:Option Int}:qQ (.mv xs) l h=pure (.fr (cutD xs l h)):=rfl
@[simp] theorem agN{l h:Option Int}:qQ (.v (.lst xs)) l h=pure (.fr (cutD xs l h)):=rfl
@[simp] theorem agW{xs:List D}{l h:Option Int}:qQ (.v (.tup xs)) l h=if dE.cF xs.length 0 l=0/\dE.cF xs.length xs.length h=xs.length then bad else pure (.v (.tup (cutD xs l h))):=rfl
@[simp] theorem afP{cap:List Nat}:hU n cap σ=aiH n .emp++cap.map fun k=>rC σ[k]?:=rfl
@[simp] theorem afR:rC (some (.val d))=.val d:=rfl
@[simp] theorem afQ:rC (some (.dZ p xs))=.b1 xs:=rfl
@[simp] theorem afS:rC (some (.b1 xs))=.b1 xs:=rfl
@[simp] theorem ag1:gi σ=pure true:=rfl
@[simp] theorem af1{x:R}:kE x (.v .aW)=pure (.v (.aA x.kB)):=rfl
@[simp] theorem agz{x:R}:la x (.v .aW)=pure (.v (.aA (!x.kB))):=rfl
@[simp] theorem af4:R.kB (.v .aW)=true:=rfl
@[simp] theorem af7{i:Int}:R.kB (.v (.int i))=false:=rfl
@[simp] theorem aga:R.kB (.v (.tup xs))=false:=rfl
@[simp] theorem af6:R.kB (.fr xs)=false:=rfl
@[simp] theorem af9:R.kB (.v (.str x))=false:=rfl
@[simp] theorem afX{i j:Int}:oEq (.v (.int i)) (.v (.int j))=pure (.v (.aA (i==j))):=rfl
@[simp] theorem agw{i j:Int}:ez (.v (.int i)) (.v (.int j))=pure (.v (.aA (!(i==j)))):=rfl
theorem rG{x y:R}(ah:x.arg.bO 64=true)(a':y.arg.bO 64=true):oEq x y=pure (.v (.aA (jc x.arg y.arg))):=if_pos ⟨ah,a'⟩
theorem AD{x y:R}(ah:x.arg.bO 64=true)(a':y.arg.bO 64=true):ez x y=pure (.v (.aA (!jc x.arg y.arg))):=if_pos ⟨ah,a'⟩
@[simp] theorem agS:c8 (.lst xs)=.b1 xs:=rfl
@[simp] theorem agR{i:Int}:c8 (.int i)=.val (.int i):=rfl
@[simp] theorem agV:c8 (.tup xs)=.val (.tup xs):=rfl
@[simp] theorem agU:c8 (.str x)=.val (.str x):=rfl
@[simp] theorem agT:c8 .aW=.val .aW:=rfl
@[simp] theorem agP:c8 (.aA b)=.val (.aA b):=rfl
@[simp] theorem AB{n N:Nat}{ds:List D}:fnOf n N b ds=if ds.length=n then(do
  let a7 <-b (ds.map c8++aiH (N-n) .emp)
  match a7 with
  |.cS (.v d)=>pure (.v d)|.cS (.fr xs)=>pure (.fr xs)|.bq _=>pure (.v .aW)| _=>bad)else bad:=rfl
theorem Hk{b:D->a0}(I:Nat->aO->Prop):∀(ds:List D)(k:Nat)(σ:aO),I k σ->(∀i d σ,ds[i]? = some d->I (k+i) σ->∃σ',(b d σ=pure (.bq σ')\/b d σ=pure (.b' σ'))/\I (k+i+1) σ')->
  ∃σ',gc b ds σ=pure (.bq σ')/\I (k+ds.length) σ'
 |[],k,σ,h0,_=>⟨σ,rfl,h0⟩
 |d::ds,k,σ,h0,step=>by
  obtain⟨hJ,e,ae⟩:=step 0 d σ rfl h0;obtain⟨c6,aD,ag⟩:=Hk I ds (k+1) hJ ae fun i d' σ' hd mQ=>by
   have:=step (i+1) d' σ' (by simpa using hd) (by rw[show k+(i+1)=k+1+i by omega];exact mQ);rw[show k+(i+1)+1=k+1+i+1 by omega]at this;exact this
  refine⟨c6,?_,by rw[ahX,show k+(ds.length+1)=k+1+ds.length by omega];exact ag⟩;show(b d σ >>= _)=_;rcases e with e | e<;>rw[e]<;>exact aD
theorem tT{b:D->a0}{ds:List D}(I:Nat->aO->Prop)(h0:I 0 σ)(step:∀i d σ,ds[i]? = some d->I i σ->∃σ',(b d σ=pure (.bq σ')\/b d σ=pure (.b' σ'))/\I (i+1) σ') :
  ∃σ',gc b ds σ=pure (.bq σ')/\I ds.length σ':=by
 obtain⟨σ',e,h⟩:=Hk I ds 0 σ h0 fun i d σ hd mQ=>by
  rw[akU]at mQ ⊢;exact step i d σ hd mQ
 exact⟨σ',e,by rw[akU]at h;exact h⟩
theorem OD{ns:List Int}{k:Nat}(h:k<ns.length):ed (ns.map D.int) (k:Int)=some (.int (ns.getD k 0)):=by
 refine nC k ?_;rw[aia,ait h];simp[ail,h]
theorem mod_lt{a b:Int}(h:0<b):0<=a % b/\a % b<b:=⟨amq _ (by omega),alF _ h⟩
theorem XR{i:Int}(ae:-(10 ^ 200)<i)(ag:i<10 ^ 200):i.natAbs<oB:=by
 unfold oB;omega
theorem iG{i j:Int}(ae:0<j)(ag:j<10 ^ 200):nu i j:=⟨ae,XR (by omega) ag⟩
end aY
namespace aY
open PySem PySem.Spec aF
variable[aF.a6]
def ix:List Nat->List D->aO->aO
 |i::is,d::ds,σ=>ix is ds (σ.set i (.val d))|_,_,σ=>σ
def ht:List Nat->oO
 |[]=>HA|i::is=>Hz (k4 i) (ht is)
@[simp] def nF(is:List Nat)(m:bl)(σ:aO):M fm:=do
 let r <-m σ
 match r with
 |.v (.tup ds)=>if ds.length=is.length then pure (.bq (ix is ds σ))else bad|_=>bad
theorem vD{O:a3}:∀{is:List Nat}{ds:List D}{xs:List V}{σ:aO}{ak:St}{Q:St->av->Prop},b_ K mg O σ S ak H->a_ K mg O H ds xs->ds.length=is.length->
  (∀cD,b_ K mg O (ix is ds σ) S cD H->ek σ (ix is ds σ) ak cD->Q cD H)->ht is xs ak H Q
 |[],[],xs,σ,ak,Q,st,bh,aj,q=>⟨bh,q ak st (ek.refl _ _)⟩
 | [],_::_,xs,σ,ak,Q,st,bh,aj,q=>by cases aj
 | _::_,[],xs,σ,ak,Q,st,bh,aj,q=>by cases aj
 |i::is,d::ds,xs,σ,ak,Q,st,bh,aj,q=>by
  obtain⟨y,r,e,bt,bo⟩:=bh;refine⟨y,r,e,?_⟩;exact vD (is:=is) (st.val bt) bo (by simpa using aj) fun cD b3 k=>q cD b3 (ek.trans (ek.set fun xs z=>by cases z) k)
section
variable{X:aQ}{is:List Nat}{e:Expr}{ax:List Expr}{k:Nat}{it:eS}{b:a0}
theorem u9{i:Nat}{x:Str}{p:Pos}(hN:X.N.Nodup)(ay:X.N[i]? = some x)(ah:Loc X.env.scope x)(h:jT X ax (ht is))(aC:(ah4 (.Name x p::ax) X.env).map (·.2)=akc (.Name x p) X.env::(ah4 ax X.env).map (·.2):=by rfl)
  (hf:X.fn x=true\/X.env.scope.names.lookup x=some .local:=by first | exact .inl rfl | exact .inr rfl | assumption):jT X (.Name x p::ax) (ht (i::is)):=ZQ (u7 hN ay ah hf) h aC
theorem Dg:jT X [] (ht []):=ZR
@[simp] def wJ(is:List Nat)(it:eS)(b:a0)(σ:aO):M fm:=do
 let ds <-it σ
 gc (fun d σ=>match d with
  |.tup ax=>if ax.length=is.length then b (ix is ax σ)else bad| _=>bad) ds σ
theorem Th:∀D ak H,jj K mg (wJ is it b) D ak H->pH (vA K mg it) (oW K is.length (ht is)) (jj K mg b) D ak H:=
 Ht (B:=fun d σ=>match d with
  |.tup ax=>if ax.length=is.length then b (ix is ax σ)else bad| _=>bad) fun O σ S ak H d y f bj Q st bt h k=>by
  cases d with
  |tup ax=>
   by_cases c:ax.length=is.length
   ·dsimp only at h
    rw[if_pos c]at h;obtain⟨a,zs,e,t,jK⟩:=bt;exact⟨a,zs,e,t,by rw[jK.len,c],vD st jK c fun jm jN br=>k _ _ jN br h⟩
   ·dsimp only at h
    rw[if_neg c]at h;cases h
  |_=>cases h
end
omit [aF.a6]in
@[simp] theorem agJ{is:List Nat}{σ:aO}:ix (i::is) (d::ds) σ=ix is ds (σ.set i (.val d)):=rfl
omit [aF.a6]in
@[simp] theorem agK:ix [] ds σ=σ:=by cases ds<;>rfl
end aY
namespace aF
open PySem PySem.Spec PyProof.Rows
variable[aF.a6]
omit [aF.a6]in
theorem KY(ns:List Int):∀k,k<=ns.length->preSum (fun i=>ns.getD i 0) k=(ns.take k).sum
 | 0,_=>by rw[alv];rfl|k+1,h=>by
  have az:k<ns.length:=by omega
  rw[alV,ait az,List.sum_append];show preSum _ k+_=_;rw[KY ns k (by omega)];simp[ail,az]
theorem QX{X:aQ}(aE:X.calm=true):iZ X (.builtin "sum") (fun xs H Q=>∃(l:Addr)(ns:List Int),xs=[.ref l]/\c3 X.K H l (ns.map V.int)/\Q (.int ns.sum) H):=by
 intro pinZ s σ H xs us Q I bI h;obtain⟨l,ns,rfl,cq,q⟩:=h;obtain⟨u,rfl,bu⟩:=vals1 bI;cases bu;obtain⟨its,pG,p,hz⟩:=I.list cq;have e_:l<s.heap.objs.size:=by obtain⟨o,n,e,_⟩:=p;exact ahY e
 have aH:its.toArray.size=ns.length:=by
  have ag:=pG.length;rw[ahJ]at ag;simp[ag]
 have bz:∀(i:Nat)(v:Value),its.toArray[i]? = some v->∃t,v=ala (ns.getD i 0) t:=fun i v bz=>by
  have jH:its[i]? = some v:=by simpa using bz
  have ay:i<ns.length:=by
   have ae:=(ahN.mp jH).1;have ag:=pG.length;rw[ahJ]at ag;omega
  obtain⟨u,cb,dD⟩:=pG.get (i:=i) (x:=.int ns[i]) (by rw[aia,ait ay];rfl);rw[jH]at cb;cases cb;obtain⟨t,rfl⟩:=dD;exact⟨t,by rw[ail,ait ay];rfl⟩
 refine call_sum_walkG (ajA p.isList ?_);refine⟨s.heap.objs.size,_,_,_,_,_,fun i=>ns.getD i 0,rfl,amC (A:=X.A.in1) (show X.A.in1.handled=none from I.ok.hd aE) s.heap.objs.size l (ah5 e_) its.toArray,⟨⟨_,ahU _ rfl,rfl,rfl⟩,p.isList.at fun o e=>ahI _ e⟩,fun b aa=>?_,bz,fun h' tk t' k=>?_⟩
 ·show b<(s.heap.push _).objs.size
  rw[ajY];rcases ahP.mp aa with rfl | aa
  ·exact al8 _
  ·rw[aij.mp aa];exact akZ e_
 rw[aH,KY ns _ (ahM _),ak8];exact⟨.int _,H,I.kept (h':=h') (t':=tk) fun b o e=>k b o (by intro z;rw[aij.mp z]at e;exact absurd (ahY e) (aii _)) (ahI _ e),⟨_,rfl⟩,q⟩
end aF
namespace aY
open PySem PySem.Spec aF
variable[aF.a6]
omit [aF.a6]in
theorem QJ:aiC "sum"=some (.builtin "sum"):=by decide +kernel
def nums:List D->Option (List Int)
 |[]=>some []|.int b::r=>(nums r).map (b::·)|_=>none
def qc:List R->M R
 |[x]=>match x.eH.bind nums with
  |some bs=>pure (.v (.int bs.sum))|none=>bad
 |_=>bad
section
variable{K:aP}{mg:bk}
theorem sq{O:a3}:∀{ds:List D}{ys:List V}{bs:List Int},a_ K mg O H ds ys->nums ds=some bs->ys=bs.map V.int
 | [],ys,bs,h,e=>by cases e;exact h
 |d::ds,ys,bs,h,e=>by
  cases d with
  |int b=>
   have e:(nums ds).map (b::·)=some bs:=e;obtain⟨cs,aq,rfl⟩:=akp.mp e;obtain⟨y,r,rfl,ae,ag⟩:=h;rw[sq ag aq,show y=.int b from ae];rfl
  | _=>exact absurd (show(none:Option (List Int))=some bs from e) (by intro z;cases z)
theorem WW:jo K mg (fun xs H Q=>∃(l:Addr)(bs:List Int),xs=[.ref l]/\c3 K H l (bs.map V.int)/\Q (.int bs.sum) H) qc:=fun O σ S ak H vs rs bL au Q st aG h q=>by
 unfold qc at h;split at h
 ·rename_i x
  obtain⟨v,rfl,ah⟩:=kG aG;split at h
  ·rename_i xs e
   cases h;obtain⟨zs,aq,aD⟩:=ami.mp e;obtain⟨a,ys,rfl,l,bh⟩:=R.mY ah aq;rw[sq bh aD]at l;exact⟨a,xs,rfl,l,q O _ H (Go.refl _ _) st rfl trivial⟩
  ·cases h
 ·cases h
end
omit [aF.a6]in
@[simp] theorem agY{x:R}:qc [x]=match x.eH.bind nums with
  |some bs=>pure (.v (.int bs.sum))|none=>bad:=rfl
omit [aF.a6]in
theorem CQ{α:Type}(p:α->Int):∀xs:List α,nums (xs.map fun x=>D.int (p x))=some (xs.map p)
 |[]=>rfl| x::xs=>by rw[ahT,ahT,nums,CQ p xs];rfl
end aY
namespace aY
open PySem PySem.Spec aF
section
variable[aF.a6](X:aQ)
structure bb(e:Expr)(m:bl):Prop where
 un:hn X e m
structure fe(e:Expr)(m:aO->M Bool):Prop where
 un:Eu X e m
structure k0(e:Expr)(m:aO->M Bool):Prop where
 un:vU X e m
structure gm(e:List Expr)(m:cL):Prop where
 un:vR X e m
structure rx(e:Option Expr)(m:oH):Prop where
 un:N2 X e m
structure eM(e:Stmt)(m:a0):Prop where
 un:zt X e m
structure fK(e:List Stmt)(m:a0):Prop where
 un:pR X e m
structure oQ(cc e:Expr)(m:eS):Prop where
 un:Es X cc e m
structure tq(cc e:Expr)(m:eS):Prop where
 un:N1 X cc e m
structure oP(e:List Expr)(m:aO->M Bool):Prop where
 un:zr X e m
end
section
variable[aF.a6]
variable{X:aQ}{a e:Expr}{pos:Pos}
theorem es(i:Nat)(hN:X.N[i]? = some x:=by rfl)(bz:p0 X.env.scope x:=by first | exact ajE rfl | exact aiI (.inl rfl) | exact aiI (aiI rfl))(hd:(x==("__debug__":Str))=false:=by decide)(gq:(x==("__classdict__":Str))=false:=by decide):bb X (.Name x pos) (J i):=⟨eh (yG hN bz hd gq) fun ak H Q aX=>by
 obtain⟨O,σ,S,r,au,st,h,q⟩:=aX;unfold J at h
 cases e:σ[i]? with
 |none=>rw[e]at h;cases h
 |some s=>
  rw[e]at h;have l:=st.loc i s e;have get:∀{v:V},ak[i]?.join=some v->ak[i]? = some (some v):=fun{v} z=>by
   cases w:ak[i]? with
   |none=>rw[w]at z;cases z
   |some y=>rw[w]at z;exact congrArg some z
  cases s with
  |val d=>
   obtain⟨v,aq,aD⟩:=l;cases h;exact⟨v,get aq,q O v H (Go.refl _ _) st aD trivial⟩
  |dZ p xs=>
   obtain⟨a,ys,aq,aD,cQ,e8⟩:=l;cases h;exact⟨_,get aq,q O _ H (Go.refl _ _) st ⟨a,ys,rfl,cQ,e8⟩ trivial⟩
  |b1 xs=>
   obtain⟨a,ys,aq,aD,e8⟩:=l;cases h;exact⟨_,get aq,q O _ H (Go.refl _ _) st ⟨a,ys,rfl,aD,e8⟩ trivial⟩
  | emp=>cases h⟩
end
section
variable[aF.a6]
variable{X:aQ}{e:Expr}{ax:List Expr}{m:bl}{ms:cL}
theorem fT(ao:bb X e m)(aG:gm X ax ms)(aC:ahK (e::ax) X.env=(false,eval e X.env)::ahK ax X.env:=by rfl):gm X (e::ax) (U m ms):=⟨u3 (yE ao.un aG.un aC) fun ak H Q aX=>by
 obtain⟨O,σ,S,r,au,st,h,q⟩:=aX;obtain⟨x,S1,ae,h⟩:=M.inv h;obtain⟨xs,bj,ag,h⟩:=M.inv h;cases h;refine⟨O,σ,S,x,S1,st,ae,fun aK gv H1 g1 aU a5 bq=>?_⟩;refine⟨aK,σ,S1,xs,_,aU,ag,fun bf vs aJ g2 cv rs ns=>?_⟩;exact q bf (gv::vs) aJ (g1.trans g2) cv ⟨gv,vs,rfl,a5.go g2,rs⟩ ⟨bq,ns.back g1.same⟩⟩
end
section
variable[aF.a6]
variable{X:aQ}{pos:Pos}
theorem g6{i j pos}:bb X (.Constant (.int i) j pos) (ab (.int i)):=⟨tG ZA fun _ _=>rfl⟩
end
section
variable[aF.a6]
variable{X:aQ}
theorem kN :gm X [] ar:=⟨u3 yF fun ak H Q aX=>by
 obtain⟨O,σ,S,r,au,st,h,q⟩:=aX;cases h;exact q O [] H (Go.refl _ _) st rfl trivial⟩
end
section
variable[aF.a6]
variable{X:aQ}{a b:Expr}{cT c0:bl}{pos:Pos}
theorem lr{r:fG}(bc:d4 X (ajF op) r)(hf:eb X.K X.mg r f)(ao:bb X a cT)(aa:bb X b c0):bb X (.BinOp a op b pos) (af f cT c0):=⟨eh (ZK bc ao.un aa.un) (tB hf)⟩
end
section
variable[aF.a6]
variable{X:aQ}{st:Stmt}{rest:List Stmt}{a b:a0}
theorem pO(ae:eM X st a)(ag:fK X rest b):fK X (st::rest) (bZ a b):=⟨yH (K1 ae.un ag.un) fun D ak H aX=>by
 obtain⟨O,σ,S,a7,au,st,h,q⟩:=aX;obtain⟨f1,S1,ae,h⟩:=M.inv h;refine⟨O,σ,S,f1,S1,st,ae,?_⟩
 cases f1 with
 |bq hJ=>exact fun aK vQ H1 g1 aU gH=>⟨aK,hJ,S1,a7,au,aU,h,q.aB g1 gH⟩
 |cS r=>cases h;exact q
 |eP hJ=>cases h;exact q
 | b' hJ=>cases h;exact q⟩
end
section
variable[aF.a6]
variable{X:aQ}{st:Stmt}{a:a0}
theorem rf(h:eM X st a):fK X [st] a:=⟨K2 h.un⟩
end
section
variable[aF.a6]
variable{X:aQ}{a b:Expr}{cT c0:bl}{pos:Pos}
theorem h_{r:fG}(bc:mA X r)(hf:eb X.K X.mg r f)(ao:bb X a cT)(aa:bb X b c0)(aC:EJ b:=by exact fun _ _=>rfl):bb X (.Subscript a b pos) (af f cT c0):=⟨eh (ZC bc ao.un aa.un aC) (tB hf)⟩
end
section
variable[aF.a6]
variable{X:aQ}{st:Stmt}{pos:Pos}{e:Expr}{m:bl}
theorem sX(he:bb X e m):eM X (.Return (some e) pos) (bE m):=⟨gh (Dk he.un) fun D ak H aX=>by
 obtain⟨O,σ,S,a7,au,st,h,q⟩:=aX;obtain⟨r,S1,ae,h⟩:=M.inv h;refine⟨O,σ,S,r,S1,st,ae,fun aK v H1 g1 aU bo nn=>?_⟩
 cases r with
 |v d=>cases h;exact q aK v H1 g1.aB aU.b7 aU.gM bo
 |fr xs=>cases h;exact q aK v H1 g1.aB aU.b7 aU.gM (Lm bo (.inr ⟨_,rfl⟩))
 |b1 xs=>cases h
 | mv xs=>cases h⟩
end
section
variable[aF.a6]
variable{X:aQ}{ax:List Expr}{ms:cL}{pos:Pos}
theorem pM{lu}(h:gm X ax ms):bb X (.Tuple ax lu pos) (bB ms):=⟨eh (Df h.un) fun ak H Q aX=>by
 obtain⟨O,σ,S,r,au,st,h,q⟩:=aX;obtain⟨rs,S1,ae,h⟩:=M.inv h;obtain⟨ds,bj,ag,h⟩:=M.inv h;obtain⟨_,hR,bK,h⟩:=M.inv h;obtain⟨aj,rfl⟩:=p5 bK;cases h;refine⟨O,σ,S,rs,S1,st,ae,fun aK vs H1 g1 aU bo nn=>?_⟩;obtain⟨bh,rfl⟩:=wX (H₀:=H) bo nn ag;refine⟨ai5 (eB (by rw[bh.len];exact aj)),fun p aI=>?_⟩;exact q (bW H aK) _ _ (g1.bW.trans (Go.eJ aI)) ((aU.bW H).eJ aI) ⟨p,vs,rfl,dp.of de,bh.go (Go.eJ aI)⟩ trivial⟩
end
section
variable[aF.a6]
variable{X:aQ}{pos:Pos}{e:Expr}{m:bl}
variable{i:Nat}{x:Str}{pos':Pos}
theorem Ed(hN:X.N.Nodup)(ay:X.N[i]? = some x)(ah:Loc X.env.scope x)(he:bb X e m)(aC:aje e (some (.Name x pos')) pos.line X.env=pure false:=by rfl)(hf:X.fn x=true\/X.env.scope.names.lookup x=some .local:=by first | exact .inl rfl | exact .inr rfl | assumption):eM X (.Assign [.Name x pos'] e pos) (cg i m):=⟨gh (Dl hN ay ah he.un aC hf) (Mw fun _ _ _ h=>h)⟩
end
section
variable[aF.a6]
variable{X:aQ}{x:Str}{ps:List Str}{k:Nat}{mf:bD}{p pos:Pos}{e:Expr}{ax:List Expr}{ms:cL}
theorem adz(h:b6 X.prog X.w X.K X.mg X.base x ps k (b5 X.K X.mg mf))(aG:cB k X.A)(aS:d3 X x)(ao:gm X (e::ax) ms)(ey:(x==("__debug__":Str))=false:=by decide)(he:ahK (e::ax) X.env=(false,eval e X.env)::ahK ax X.env:=by rfl)(eY:(aie pos (ahK ax X.env)).any (·.1)=false:=by rfl):bb X (.Call (.Name x p) (e::ax) [] pos) (bJ mf ms):=⟨eh (KJ h aG aS ao.un ey he eY) Ag⟩
end
section
variable[aF.a6]
variable{X:aQ}{x:Str}{ps:List Str}{k:Nat}{mf:bD}{p pos:Pos}
theorem adA(h:b6 X.prog X.w X.K X.mg X.base x ps k (b5 X.K X.mg mf))(aG:cB k X.A)(aS:d3 X x)(ey:(x==("__debug__":Str))=false:=by decide):bb X (.Call (.Name x p) [] [] pos) (bJ mf ar):=⟨eh (Zy h aG aS ey) fun ak H Q h=>by
  obtain⟨O,σ,S,rs,S1,st,ae,q⟩:=Ag ak H Q h;cases ae;exact q O [] H (Go.refl _ _) st rfl trivial⟩
end
section
variable[aF.a6]
variable{X:aQ}{e:Expr}{ax:List Expr}{ms:cL}{pos p:Pos}{x:Str}{id:String}{r:List V->av->cZ->Prop}{f:List R->M R}
theorem mi(aE:iZ X (.builtin id) r)(hf:jo X.K X.mg r f)(aS:d3 X x)(hm:X.mg x=none)(bz:aiC x=some (.builtin id))(ao:gm X (e::ax) ms)(aH:x≠"__name__":=by decide)(ey:(x==("__debug__":Str))=false:=by decide)(he:ahK (e::ax) X.env=(false,eval e X.env)::ahK ax X.env:=by rfl)(eY:(aie pos (ahK ax X.env)).any (·.1)=false:=by rfl):bb X (.Call (.Name x p) (e::ax) [] pos) (cC f ms):=⟨eh (Zp aE aS hm bz ao.un aH ey he eY) (GD hf)⟩
end
section
variable[aF.a6]
variable{X:aQ}{st:Stmt}{pos:Pos}{a b:a0}
theorem Ec{t:aO->M Bool}(aE:fe X c t)(ao:fK X A a)(aa:fK X B b):eM X (.If c A B pos) (c4 t a b):=⟨gh (K0 aE.un ao.un aa.un) fun D ak H aX=>by
 obtain⟨O,σ,S,a7,au,st,h,q⟩:=aX;obtain⟨t,S1,ae,h⟩:=M.inv h;refine⟨O,σ,S,t,S1,st,ae,fun aK H1 g1 aU=>?_⟩
 cases t with
 |false=>
  rw[if_neg ahV]at h;exact qv ⟨aK,σ,S1,a7,au,aU,h,q.aB g1.aB (ek.refl _ _)⟩
 |true=>
  rw[if_pos rfl]at h;exact qw ⟨aK,σ,S1,a7,au,aU,h,q.aB g1.aB (ek.refl _ _)⟩⟩
end
section
variable[aF.a6]
variable{X:aQ}{st:Stmt}
theorem Ee :fK X [] cH:=⟨yH Z6 fun D ak H aX=>by obtain⟨O,σ,S,a7,au,st,h,q⟩:=aX;cases h;exact q O ak H (dP.refl _ _) st (ek.refl _ _)⟩
end
section
variable[aF.a6]
variable{X:aQ}{a b:Expr}{cT c0:bl}{pos:Pos}
theorem iX{r:fG}(bc:d4 X (ais op) r)(hf:eb X.K X.mg r f)(ao:bb X a cT)(aa:bb X b c0)(hm:ajC op b=false:=by exact ja _):fe X (.Compare a [op] [b] pos) (bg (af f cT c0)):=⟨qV (Z8 bc ao.un aa.un hm) fun ak H Q h=>MR (tB hf) ak H Q (DV ak H Q h)⟩
end
section
variable[aF.a6]
variable{X:aQ}{a:Expr}{cT:bl}{pos:Pos}
theorem aec(ao:bb X a cT)(he:∀whole,isTrue a X.env whole=(do let v <-whole;akt a.pos;ajz [v] (truthy v)):=by intro _;rfl):fe X a (bg cT):=⟨qV (K4 ao.un he) fun ak H Q h=>DV ak H Q h⟩
end
section
variable[aF.a6]
variable{X:aQ}{e:Expr}
theorem rb{v:V}(h:bQ X e (om v))(r:∀O H,Rep X.K X.mg O H d v):bb X e (ab d):=⟨tG h r⟩
end
section
variable[aF.a6]
variable{X:aQ}{ax:List Expr}{ms:cL}{pos:Pos}
theorem adH(h:gm X ax ms):bb X (.List ax pos) (dS ms):=⟨eh (ZD h.un) fun ak H Q aX=>by
 obtain⟨O,σ,S,r,au,st,h,q⟩:=aX;obtain⟨rs,S1,ae,h⟩:=M.inv h;obtain⟨ds,bj,ag,h⟩:=M.inv h;obtain⟨_,hR,bK,h⟩:=M.inv h;obtain⟨aj,rfl⟩:=p5 bK;cases h;refine⟨O,σ,S,rs,S1,st,ae,fun aK vs H1 g1 aU bo nn=>?_⟩;obtain⟨bh,rfl⟩:=wX (H₀:=H) bo nn ag;refine⟨ai5 (eB (by rw[bh.len];exact aj)),fun p aI=>?_⟩;refine q (fC (bW H aK) p .di) _ _ (g1.bW.trans (Go.new aI)) ((aU.bW H).new aI) ⟨p,vs,rfl,de,nk,bh.go (Go.new aI)⟩ fun a gb=>?_
 cases gb;exact g1.same.free aI⟩
end
section
variable[aF.a6]
variable{X:aQ}{b:Expr}{pos:Pos}
theorem ady{b j pos}:bb X (.Constant (.bool b) j pos) (ab (.aA b)):=⟨tG Zl fun _ _=>rfl⟩
end
section
variable[aF.a6]
variable{X:aQ}{a:Expr}{b0:aO->M Bool}{pos:Pos}
theorem aeb(ao:fe X a b0):fe X (.UnaryOp .Not a pos) (f3 b0):=⟨qV (K3 ao.un) fun ak H Q aX=>by
 obtain⟨O,σ,S,r,au,st,h,q⟩:=aX;obtain⟨t,S1,ae,h⟩:=M.inv h;cases h;exact⟨O,σ,S,t,_,st,ae,fun aK H1 g1 aU=>q aK H1 g1 aU⟩⟩
end
section
variable[aF.a6]
variable{X:aQ}{a b:Expr}{b0 cU:aO->M Bool}{pos:Pos}
variable{rest:List Expr}
theorem aef(ao:fe X a b0)(aa:k0 X (.BoolOp .Or (b::rest) pos) cU):k0 X (.BoolOp .Or (a::b::rest) pos) (iW b0 cU):=⟨K7 (aaa ao.un aa.un) fun ak H Q aX=>by
 obtain⟨O,σ,S,r,au,st,h,q⟩:=aX;obtain⟨t,S1,ae,h⟩:=M.inv h;refine⟨O,σ,S,t,S1,st,ae,fun aK H1 g1 aU=>?_⟩
 cases t with
 |true=>
  rw[if_pos rfl]at h;cases h;exact qw (q aK H1 g1 aU)
 |false=>
  rw[if_neg ahV]at h;exact qv ⟨aK,σ,S1,r,au,aU,h,fun ai H' g b3=>q ai H' (g1.trans g) b3⟩⟩
end
section
variable[aF.a6]
variable{X:aQ}{pos:Pos}
theorem adQ{x j pos}:bb X (.Constant (.str x) j pos) (ab (.str x)):=⟨tG KQ fun _ _=>rfl⟩
end
section
variable[aF.a6]
variable{X:aQ}{pos:Pos}
theorem adL{j pos}:bb X (.Constant .none j pos) (ab .aW):=⟨tG ZH fun _ _=>rfl⟩
end
section
variable[aF.a6]
variable{X:aQ}{a b:Expr}{cT c0:bl}{pos:Pos}
theorem ra{r:fG}(bc:d4 X (ais op) r)(hf:eb X.K X.mg r f)(ao:bb X a cT)(aa:bb X b c0)(hm:ajC op b=false):bb X (.Compare a [op] [b] pos) (af f cT c0):=⟨eh (Zs bc ao.un aa.un hm) (tB hf)⟩
end
section
variable[aF.a6]
variable{X:aQ}{iter:Expr}{it:eS}{i:Nat}{b:a0}{body:List Stmt}{pos dq:Pos}{x:Str}
theorem ad2(aI:akA (model X.prog X.w) X.A X.env X.dA)(aE:X.calm=true)(ay:tq X (.Name x dq) iter it)(hN:X.N.Nodup)(ah:X.N[i]? = some x)(aj:Loc X.env.scope x)(aa:fK X body b)(aC:∀x,aip iter X.env x=pure x:=by intro _;rfl)(hf:X.fn x=true\/X.env.scope.names.lookup x=some .local:=by first | exact .inl rfl | exact .inr rfl | assumption):eM X (.For (.Name x dq) iter body [] pos) (nE i it b):=⟨gh (sD aI aE ay.un (u7 hN ah aj hf) aa.un aC) Tn⟩
end
section
variable[aF.a6]
variable{X:aQ}{a b:Expr}{cT c0:bl}{pos:Pos}
variable{rest:List Expr}
theorem adv(ao:bb X a cT)(aa:bb X (.BoolOp .And (b::rest) pos) c0):bb X (.BoolOp .And (a::b::rest) pos) (nD cT c0):=⟨eh (Zk ao.un aa.un) fun ak H Q aX=>by
 obtain⟨O,σ,S,r,au,st,h,q⟩:=aX;obtain⟨x,S1,ae,h⟩:=M.inv h;obtain⟨t,bj,ag,h⟩:=M.inv h;obtain⟨rfl,rfl⟩:=vB ag;refine⟨O,σ,S,_,_,st,ae,fun aK gv H1 g1 aU a5 bq=>⟨t,a5,?_⟩⟩
 cases t with
 |false=>
  rw[if_neg ahV]at h;cases h;exact qv (q aK _ H1 g1 aU rfl trivial)
 |true=>
  rw[if_pos rfl]at h;exact qw ⟨aK,σ,_,r,au,aU,h,fun ai v H' g b3 bo nn=>q ai v H' (g1.trans g) b3 bo (nn.back g1.same)⟩⟩
end
section
variable[aF.a6]
variable{X:aQ}{a:Expr}{b0:aO->M Bool}{pos:Pos}
theorem aeg(ao:fe X a b0):k0 X (.BoolOp .Or [a] pos) b0:=⟨aab ao.un⟩
end
section
variable[aF.a6]
variable{X:aQ}{a b:Expr}{b0 cU:aO->M Bool}{pos:Pos}
variable{rest:List Expr}
theorem aed(ao:fe X a b0)(aa:k0 X (.BoolOp .And (b::rest) pos) cU):k0 X (.BoolOp .And (a::b::rest) pos) (g5 b0 cU):=⟨K7 (Z_ ao.un aa.un) fun ak H Q aX=>by
 obtain⟨O,σ,S,r,au,st,h,q⟩:=aX;obtain⟨t,S1,ae,h⟩:=M.inv h;refine⟨O,σ,S,t,S1,st,ae,fun aK H1 g1 aU=>?_⟩
 cases t with
 |false=>
  rw[if_neg ahV]at h;cases h;exact qv (q aK H1 g1 aU)
 |true=>
  rw[if_pos rfl]at h;exact qw ⟨aK,σ,S1,r,au,aU,h,fun ai H' g b3=>q ai H' (g1.trans g) b3⟩⟩
end
section
variable[aF.a6]
variable{X:aQ}{e:Expr}{m:bl}
theorem ad0(he:bb X e m):rx X (some e) (wM m):=⟨fun pinZ s ak H Q I aX=>by
 obtain⟨O,σ,S,r,au,st,h,q⟩:=aX;obtain⟨x,S1,ae,h⟩:=M.inv h;split at h
 ·rename_i i
  cases h;exact ZX he.un pinZ s ak H Q I ⟨O,σ,S,_,_,st,ae,fun aK v H1 g1 aU bo _=>⟨i,bo,q aK H1 g1 aU⟩⟩
 ·cases h⟩
end
section
variable[aF.a6]
variable{X:aQ}
theorem adZ :rx X none Ab:=⟨fun pinZ s ak H Q I aX=>by
 obtain⟨O,σ,S,r,au,st,h,q⟩:=aX;cases h;exact ZW pinZ s ak H Q I (q O H (Go.refl _ _) st)⟩
end
section
variable[aF.a6]
variable{X:aQ}{e:Expr}{m:bl}{lo ay:Option Expr}{pq uN:oH}{pos du:Pos}
theorem adO(he:bb X e m)(aj:rx X lo pq)(cb:rx X ay uN):bb X (.Subscript e (.Slice lo ay none du) pos) (Ac m pq uN):=⟨eh (KP (ab1.or My) he.un aj.un cb.un) fun ak H Q aX=>by
 obtain⟨O,σ,S,r,au,st,h,q⟩:=aX;obtain⟨x,S1,ae,ao⟩:=M.inv h;clear h;obtain⟨l,bj,ag,aa⟩:=M.inv ao;clear ao;obtain⟨u,hR,bK,h⟩:=M.inv aa;clear aa;refine⟨O,σ,S,x,S1,st,ae,fun aK gv H1 g1 aU a5 bq=>?_⟩;refine⟨aK,σ,S1,l,bj,aU,ag,fun bf aJ g2 cv=>?_⟩;refine⟨bf,σ,bj,u,hR,cv,bK,fun eu cG g3 gL=>?_⟩;have g:=(g1.trans g2).trans g3;have yO:=a5.go (g2.trans g3);unfold qQ at h;split at h
 ·rename_i xs
  by_cases c:dE.cF xs.length 0 l=0/\dE.cF xs.length xs.length u=xs.length
  ·rw[if_pos c]at h;cases h
  ·rw[if_neg c]at h
   cases h;obtain⟨a,ys,rfl,bP,bh⟩:=yO;exact .inr ⟨a,ys,rfl,bP,by rw[bh.len];exact c,fun p aI=>q eu _ _ (g.trans (Go.eJ aI)) (gL.eJ aI) ⟨p,_,rfl,dp.of de,(bh.cut l u).go (Go.eJ aI)⟩ trivial⟩
 ·split at h
  ·rename_i xs aq
   cases h;obtain⟨a,ys,rfl,bP,bh⟩:=R.mY yO aq;refine .inl ⟨a,ys,rfl,bP,fun p aI=>q (fC eu p .di) _ _ (g.trans (Go.new aI)) (gL.new aI) ⟨p,_,rfl,de,nk,(bh.cut l u).go (Go.new aI)⟩ fun b cJ=>?_⟩;cases cJ;exact g.same.free aI
  ·cases h⟩
end
section
variable[aF.a6]
variable{X:aQ}{a:Expr}{cT:bl}{pos:Pos}
theorem adN{op}(h:bb X a cT):bb X (.BoolOp op [a] pos) cT:=⟨ZJ h.un⟩
end
section
variable[aF.a6]
variable{X:aQ}{scope esc:Scope}{EN N:List Str}{n:Nat}{cap:List Nat}{elt iter:Expr}{ifs:List Expr}{pos dq:Pos}{x:Str}{it:eS}{t:aO->M Bool}{el:bl}
theorem adC(S:kS esc scope EN N n cap)(aH:0<n)(ay:oQ X (.Name x dq) iter it)(ah:N[0]? = some x)(iJ:∀C aL s H,Loc (cm X scope N C aL s H).env.scope x/\(cm X scope N C aL s H).env.scope.names.lookup x=some .local)(bG:∀C aL s H,oP (cm X scope N C aL s H) ifs t)(hY:∀C aL s H,bb (cm X scope N C aL s H) elt el)(he:X.env.scope=esc:=by rfl)(hN:X.N=EN:=by rfl)(aE:X.calm=true:=by rfl)(aC:∀x,aip iter X.env x=pure x:=by intro _;rfl):bb X (.ListComp elt [⟨.Name x dq,iter,ifs,0⟩] scope pos) (eV n cap it t el):=⟨eh (De (wi:=pI X.K X.mg it) (g:=k4 0) (tt:=kL X.K X.mg t) (te:=e' X.K X.mg el) S ay.un (fun C aL s H=>u7 S.eI ah (iJ C aL s H).1 (.inr (iJ C aL s H).2)) (fun C aL s H=>(bG C aL s H).un) (fun C aL s H=>(hY C aL s H).un) he hN aE aC) (An aH)⟩
end
section
variable[aF.a6]
variable{X:aQ}{x:Str}{i:Nat}{p apos cM pos:Pos}{e:Expr}{ax:List Expr}{ms:cL}{name:Str}{id:String}{f:List D->List R->M (R×List D)}{r:V->List V->av->cZ->Prop}
theorem za(slot:PySem.Slot "list" name id)(qq:typeOf (.builtin id)=pure (.type "method_descriptor"))(hm:v8 X id r)(hf:tb X.K X.mg r f)(ao:gm X (e::ax) ms)(hN:X.N[i]? = some x)(bz:p0 X.env.scope x)(hd:(x==("__debug__":Str))=false:=by decide)(gq:(x==("__classdict__":Str))=false:=by decide)(nQ:ajr (.Name x p) name X.env (eval (.Name x p) X.env)=eval (.Name x p) X.env:=by rfl) (ue:((aie cM (ahK (e::ax) X.env)).all (fun x=>!x.1)&&(ajv cM (ai6 [] X.env)).all (fun x=>x.1.isSome)
&&decide ((e::ax).length+([]:List akY).length+(if([]:List akY).isEmpty then 0 else 1)<30))=true:=by rfl) (nX:(apos.endLine==cM.line)=true:=by rfl) (aC:ahK (e::ax) X.env=(false,eval e X.env)::ahK ax X.env:=by rfl) (iK:(aie cM (ahK ax X.env)).any (·.1)=false:=by rfl) (l0:aje (.Call (.Attribute (.Name x p) name apos) (e::ax) [] cM) none pos.line X.env=pure false:=by rfl):eM X (.Expr (.Call (.Attribute (.Name x p) name apos) (e::ax) [] cM) pos) (ki i f ms):=⟨gh (Dj (KI amj slot qq hm (yG hN bz hd gq) ao.un nQ ue nX aC iK) l0) fun D ak H aX=>by
  obtain⟨O,σ,S,a7,au,st,h,q⟩:=aX;obtain⟨⟨b4,c6⟩,S1,ae,h⟩:=M.inv h;cases h;exact Yd hf st ae fun ai v H' g b3 k _=>q ai ak H' g b3 k⟩
end
section
variable[aF.a6]
variable{X:aQ}{a:Expr}{b0:aO->M Bool}{pos:Pos}
theorem aee(ao:fe X a b0):k0 X (.BoolOp .And [a] pos) b0:=⟨Z' ao.un⟩
end
section
variable[aF.a6]
variable{X:aQ}{cc l:Expr}{m:bl}{a:Expr}
theorem adT(aj:bb X l m):tq X cc l (BJ m):=⟨pD (Dh aj.un) fun ak H R aX=>by
 obtain⟨O,σ,S,xs,au,st,h,q⟩:=aX;obtain⟨r,S1,ae,h⟩:=M.inv h;refine⟨O,σ,S,r,S1,st,ae,fun aK v H1 g1 aU bo nn=>?_⟩;split at h
 ·cases h
  obtain⟨a,ys,rfl,ls,bh⟩:=bo;exact⟨a,rfl,⟨ys,ls.c9⟩,q aK H1 (lz X.K a) ys g1 aU (BR (.inl ⟨.inl ls.1,.inl ls.2⟩)) bh⟩
 ·cases h
  obtain⟨a,ys,rfl,ls,t,bh⟩:=bo;exact⟨a,rfl,⟨ys,c3.of ls⟩,q (bW H aK) H1 (lz X.K a) ys g1.bW (aU.bW H) (BR (.inl ⟨.inl ls,.inl (rP (nn a rfl) t)⟩)) (bh.da (il _ _))⟩
 ·cases h
  obtain⟨a,ys,rfl,ls,bh⟩:=bo;exact⟨a,rfl,⟨ys,ls.c9⟩,q aK H1 (lz X.K a) ys g1 aU (BR ls) bh⟩
 ·cases h⟩
end
section
variable[aF.a6]
variable{X:aQ}{pos:Pos}{e:Expr}{m:bl}
variable{i:Nat}{x:Str}{pos':Pos}
theorem ad7(hN:X.N.Nodup)(ay:X.N[i]? = some x)(ah:Loc X.env.scope x)(he:bb X e m)(aC:aje e (some (.Name x pos')) pos.line X.env=pure false:=by rfl)(hf:X.fn x=true\/X.env.scope.names.lookup x=some .local:=by first | exact .inl rfl | exact .inr rfl | assumption):eM X (.Assign [.Name x pos'] e pos) (jz i m):=⟨gh (Dl hN ay ah he.un aC hf) (KH fun _ _ _ h=>h)⟩
end
section
variable[aF.a6]
theorem adW:oP X [] gi:=⟨fun pinZ s σ H Q I aX=>by
 obtain⟨O,σ',S,b,au,st,h,q⟩:=aX;cases h;exact ZN pinZ s σ H Q I (q O H (Go.refl _ _) st)⟩
end
section
variable[aF.a6]
variable{X:aQ}{a:Expr}{cT:bl}{pos:Pos}
theorem adM(ao:bb X a cT):bb X (.UnaryOp .Not a pos) (wL cT):=⟨eh (ZI ao.un) fun ak H Q aX=>by
 obtain⟨O,σ,S,r,au,st,h,q⟩:=aX;obtain⟨x,S1,ae,h⟩:=M.inv h;obtain⟨t,bj,ag,h⟩:=M.inv h;obtain⟨rfl,rfl⟩:=vB ag;cases h;exact⟨O,σ,S,_,_,st,ae,fun aK gv H1 g1 aU a5 bq=>⟨t,a5,q aK _ H1 g1 aU rfl trivial⟩⟩⟩
end
section
variable[aF.a6]
variable{X:aQ}{e:Expr}{ax:List Expr}{ms:cL}{pos p:Pos}{x:Str}{T:String}{r:List V->av->cZ->Prop}{f:List R->M R}
theorem y_(aE:iZ X (.type T) r)(hf:jo X.K X.mg r f)(aS:d3 X x)(hm:X.mg x=none)(bz:aiC x=some (.type T))(ao:gm X (e::ax) ms)(aH:x≠"__name__":=by decide)(ey:(x==("__debug__":Str))=false:=by decide)(he:ahK (e::ax) X.env=(false,eval e X.env)::ahK ax X.env:=by rfl)(eY:(aie pos (ahK ax X.env)).any (·.1)=false:=by rfl):bb X (.Call (.Name x p) (e::ax) [] pos) (cC f ms):=⟨eh (Zq aE aS hm bz ao.un aH ey he eY) (GD hf)⟩
end
section
variable[aF.a6]
theorem D9{t:aO->M Bool}(h:fe X c t):oP X [c] t:=⟨ZO h.un⟩
end
section
variable[aF.a6]
variable{X:aQ}{cc:Expr}{a:Expr}{ms:cL}{pos p:Pos}
theorem adU(aS:d3 X "range")(hm:X.mg "range"=none)(ao:gm X [a] ms)(aC:ahK [a] X.env=[(false,eval a X.env)]:=by rfl):tq X cc (.Call (.Name "range" p) [a] [] pos) (qu ms):=⟨pD (KU aS hm ao.un aC) Lq.1⟩
end
section
variable[aF.a6]
variable{X:aQ}{a b c:Expr}{cT c0 gY:bl}{pos:Pos}
theorem aea{r bL:fG}(bc:d4 X (ais op) r)(hf:eb X.K X.mg r f)(hZ:d4 X (ais sx) bL)(aS:eb X.K X.mg bL g)(ao:bb X a cT)(aa:bb X b c0)(aE:bb X c gY)(hm:lastMarks [op,sx] [b,c]=false:=by with_unfolding_all rfl):fe X (.Compare a [op,sx] [b,c] pos) (bg (i6 f g cT c0 gY)):=⟨qV (Z7 bc hZ ao.un aa.un aE.un hm) fun ak H Q h=>MR (QL hf aS) ak H Q (DV ak H Q h)⟩
end
section
variable[aF.a6]
variable{X:aQ}{cc l:Expr}{m:bl}{a:Expr}
theorem D8(aj:bb X l m):oQ X cc l (iu m):=⟨pD (KV aj.un) fun ak H R aX=>by
 obtain⟨O,σ,S,xs,au,st,h,q⟩:=aX;obtain⟨r,S1,ae,h⟩:=M.inv h;split at h
 ·rename_i zs
  cases h;refine⟨O,σ,S,_,_,st,ae,fun aK v H1 g1 aU bo nn=>?_⟩;obtain⟨a,ys,rfl,ls,bh⟩:=bo;exact⟨a,rfl,⟨ys,ls⟩,q aK H1 (ro X.K a) ys g1 aU (IT ls) bh⟩
 ·cases h⟩
end
section
variable[aF.a6]
variable{X:aQ}{cc l:Expr}{m:bl}{e a:Expr}
theorem ado(aj:bb X l m):oQ X cc l (j3 m):=⟨pD (Dh aj.un) fun ak H wb aX=>by
 obtain⟨O,σ,S,xs,au,st,h,q⟩:=aX;obtain⟨r,S1,ae,h⟩:=M.inv h
 cases e:r.eH with
 |none=>rw[e]at h;cases h
 |some zs=>
  rw[e]at h;cases h;refine⟨O,σ,S,r,_,st,ae,fun aK v H1 g1 aU bo nn=>?_⟩;obtain⟨a,ys,rfl,ls,bh⟩:=R.mY bo e;exact⟨a,rfl,⟨ys,ls⟩,q aK H1 (lz X.K a) ys g1 aU (BQ ls) bh⟩⟩
end
section
variable[aF.a6]
variable{X:aQ}{cc l:Expr}{m:bl}{a:Expr}
theorem adV(aj:bb X l m):tq X cc l (iu m):=⟨pD (KV aj.un) fun ak H R aX=>by
 obtain⟨O,σ,S,xs,au,st,h,q⟩:=aX;obtain⟨r,S1,ae,h⟩:=M.inv h;split at h
 ·rename_i zs
  cases h;refine⟨O,σ,S,_,_,st,ae,fun aK v H1 g1 aU bo nn=>?_⟩;obtain⟨a,ys,rfl,ls,bh⟩:=bo;exact⟨a,rfl,⟨ys,ls⟩,q aK H1 (ro X.K a) ys g1 aU (WB ls) bh⟩
 ·cases h⟩
end
section
variable[aF.a6]
variable{X:aQ}{cc:Expr}{a:Expr}{ms:cL}{pos p:Pos}
theorem adp(aS:d3 X "range")(hm:X.mg "range"=none)(ao:gm X [a] ms)(aC:ahK [a] X.env=[(false,eval a X.env)]:=by rfl):oQ X cc (.Call (.Name "range" p) [a] [] pos) (qu ms):=⟨pD (KU aS hm ao.un aC) Lq.2⟩
end
section
variable[aF.a6]
variable{X:aQ}{st:Stmt}{pos:Pos}{a:a0}{e:Expr}
theorem ad8(i:Nat)(hN:X.N[i]? = some x:=by rfl)(bz:p0 X.env.scope x:=by first | exact ajE rfl | exact aiI (.inl rfl) | exact aiI (aiI rfl))(hd:(x==("__debug__":Str))=false:=by decide)(gq:(x==("__classdict__":Str))=false:=by decide):eM X (.Return (some (.Name x p)) pos) (wN i):=⟨gh (Dk (yG hN bz hd gq)) fun D ak H aX=>by
 obtain⟨O,σ,S,a7,au,st,h,q⟩:=aX;unfold wN at h
 cases e:σ[i]? with
 |none=>rw[e]at h;cases h
 |some s=>
  rw[e]at h;have l:=st.loc i s e
  cases s with
  |dZ p xs=>
   obtain⟨a,ys,aq,aD,cQ,e8⟩:=l
   cases p with
   |true=>cases h
   |false=>
   cases h;refine⟨.ref a,?_,q O _ H (dP.refl _ _) st.b7 st.gM ⟨a,ys,rfl,cQ,.inr ⟨i,aD⟩,e8⟩⟩
   cases w:ak[i]? with
   |none=>rw[w]at aq;cases aq
   |some y=>rw[w]at aq;exact congrArg some aq
  |val d=>cases h
  |b1 d=>cases h
  | emp=>cases h⟩
end
section
variable[aF.a6]
variable{X:aQ}{pos dq:Pos}{is:List Nat}{e:Expr}{m:bl}{ax:List Expr}{k:Nat}
theorem ad9(aE:X.calm=true)(aS:jT X ax (ht is))(he:bb X e m)(aH:(ah4 ax X.env).length=is.length:=by rfl)(eE:(ah4 ax X.env).findIdx? (·.1)=none:=by rfl)(aC:swapsWithSole [.Tuple ax k dq] e pos.line X.env=pure false:=by rfl)(hw:swappedStores [.Tuple ax k dq] e X.env=pure none:=by rfl)(ae:(ah4 [.Tuple ax k dq] X.env).map (·.2)=[akc (.Tuple ax k dq) X.env]:=by rfl):eM X (.Assign [.Tuple ax k dq] e pos) (nF is m):=⟨gh (Z2 he.un (qT aE aS aH eE) aC hw ae) fun D ak H aX=>by
 obtain⟨O,σ,S,a7,au,st,h,q⟩:=aX;obtain⟨r,S1,ae,h⟩:=M.inv h;split at h
 ·rename_i ds
  by_cases c:ds.length=is.length
  ·rw[if_pos c]at h
   cases h;refine⟨O,σ,S,_,_,st,ae,fun aK v H1 g1 aU bo nn=>?_⟩;obtain⟨a,ys,rfl,t,bh⟩:=bo;refine⟨a,ys,rfl,t,by rw[bh.len,c],vD aU bh c fun cD b3 k=>q aK cD H1 g1.aB b3 k⟩
  ·rw[if_neg c]at h;cases h
 ·cases h⟩
end
section
variable[aF.a6]
variable{X:aQ}{pos dq:Pos}{is:List Nat}{ax:List Expr}{k:Nat}{iter:Expr}{it:eS}{body:List Stmt}{b:a0}
theorem ad4(aI:akA (model X.prog X.w) X.A X.env X.dA)(aE:X.calm=true)(ay:tq X (.Tuple ax k dq) iter it)(aS:jT X ax (ht is))(aa:fK X body b)(aH:(ah4 ax X.env).length=is.length:=by rfl)(eE:(ah4 ax X.env).findIdx? (·.1)=none:=by rfl)(aC:∀x,aip iter X.env x=pure x:=by intro _;rfl):eM X (.For (.Tuple ax k dq) iter body [] pos) (wJ is it b):=⟨gh (sD aI aE ay.un (qT aE aS aH eE) aa.un aC) Th⟩
end
section
variable[aF.a6]
variable{X:aQ}{a:Expr}{cT:bl}{apos cM:Pos}
theorem adx(ao:bb X a cT)(nQ:ajr a "bit_length" X.env (eval a X.env)=eval a X.env:=by rfl)(nX:(apos.endLine==cM.line)=true:=by rfl):bb X (.Call (.Attribute a "bit_length" apos) [] [] cM) (b2 oBits cT):=⟨eh (Zm PySem.F.plainAttrs_int PySem.F.slot_int_bit_length PySem.F.type_int_bit_length Ya ao.un nQ nX) fun ak H Q aX=>by
  obtain⟨O,σ,S,r,au,st,h,q⟩:=aX;obtain⟨x,S1,ae,h⟩:=M.inv h;unfold oBits at h;split at h
  ·rename_i i
   cases h;refine⟨O,σ,S,_,_,st,ae,fun aK gv H1 g1 aU a5 bq=>?_⟩;cases(show gv=.int i from a5);exact⟨rfl,i,rfl,rfl,q aK _ H1 g1 aU rfl trivial⟩
  ·cases h⟩
end
section
variable[aF.a6]
variable{X:aQ}{st:Stmt}
theorem ad6 :eM X st tE:=⟨gh Z5 fun D ak H aX=>by obtain⟨O,σ,S,a7,au,st,h,q⟩:=aX;cases h⟩
end
section
variable[aF.a6]
variable{X:aQ}{a:Expr}{b0:aO->M Bool}
theorem k0.b'(h:k0 X a b0):fe X a b0:=⟨vU.b' h.un⟩
end
section
variable[aF.a6]
variable{X:aQ}{scope esc:Scope}{EN N:List Str}{n:Nat}{cap:List Nat}{elt iter:Expr}{ifs:List Expr}{pos dq:Pos}{x:Str}{it:eS}{t:aO->M Bool}{el:bl}
theorem Eb{py mc:Pos}(S:kS esc scope EN N n cap)(qf:X.N.Nodup)(k7:X.N[i]? = some y)(a':X.env.scope.names.lookup y=some .local)(aH:0<n)(ay:oQ X (.Name x dq) iter it)(ah:N[0]? = some x)(iJ:∀C aL s H,Loc (cm X scope N C aL s H).env.scope x/\(cm X scope N C aL s H).env.scope.names.lookup x=some .local)(bG:∀C aL s H,oP (cm X scope N C aL s H) ifs t)(hY:∀C aL s H,bb (cm X scope N C aL s H) elt el)(he:X.env.scope=esc:=by rfl)(hN:X.N=EN:=by rfl)(aE:X.calm=true:=by rfl)(aC:∀x,aip iter X.env x=pure x:=by intro _;rfl)(l0:aje (.ListComp elt [⟨.Name x dq,iter,ifs,0⟩] scope pos) (some (.Name y py)) mc.line X.env=pure true:=by rfl):eM X (.Assign [.Name y py] (.ListComp elt [⟨.Name x dq,iter,ifs,0⟩] scope pos) mc) (jz i (eV n cap it t el)):=⟨gh (EV S qf k7 a' aH ay.un ah iJ (fun C aL s H=>(bG C aL s H).un) (fun C aL s H=>(hY C aL s H).un) he hN aE aC l0) (KH (An aH))⟩
end
section
variable[aF.a6]
variable{X:aQ}{scope esc:Scope}{EN N:List Str}{n:Nat}{cap:List Nat}{elt iter:Expr}{ifs:List Expr}{pos dq:Pos}{x:Str}{it:eS}{t:aO->M Bool}{el:bl}
theorem ad1{py mc:Pos}(S:kS esc scope EN N n cap)(qf:X.N.Nodup)(k7:X.N[i]? = some y)(a':X.env.scope.names.lookup y=some .local)(aH:0<n)(ay:oQ X (.Name x dq) iter it)(ah:N[0]? = some x)(iJ:∀C aL s H,Loc (cm X scope N C aL s H).env.scope x/\(cm X scope N C aL s H).env.scope.names.lookup x=some .local)(bG:∀C aL s H,oP (cm X scope N C aL s H) ifs t)(hY:∀C aL s H,bb (cm X scope N C aL s H) elt el)(he:X.env.scope=esc:=by rfl)(hN:X.N=EN:=by rfl)(aE:X.calm=true:=by rfl)(aC:∀x,aip iter X.env x=pure x:=by intro _;rfl)(l0:aje (.ListComp elt [⟨.Name x dq,iter,ifs,0⟩] scope pos) (some (.Name y py)) mc.line X.env=pure true:=by rfl):eM X (.Assign [.Name y py] (.ListComp elt [⟨.Name x dq,iter,ifs,0⟩] scope pos) mc) (cg i (eV n cap it t el)):=⟨gh (EV S qf k7 a' aH ay.un ah iJ (fun C aL s H=>(bG C aL s H).un) (fun C aL s H=>(hY C aL s H).un) he hN aE aC l0) (Mw (An aH))⟩
end
def HF:M ck:=⟨fun S=>.ok S S,fun _ _ _ h=>by cases h;rfl⟩
def fZ:R->M gR
 |.v (.ref n)=>do
  let S <-HF
  match S[n]? with
  |some o=>pure o|none=>bad
 |_=>bad
theorem Kq{r:R}{S au:ck}(h:(fZ r).run S=.ok o au):∃n,r=.v (.ref n)/\S[n]? = some o/\S=au:=by
 unfold fZ at h;split at h
 ·rename_i n
  obtain⟨T,S1,ae,h⟩:=M.inv h;cases ae
  cases e:S[n]? with
  |none=>rw[e]at h;cases h
  |some o'=>rw[e]at h;cases h;exact⟨n,rfl,e,rfl⟩
 ·cases h
def o9:D->Option Key
 |.int i=>some (.inl i)|.str x=>some (.inr x)|_=>none
def iS{κ α:Type}[DecidableEq κ](k:κ)(a:α):List (κ×α)->List (κ×α)
 |[]=>[(k,a)]
 |(g,x)::r=>if g=k then(g,a)::r else(g,x)::iS k a r
theorem K5{v:V}:∀aV:List (Str×V),h6 f v aV=iS f v aV
 |[]=>rfl| (g,x)::r=>by unfold h6 iS;rw[K5 r]
section
variable{κ:Type}[DecidableEq κ]
def ik(aw:List (κ×D))(k:κ):Option D:=(aw.find? fun kv=>decide (kv.1=k)).map (·.2)
def gp(aw:List (κ×D))(k:κ)(d:D):List (κ×D):=
 if(aw.any fun kv=>decide (kv.1=k))=true then aw.map (fun kv=>if kv.1=k then(kv.1,d)else kv)else aw++[(k,d)]
variable[aF.a6]{K:aP}{mg:bk}{O:a3}{H:av}
theorem dR.cons{p:κ×D}{aw:List (κ×D)}{dm:List (κ×V)}(h:dR K mg O H (p::aw) dm):∃q r,dm=q::r/\p.1=q.1/\Rep K mg O H p.2 q.2/\dR K mg O H aw r:=by
 obtain⟨ae,ag⟩:=h
 cases dm with
 |nil=>cases ae
 |cons q r=>
  rw[ahT,ahT]at ae ag;injection ae with ae Bb
  obtain⟨y,t,e,a,b⟩:=ag;injection e with aq aD
  subst aq aD;exact⟨q,r,rfl,ae,a,Bb,b⟩
theorem dR.mk'{r:List (κ×V)}(ae:p.1=q.1)(ag:Rep K mg O H p.2 q.2)(h:dR K mg O H aw r):dR K mg O H (p::aw) (q::r):=
 ⟨by rw[ahT,ahT,ae,h.1],q.2,_,rfl,ag,h.2⟩
theorem dR.uT(h:dR K mg O H [] dm):dm=[]:=List.map_eq_nil_iff.mp h.1.symm
theorem dR.len{aw:List (κ×D)}{dm:List (κ×V)}(h:dR K mg O H aw dm):dm.length=aw.length:=by
 have:=congrArg ai8 h.1;rw[ahJ,ahJ]at this;exact this.symm
theorem dR.val(k:κ):∀{aw:List (κ×D)}{dm:List (κ×V)},dR K mg O H aw dm->match ik aw k with
  |some d=>∃v,jP dm k=some v/\Rep K mg O H d v|none=>jP dm k=none
 | [],dm,h=>by obtain rfl:=h.uT;exact rfl
 |p::aw,dm,h=>by
  obtain⟨q,r,rfl,aq,aD,h'⟩:=h.cons;unfold ik jP
  by_cases az:p.1=k
  ·rw[aiP (by simpa using az),aiP (by rw[<-aq];simpa using az)]
   exact⟨q.2,rfl,aD⟩
  ·rw[aiF (by simpa using az),aiF (by rw[<-aq];simpa using az)]
   exact dR.val k h'
theorem dR.any(k:κ):∀{aw:List (κ×D)}{dm:List (κ×V)},dR K mg O H aw dm->(dm.any fun kv=>decide (kv.1=k))=aw.any fun kv=>decide (kv.1=k)
 | [],dm,h=>by obtain rfl:=h.uT;rfl
 |p::aw,dm,h=>by
  obtain⟨q,r,rfl,aq,aD,h'⟩:=h.cons;rw[ajs,ajs,dR.any k h',aq]
theorem dR.put(k:κ){v:V}(hd:Rep K mg O H d v)(h:dR K mg O H aw dm):dR K mg O H (gp aw k d) (putK dm k v):=by
 unfold gp putK;rw[dR.any k h];split
 ·rename_i nP
  clear nP
  induction aw generalizing dm with
  |nil=>obtain rfl:=h.uT;exact⟨rfl,rfl⟩
  |cons p aw a9=>
   obtain⟨q,r,rfl,aq,aD,h'⟩:=h.cons;rw[ahT,ahT]
   by_cases az:p.1=k
   ·rw[if_pos az,if_pos (aq▸az)];exact dR.mk' aq hd (a9 h')
   ·rw[if_neg az,if_neg (aq▸az)];exact dR.mk' aq aD (a9 h')
 ·exact⟨by rw[aiG,aiG,h.1];rfl,by rw[aiG,aiG];exact h.2.append (.one hd)⟩
theorem dR.iS(k:κ){v:V}(hd:Rep K mg O H d v):∀{aw:List (κ×D)}{dm:List (κ×V)},dR K mg O H aw dm->dR K mg O H (aY.iS k d aw) (aY.iS k v dm)
 | [],dm,h=>by obtain rfl:=h.uT;exact⟨rfl,_,_,rfl,hd,rfl⟩
 |p::aw,dm,h=>by
  obtain⟨q,r,rfl,aq,aD,h'⟩:=h.cons;obtain⟨p1,du⟩:=p;obtain⟨ba,bU⟩:=q;cases(show p1=ba from aq);unfold aY.iS;split
  ·exact dR.mk' rfl hd h'
  ·exact dR.mk' rfl aD (dR.iS k hd h')
theorem dR.lookup:∀{aw:List (Str×D)}{dm:List (Str×V)},dR K mg O H aw dm->aw.lookup f=some d->∃v,dm.lookup f=some v/\Rep K mg O H d v
 | [],dm,h,e=>by cases e
 |p::aw,dm,h,e=>by
  obtain⟨q,r,rfl,aq,aD,h'⟩:=h.cons;obtain⟨p1,du⟩:=p;obtain⟨ba,bU⟩:=q;cases(show p1=ba from aq);rw[aiB]at e ⊢
  cases cJ:f==p1 with
  |true=>rw[cJ]at e;cases e;exact⟨bU,rfl,aD⟩
  |false=>rw[cJ]at e;exact dR.lookup h' e
end
variable[aF.a6]
section
variable{K:aP}{mg:bk}{O:a3}{σ:aO}{S au:ck}{ak:St}{H:av}{r:R}{v:V}{o:gR}
theorem yv(st:b_ K mg O σ S ak H)(aG:ew K mg O H r v)(h:(fZ r).run S=.ok o au):∃a,v=.ref a/\a∈O.bC/\mD K mg O H a o:=by
 obtain⟨n,rfl,e,rfl⟩:=Kq h;obtain⟨a,bh,g0⟩:=st.gM n o e;obtain⟨b,cJ,l'⟩:=aG;rw[bh]at l';cases l';exact⟨a,cJ,aiw bh,g0⟩
theorem B2{v:V}{k:Key}(h:Rep K mg O H d v)(e:o9 d=some k):v=cw k:=by
 cases d<;>cases e<;>exact h
end
structure oC(K:aP)(mg:bk)(c:Str)(aV:List Str):Prop where
 ex:∃C,mg c=some (.ref C)/\i0 K C/\(W.makesIn K C=true/\ajG K (.ref C)=true)/\∀f∈aV,pU K C f
def dn(c f:Str)(r:R):M R:=do
 let o <-fZ r
 match o with
 | .bA c' aV=>if c'=c then(match aV.lookup f with
  |some d=>pure (.v d)| none=>bad)else bad
 |_=>bad
def d8(r k:R):M R:=do
 let o <-fZ r
 match o,k with
 |.d_ aw,.v dz=>match o9 dz with
  |some key=>match ik aw key with
   |some d=>pure (.v d)|none=>bad
  |none=>bad
 |_,_=>bad
def qB:List R->Option (List Key)
 |[]=>some []|.v d::rs=>match o9 d,qB rs with
  |some k,some br=>some (k::br)|_,_=>none
 |_::_=>none
def wO(m:bl)(ms:cL)(m9:bl):bl:=fun σ=>do
 let x <-m σ
 let rs <-ms σ
 let z <-m9 σ
 let o <-fZ x
 match o,qB rs,z with
 |.dT aw,some k,.v pP=>if rs.length<=1000 then pure (.v ((ik aw k).getD pP))else bad|_,_,_=>bad
def jY(m:bl):bl:=fun σ=>do
 let x <-m σ
 let o <-fZ x
 match o with
 |.lst xs=>pure (.mv xs)|_=>bad
theorem B3{O:a3}:∀{rs:List R}{vs:List V}{br:List Key},qB rs=some br->f6 K mg O H rs vs->vs=br.map cw
 | [],vs,br,e,h=>by cases e;exact h
 |r::rs,vs,br,e,h=>by
  obtain⟨v,D7,rfl,ae,ag⟩:=h
  cases r with
  |v d=>
   unfold qB at e;split at e
   ·rename_i k ahj aq aD
    cases e;rw[ahT,B3 aD ag,B2 (show Rep K mg O H d v from ae) aq]
   ·cases e
  |_=>cases e
theorem OM:eb K mg (fun x y H Q=>∃a v,x=.ref a/\kT H a y (some v)/\Q v H) d8:=fun O σ S ak H x y a5 bt bL au Q st ah a' h q=>by
 obtain⟨o,S1,ae,h'⟩:=M.inv h;clear h;have h:=h';clear h';obtain⟨a,rfl,_,g0⟩:=yv st ah ae;obtain rfl:=(fZ a5).ei _ _ _ ae;split at h
 ·rename_i aw dz
  split at h
  ·rename_i key hb
   have bI:=g0;obtain⟨dm,l,h7⟩:=g0;have q_:=h7.val key
   cases dK:ik aw key with
   |none=>rw[dK]at h;cases h
   |some d=>
    rw[dK]at h q_;cases h;obtain⟨v,aq,aD⟩:=q_;refine⟨a,v,rfl,?_,q O v H (Go.refl _ _) st aD trivial⟩;rw[B2 (show Rep K mg O H dz y from a') hb,<-aq];exact kT.k l
  ·cases h
 ·cases h
section
variable{X:aQ}{e o i f:Expr}{ax:List Expr}{m mo J_ m9:bl}{ms:cL}{pos apos cM uw:Pos}{c a:Str}{ns:List Str}
theorem adw(T:oC X.K X.mg c ns)(hf:a∈ns)(he:bb X e m)(aa:ajr e a X.env (eval e X.env)=eval e X.env:=by rfl):bb X (.Attribute e a pos) (b2 (dn c a) m):=⟨eh (Zx he.un aa) fun ak H Q aX=>by
 obtain⟨O,σ,S,r,au,st,h,q⟩:=aX;obtain⟨x,S1,ae,h0⟩:=M.inv h;clear h;refine⟨O,σ,S,x,S1,st,ae,fun aK gv H1 g1 aU a5 bq=>?_⟩;obtain⟨o,bj,ag,h'⟩:=M.inv h0;clear h0;have h:=h';clear h';obtain⟨b,rfl,_,g0⟩:=yv aU a5 ag;obtain rfl:=(fZ x).ei _ _ _ ag;split at h
 ·rename_i c' aV
  split at h
  ·rename_i aE
   subst aE
   cases el:aV.lookup a with
   |none=>rw[el]at h;cases h
   |some d=>
    rw[el]at h;cases h;obtain⟨C,bV,jC,dW,ci,h7⟩:=g0;obtain⟨ly,aq,aD,_,e8⟩:=T.ex;cases aq.symm.trans ci.1;obtain⟨v,ev,bI⟩:=h7.lookup el;exact⟨b,C,bV,jC,v,rfl,dW,aD,e8 a hf,ev,q aK v H1 g1 aU bI trivial⟩
  ·cases h
 ·cases h⟩
theorem adF(cb:X.A.units+64<cLine)(bc:bb X o mo)(ay:bb X i J_)(aC:ti i:=by intro _ _;rfl):bb X (.Subscript o i pos) (af d8 mo J_):=⟨eh (Zt (by omega) bc.un ay.un aC) (tB OM)⟩
theorem adS{lu}(cb:X.A.units+64<cLine)(he:bb X o m)(az:gm X ax ms)(hf:bb X f m9)(ag:M2 X o "get" apos (.Tuple ax lu uw) f cM:=by exact⟨rfl,rfl,rfl,rfl⟩):bb X (.Call (.Attribute o "get" apos) [.Tuple ax lu uw,f] [] cM) (wO m ms m9):=
 ⟨eh (Zu (by omega) he.un (Df az.un) hf.un ag) fun ak H Q aX=>by
  obtain⟨O,σ,S,r,au,st,h,q⟩:=aX;obtain⟨x,S1,ae,ao⟩:=M.inv h;clear h;obtain⟨rs,bj,ag,aa⟩:=M.inv ao;clear ao;obtain⟨z,hR,bK,aE⟩:=M.inv aa;clear aa;obtain⟨o,oM,dt,h⟩:=M.inv aE;clear aE;obtain rfl:=(m σ).ei _ _ _ ae;obtain rfl:=(ms σ).ei _ _ _ ag;obtain rfl:=(m9 σ).ei _ _ _ bK;obtain rfl:=(fZ x).ei _ _ _ dt;split at h
  ·rename_i aw k pP hb
   by_cases c:rs.length<=1000
   ·rw[if_pos c]at h
    cases h;refine⟨O,σ,_,x,_,st,ae,fun aK gv H1 g1 aU a5 bq=>?_⟩;obtain⟨a,rfl,_,xs,l,jd⟩:=yv aU a5 dt;refine⟨a,rfl,.inr ⟨xs,.inl l⟩,aK,σ,_,rs,_,aU,ag,fun bf vs aJ g2 cv bo nn=>?_⟩;have ev:=B3 hb bo;refine⟨ai5 (eB (by rw[f6.len bo];exact c)),fun p aI=>?_⟩;refine⟨bf,σ,_,_,_,cv.eJ aI,bK,fun eu ahB cG g3 gL jK CR=>?_⟩;have g:=g2.trans ((Go.eJ aI).trans g3);refine⟨_,kT.t (k:=k) (g.same.at' _ _ l) (by rw[<-ev];exact g3.same.at' _ _ de),?_⟩;have q_:=(show dR X.K X.mg eu cG aw xs from⟨jd.1,jd.2.go g⟩).val k;refine q eu _ cG (g1.trans g) gL ?_ trivial;show Rep _ _ _ _ ((ik aw k).getD pP) _
    cases dK:ik aw k with
    |none=>rw[dK]at q_;rw[q_];exact jK|some d=>rw[dK]at q_;obtain⟨v,aq,aD⟩:=q_;rw[aq];exact aD
   ·rw[if_neg c]at h;cases h
  ·cases h⟩
theorem XO{ak:St}{H:av}{Q:cZ}{O:a3}{σ:aO}{S S1 au:ck}{x r:R}{g:List D->R}(st:b_ X.K X.mg O σ S ak H)(ae:(m σ).run S=.ok x S1)
  (h:(do let o <-fZ x;match o with | .lst xs=>pure (g xs) | _=>bad:M R).run S1=.ok r au) (q:v9 X.K X.mg O σ au ak H r Q)
  (aS:∀ai H' xs a ys,ai a=.out->H' a=some (.lst ys)->a_ X.K X.mg ai H' xs ys->ew X.K X.mg ai H' (g xs) (.ref a)/\jr H (g xs) (.ref a)):e' X.K X.mg m ak H Q:=by
 obtain⟨o,bj,ag,h'⟩:=M.inv h;clear h;have h:=h';clear h';refine⟨O,σ,S,x,S1,st,ae,fun aK gv H1 g1 aU a5 bq=>?_⟩;obtain⟨a,rfl,cT,g0⟩:=yv aU a5 ag;obtain rfl:=(fZ x).ei _ _ _ ag;split at h
 ·cases h
  obtain⟨ys,l,bh⟩:=g0;obtain⟨fb,d2⟩:=aS aK H1 _ a ys (aU.b7.b8.2 a cT) l bh;exact q aK _ H1 g1 aU fb d2
 ·cases h
theorem adG(he:bb X e m):bb X e (jY m):=⟨eh he.un fun ak H Q aX=>by
 obtain⟨O,σ,S,r,au,st,h,q⟩:=aX;obtain⟨x,S1,ae,h⟩:=M.inv h;exact XO st ae h q fun ai H' xs a ys _ l bh=>⟨⟨a,ys,rfl,l,bh⟩,trivial⟩⟩
end
end aY
namespace aY
open PySem PySem.Spec aF
structure N(α:Type):Type where
 run:ck->Out α
def N.jW{α β:Type}(m:N α)(f:α->N β):N β:=⟨fun S=>match m.run S with
 |.ok a au=>(f a).run au|.exc c au=>.exc c au| .bad=>.bad⟩
instance:Monad N where
 pure a:=⟨fun S=>.ok a S⟩
 bind:=N.jW
theorem N.inv{α β:Type}{m:N α}{f:α->N β}{S au:ck}{b:β}(h:(m >>= f).run S=.ok b au):∃a S1,m.run S=.ok a S1/\(f a).run S1=.ok b au:=by
 have h:(N.jW m f).run S=.ok b au:=h;unfold N.jW at h;dsimp only at h
 cases e:m.run S with
 |ok a S1=>rw[e]at h;exact⟨a,S1,rfl,h⟩|exc c S1=>rw[e]at h;cases h
 |bad=>rw[e]at h;cases h
def fi{α:Type}:N α:=⟨fun _=>.bad⟩
def M.up{α:Type}(m:M α):N α:=⟨m.run⟩
def tX:N ck:=⟨fun S=>.ok S S⟩
def putN(S:ck):N Unit:=⟨fun _=>.ok () S⟩
abbrev fq:=aO->N R
abbrev iF:=aO->N (List R)
abbrev bp:=aO->N fm
abbrev fL:=List D->N R
variable[aF.a6]
structure fo(O ai:a3)(H H':av):Prop where
 cells:∀b o,H b=some o->(b∉O.bC\/Fix o)->(h:n6 o:=by exact trivial)->H' b=some o
 own:∀b,H b≠none->ai b=O b
 has:∀b,H b≠none->H' b≠none
 cU:∀b ps,H b=some (.f5 ps)->∃kF,H' b=some (.f5 kF)
 bO:TabsOk H->TabsOk H'
 bC:O.bC <+: ai.bC
 new:∀b∈ai.bC,b∈O.bC\/H b=none
structure gQ(O ai:a3)(H H':av):Prop where
 cells:∀b o,H b=some o->(((O b=.free\/O b=.out)/\b∉O.bC)\/Fix o)->(h:n6 o:=by exact trivial)->H' b=some o
 own:∀b,H b≠none->(O b=.free\/O b=.out)->ai b=O b
 has:∀b,H b≠none->H' b≠none
 cU:∀b ps,H b=some (.f5 ps)->∃kF,H' b=some (.f5 kF)
 bO:TabsOk H->TabsOk H'
 bC:O.bC <+: ai.bC
 new:∀b∈ai.bC,b∈O.bC\/H b=none
structure cz(O ai:a3)(H H':av):Prop where
 cells:∀b o,H b=some o->((O b=.free/\b∉O.bC/\∃ys,o=.lst ys)\/Fix o)->(h:n6 o:=by exact trivial)->H' b=some o
 own:∀b ys,H b=some (.lst ys)->O b=.free->ai b=.free
 bC:O.bC <+: ai.bC
section
variable{K:aP}{mg:bk}{O aK bf ai:a3}{H H1 aJ H':av}{S au:ck}{σ σ':aO}{ak cD:St}
omit [aF.a6]in
theorem jh(e:H b=some o):H b≠none:=fun z=>by rw[e]at z;cases z
theorem Go.dJ(g:Go O ai H H'):fo O ai H H':=⟨fun b o e _ n=>g.same.at' b o e n,g.own,fun _ h=>g.same.some h,g.same.cU,g.same.bO,by rw[g.bC];exact amc _,fun b h=>.inl (by rw[<-g.bC];exact h)⟩
theorem dP.dV(g:dP O ai H H'):gQ O ai H H':=⟨fun b o e h n=>g.cells b o e (h.elim (fun z=>z.1.elim .inl fun z=>.inr (.inl z)) fun z=>.inr (.inr z)) n,g.own,g.has,g.cU,g.bO,by rw[g.bC];exact amc _,fun b h=>.inl (by rw[<-g.bC];exact h)⟩
theorem fo.dV(g:fo O ai H H'):gQ O ai H H':=⟨fun b o e h n=>g.cells b o e (h.imp (·.2) id) n,fun b h _=>g.own b h,g.has,g.cU,g.bO,g.bC,g.new⟩
theorem fo.trans(a:fo O aK H H1)(b:fo aK bf H1 aJ):fo O bf H aJ:=
  ⟨fun c o e h n=>b.cells c o (a.cells c o e h n) (h.imp (fun z m=>(a.new c m).elim z (jh e)) id) n,fun c h=>(b.own c (a.has c h)).trans (a.own c h),fun c h=>b.has c (a.has c h),fun c ps h=>let⟨p1,aq⟩:=a.cU c ps h;b.cU c p1 aq,fun g=>b.bO (a.bO g),
   a.bC.trans b.bC,fun c m=>(b.new c m).elim (a.new c) fun z=>.inr (by cases e:H c with | none=>rfl | some o=>exact absurd z (a.has c (jh e)))⟩
theorem gQ.trans(a:gQ O aK H H1)(b:gQ aK bf H1 aJ):gQ O bf H aJ:=
  ⟨fun c o e h n=>b.cells c o (a.cells c o e h n) (h.imp (fun z=>⟨by rw[a.own c (jh e) z.1];exact z.1,fun m=>(a.new c m).elim z.2 (jh e)⟩) id) n,
   fun c h f=>(b.own c (a.has c h) (by rw[a.own c h f];exact f)).trans (a.own c h f),fun c h=>b.has c (a.has c h),fun c ps h=>let⟨p1,aq⟩:=a.cU c ps h;b.cU c p1 aq,fun g=>b.bO (a.bO g),
   a.bC.trans b.bC,fun c m=>(b.new c m).elim (a.new c) fun z=>.inr (by cases e:H c with | none=>rfl | some o=>exact absurd z (a.has c (jh e)))⟩
theorem gQ.kr(g:gQ O ai H H'):cz O ai H H':=⟨fun b o e h n=>g.cells b o e (h.imp (fun z=>⟨.inl z.1,z.2.1⟩) id) n,fun b ys e f=>(g.own b (jh e) (.inl f)).trans f,g.bC⟩
theorem cz.vu(g:cz O ai H H')(h:dp K H a ys):dp K H' a ys:=by
 rcases h with(h | ⟨o,h⟩) | h
 ·exact .inl (.inl (g.cells _ _ h (.inr (.inl ⟨_,rfl⟩))))
 ·exact .inl (.inr ⟨o,g.cells _ _ h (.inr (.inr ⟨_,_,rfl⟩))⟩)
 ·exact .inr h
omit [aF.a6]in
theorem js.no(r:js O)(h:O a=w)(hw:w≠.out):a∉O.bC:=fun m=>hw (h.symm.trans (r.2 a m))
mutual
theorem Rep.kr(g:cz O ai H H')(b8:js O):∀{d:D}{v:V},Rep K mg O H d v->Rep K mg ai H' d v
 |.aW,_,h=>h|.aA _,_,h=>h|.int _,_,h=>h|.str _,_,h=>h| .tup _,_,h=>by obtain⟨a,ys,q,l,r⟩:=h;exact⟨a,ys,q,g.vu l,a_.kr g b8 r⟩
 | .lst _,_,h=>by obtain⟨a,ys,q,l,r⟩:=h;exact⟨a,ys,q,⟨g.cells _ _ l.1 (.inl ⟨l.2,b8.no l.2 (by intro z;cases z),_,rfl⟩),g.own a _ l.1 l.2⟩,a_.kr g b8 r⟩
 |.ref _,_,h=>by
  obtain⟨a,q,l⟩:=h;obtain⟨t,e⟩:=g.bC;exact⟨a,q,by rw[<-e,aic (ahN.mp l).1];exact l⟩
 |.fn _,_,h=>h|.ty _,_,h=>h
theorem a_.kr(g:cz O ai H H')(b8:js O):∀{ds:List D}{ys:List V},a_ K mg O H ds ys->a_ K mg ai H' ds ys
 |[],_,h=>h| _::_,_,h=>by obtain⟨x,r,q,a,b⟩:=h;exact⟨x,r,q,Rep.kr g b8 a,a_.kr g b8 b⟩
end
theorem a_.dV(g:gQ O ai H H')(b8:js O)(h:a_ K mg O H ds ys):a_ K mg ai H' ds ys:=h.kr g.kr b8
theorem Rep.dJ(g:fo O ai H H')(b8:js O){v:V}(h:Rep K mg O H d v):Rep K mg ai H' d v:=h.kr g.dV.kr b8
theorem a_.dJ(g:fo O ai H H')(b8:js O)(h:a_ K mg O H ds ys):a_ K mg ai H' ds ys:=h.dV g.dV b8
def R.jM:R->Bool
 |.v _=>true|.fr _=>true|_=>false
theorem ew.dJ(g:fo O ai H H')(b8:js O){r:R}{v:V}(aC:r.jM=true)(h:ew K mg O H r v):ew K mg ai H' r v:=by
 cases r with
 |v d=>exact Rep.dJ g b8 h| fr xs=>obtain⟨a,ys,q,l,o,r⟩:=h;exact⟨a,ys,q,g.cells _ _ l (.inl (b8.no o (by intro z;cases z))),(g.own a (jh l)).trans o,r.dJ g b8⟩
 |b1 xs=>cases aC
 |mv xs=>cases aC
theorem jr.dJ(g:fo O ai H H'):∀{r:R}{v:V},jr H' r v->jr H r v
 |.v _,_,_=>trivial|.b1 _,_,_=>trivial|.mv _,_,_=>trivial|.fr _,_,h=>fun a e=>by
  cases aq:H a with
  |none=>rfl|some o=>exact absurd (h a e) (g.has a (jh aq))
def kY(K:aP)(O:a3)(H:av)(a:Addr)(ys:List V):Prop:=(fH H a (.lst ys)/\(O a=.free\/O a=.out)/\a∉O.bC)\/zy K a ys
structure d5(K:aP)(mg:bk)(O:a3)(σ:aO)(S:ck)(ak:St)(H:av):Prop where
 s3:b_ K mg O σ S ak H
 full:O.bC.length=S.length
 sU:∀(i:Nat)(xs:List D),σ[i]? = some (.b1 xs)->∃a ys,ak[i]?.join=some (.ref a)/\kY K O H a ys/\a_ K mg O H xs ys
theorem kY.dV(g:gQ O ai H H')(h:kY K O H a ys):kY K ai H' a ys:=by
 rcases h with⟨h,f,m⟩ | h
 ·have aH:H a≠none:=fH.some h
  refine .inl ⟨?_,by rw[g.own a aH f];exact f,fun z=>(g.new a z).elim m aH⟩;rcases h with h | ⟨o,h⟩
  ·exact .inl (g.cells _ _ h (.inl ⟨f,m⟩))
  ·exact .inr ⟨o,g.cells _ _ h (.inl ⟨f,m⟩)⟩
 ·exact .inr h
theorem kY.v(h:kY K O H a ys):hO K O H a ys:=h.imp (fun z=>⟨z.1,z.2.1⟩) id
theorem d5.go(s:d5 K mg O σ S ak H)(g:Go O ai H H')(d:cV ai H'):d5 K mg ai σ S ak H':=
 ⟨s.s3.go g d,by rw[g.bC];exact s.full,fun i xs e=>by obtain⟨a,ys,aq,l,r⟩:=s.sU i xs e;exact⟨a,ys,aq,l.dV g.aB.dV,r.go g⟩⟩
theorem d5.aB(s:d5 K mg O σ S ak H)(g:dP O ai H H')(k:ek σ σ' ak cD)(t:b_ K mg ai σ' S cD H'):d5 K mg ai σ' S cD H':=
 ⟨t,by rw[g.bC];exact s.full,fun i xs e=>by
  obtain⟨dU,ev⟩:=k.1 i xs e;obtain⟨a,ys,aq,l,r⟩:=s.sU i xs dU;exact⟨a,ys,by rw[ev];exact aq,l.dV g.dV,a_.aB g r⟩⟩
theorem d5.dJ(s:d5 K mg O σ S ak H)(g:fo O ai H H')(d:cV ai H')(eK:f9 K mg ai H' au)(a7:ai.bC.length=au.length):d5 K mg ai σ au ak H':=by
 have b8:=s.s3.b7.b8;have b1:∀(i:Nat)(xs:List D),σ[i]? = some (.b1 xs)->∃a ys,ak[i]?.join=some (.ref a)/\kY K ai H' a ys/\a_ K mg ai H' xs ys:=fun i xs e=>by
  obtain⟨a,ys,aq,l,r⟩:=s.sU i xs e;exact⟨a,ys,aq,l.dV g.dV,r.dJ g b8⟩
 refine⟨⟨d,s.s3.len,fun i t e=>?_,eK⟩,a7,b1⟩;have l:=s.s3.loc i t e
 cases t with
 |emp=>exact trivial|val d=>obtain⟨v,q,r⟩:=l;exact⟨v,q,r.dJ g b8⟩
 | dZ p xs=>obtain⟨a,ys,q,o,l,r⟩:=l;exact⟨a,ys,q,(g.own a (jh l)).trans o,g.cells _ _ l (.inl (b8.no o (by intro z;cases z))),r.dJ g b8⟩
 |b1 xs=>obtain⟨a,ys,aq,l,r⟩:=b1 i xs e;exact⟨a,ys,aq,l.v,r⟩
end
inductive rt{α:Type}(K:aP)(mg:bk)(m:aO->N α)(ak:St)(H:av)(P:a3->aO->ck->α->Prop):Prop
 |mk (O:a3) (σ:aO) (S:ck) (x:α) (au:ck) (st:d5 K mg O σ S ak H) (h:(m σ).run S=.ok x au) (q:P O σ au x):rt K mg m ak H P
def zg(K:aP)(mg:bk)(m:fq):TE:=fun ak H Q=>rt K mg m ak H fun O σ au r=>∀ai v H',fo O ai H H'->d5 K mg ai σ au ak H'->ew K mg ai H' r v->jr H r v->Q v H'
def aen(K:aP)(mg:bk)(m:aO->N Bool):TT:=fun ak H Q=>rt K mg m ak H fun O σ au b=>∀ai H',fo O ai H H'->d5 K mg ai σ au ak H'->Q b H'
def zf(K:aP)(mg:bk)(m:iF):fW:=fun ak H Q=>rt K mg m ak H fun O σ au rs=>∀ai vs H',fo O ai H H'->d5 K mg ai σ au ak H'->f6 K mg ai H' rs vs->kf H rs vs->Q vs H'
def tn(K:aP)(mg:bk)(O:a3)(au:ck)(H:av)(a7:fm)(ho:Ends):Prop:=match a7 with
 |.bq σ'=>∀ai cD H',gQ O ai H H'->d5 K mg ai σ' au cD H'->ho.bq cD H'|.eP σ'=>∀ai cD H',gQ O ai H H'->d5 K mg ai σ' au cD H'->ho.eP cD H'|.b' σ'=>∀ai cD H',gQ O ai H H'->d5 K mg ai σ' au cD H'->ho.b' cD H'|.cS r=>∀ai v H',gQ O ai H H'->cV ai H'->f9 K mg ai H' au->ai.bC.length=au.length->zC K mg ai H' r v->ho.cS v H'
theorem tn.dV{O aK:a3}(h:tn K mg O au H a7 ho)(g:gQ O aK H H1):tn K mg aK au H1 a7 ho:=by
 cases a7 with
 |bq σ'=>exact fun ai cD H' g'=>h ai cD H' (g.trans g')
 |eP σ'=>exact fun ai cD H' g'=>h ai cD H' (g.trans g')
 |b' σ'=>exact fun ai cD H' g'=>h ai cD H' (g.trans g')
 |cS r=>exact fun ai v H' g'=>h ai v H' (g.trans g')
def ri(K:aP)(mg:bk)(m:bp):gT:=fun ho ak H=>rt K mg m ak H fun O _ au a7=>tn K mg O au H a7 ho
section
variable(X:aQ)
structure fx(e:Expr)(m:fq):Prop where
 un:bQ X e (zg X.K X.mg m)
structure nB(e:Expr)(m:aO->N Bool):Prop where
 un:iD X e (aen X.K X.mg m)
structure lC(ax:List Expr)(m:iF):Prop where
 un:e5 X ax (zf X.K X.mg m)
structure f_(st:Stmt)(m:bp):Prop where
 un:iB X st (ri X.K X.mg m)
structure ju(sL:List Stmt)(m:bp):Prop where
 un:iC X sL (ri X.K X.mg m)
end
def dg(m:bl):fq:=fun σ=>(m σ).up
def hl(m:aO->M Bool):aO->N Bool:=fun σ=>(m σ).up
def gw(m:cL):iF:=fun σ=>(m σ).up
def cj(m:a0):bp:=fun σ=>(m σ).up
section
variable{X:aQ}{e:Expr}{ax:List Expr}{m:bl}{t:aO->M Bool}{ms:cL}{b:a0}{st:Stmt}{sL:List Stmt}
theorem aeC(h:bb X e m):fx X e (dg m):=⟨eh h.un fun ak H Q aX=>by
 obtain⟨O,σ,S,r,au,st,h,q⟩:=aX;obtain rfl:=(m σ).ei _ _ _ h;exact⟨O,σ,au,r,au,st.s3,h,fun aK v H1 g1 aU bo nn=>q aK v H1 g1.dJ (st.go g1 aU.b7) bo nn⟩⟩
theorem aeT(h:fe X e t):nB X e (hl t):=⟨qV h.un fun ak H Q aX=>by
 obtain⟨O,σ,S,r,au,st,h,q⟩:=aX;obtain rfl:=(t σ).ei _ _ _ h;exact⟨O,σ,au,r,au,st.s3,h,fun aK H1 g1 aU=>q aK H1 g1.dJ (st.go g1 aU.b7)⟩⟩
theorem aes(h:gm X ax ms):lC X ax (gw ms):=⟨u3 h.un fun ak H Q aX=>by
 obtain⟨O,σ,S,r,au,st,h,q⟩:=aX;obtain rfl:=(ms σ).ei _ _ _ h;exact⟨O,σ,au,r,au,st.s3,h,fun aK v H1 g1 aU bo nn=>q aK v H1 g1.dJ (st.go g1 aU.b7) bo nn⟩⟩
theorem NS:∀D ak H,ri K mg (cj b) D ak H->jj K mg b D ak H:=by
 rintro D ak H ⟨O,σ,S,a7,au,st,h,q⟩;obtain rfl:=(b σ).ei _ _ _ h;refine⟨O,σ,au,a7,au,st.s3,h,?_⟩
 cases a7 with
 |bq σ'=>exact fun ai cD H' g t k=>q ai cD H' g.dV (st.aB g k t)
 |eP σ'=>exact fun ai cD H' g t k=>q ai cD H' g.dV (st.aB g k t)
 |b' σ'=>exact fun ai cD H' g t k=>q ai cD H' g.dV (st.aB g k t)
 | cS r=>exact fun ai v H' g d eK bo=>q ai v H' g.dV d eK (by rw[g.bC];exact st.full) bo
theorem aeN(h:eM X st b):f_ X st (cj b):=⟨gh h.un NS⟩
theorem NV(h:fK X sL b):ju X sL (cj b):=⟨yH h.un NS⟩
end
end aY
namespace aY
open PySem PySem.Spec aF
def bS(a b:bp):bp:=fun σ=>do
 let a7 <-a σ
 match a7 with
 |.bq σ'=>b σ'|a7=>pure a7
def fD(t:aO->N Bool)(a b:bp):bp:=fun σ=>do
 let t <-t σ
 if t=true then a σ else b σ
def kP(i:Nat)(m:fq):bp:=fun σ=>do
 let r <-m σ
 let d <-r.dat.up
 pure (.bq (σ.set i (.val d)))
def ow(m:fq):bp:=fun σ=>do
 let r <-m σ
 match r with
 |.v d=>pure (.cS (.v d))|.fr xs=>pure (.cS (.fr xs))|_=>fi
def rg(m:fq):bp:=fun σ=>do
 let _ <-m σ
 pure (.bq σ)
variable[aF.a6]
section
variable{K:aP}{mg:bk}{O oI:a3}{H H₀:av}{S:ck}{σ:aO}{ak:St}
theorem d5.bW(s:d5 K mg O σ S ak H)(H₀:av):d5 K mg (bW H₀ O) σ S ak H:=⟨s.s3.bW H₀,s.full,fun i xs e=>by
 obtain⟨a,ys,aq,l,r⟩:=s.sU i xs e;refine⟨a,ys,aq,l.imp (fun z=>⟨z.1,?_,z.2.2⟩) id,r.da (il _ _)⟩;rcases z.2.1 with f | f
 ·exact .inl ((il H₀ O).fr a f)
 ·exact .inr (by rw[qe (by rw[f];intro z;cases z)];exact f)⟩
theorem fo.bW(g:fo oI O H₀ H):fo oI (bW H₀ O) H₀ H:=⟨fun b o e h n=>g.cells b o e h n,fun b aa=>(xe aa).trans (g.own b aa),g.has,g.cU,g.bO,g.bC,g.new⟩
theorem d5.set{v:V}(st:d5 K mg O σ S ak H)(aC:∀xs,s≠.b1 xs)(h:jt K mg O H (.loc i) s (some v)):d5 K mg O (σ.set i s) S (ak.set i (some v)) H:=⟨st.s3.set h,st.full,fun j xs e=>by
 by_cases aZ:i=j
 ·subst aZ
  rw[aiJ (by have:=(ahN.mp e).1;rwa[aiu]at this)]at e;exact absurd (aih e) (aC xs)
 ·rw[ahZ aZ]at e
  rw[ahZ aZ];exact st.sU j xs e⟩
end
section
variable{X:aQ}{st:Stmt}{rest A B:List Stmt}{pos pos':Pos}{a b:bp}{e c:Expr}{m:fq}{t:aO->N Bool}{i:Nat}{x:Str}
theorem aeR(h:f_ X st a):ju X [st] a:=⟨K2 h.un⟩
theorem aeQ(ae:f_ X st a)(ag:ju X rest b):ju X (st::rest) (bS a b):=⟨yH (K1 ae.un ag.un) fun D ak H aX=>by
 obtain⟨O,σ,S,a7,au,st,h,q⟩:=aX;obtain⟨f1,S1,ae,h⟩:=N.inv h;refine⟨O,σ,S,f1,S1,st,ae,?_⟩
 cases f1 with
 |bq hJ=>exact fun aK vQ H1 g1 aU=>⟨aK,hJ,S1,a7,au,aU,h,q.dV g1⟩
 |cS r=>cases h;exact q
 |eP hJ=>cases h;exact q
 | b' hJ=>cases h;exact q⟩
theorem aeL(aE:nB X c t)(ao:ju X A a)(aa:ju X B b):f_ X (.If c A B pos) (fD t a b):=⟨gh (K0 aE.un ao.un aa.un) fun D ak H aX=>by
 obtain⟨O,σ,S,a7,au,st,h,q⟩:=aX;obtain⟨t,S1,ae,h⟩:=N.inv h;refine⟨O,σ,S,t,S1,st,ae,fun aK H1 g1 aU=>?_⟩
 cases t with
 |false=>
  rw[if_neg ahV]at h;exact qv ⟨aK,σ,S1,a7,au,aU,h,q.dV g1.dV⟩
 |true=>
  rw[if_pos rfl]at h;exact qw ⟨aK,σ,S1,a7,au,aU,h,q.dV g1.dV⟩⟩
theorem aeO(he:fx X e m):f_ X (.Return (some e) pos) (ow m):=⟨gh (Dk he.un) fun D ak H aX=>by
 obtain⟨O,σ,S,a7,au,st,h,q⟩:=aX;obtain⟨r,S1,ae,h⟩:=N.inv h;refine⟨O,σ,S,r,S1,st,ae,fun aK v H1 g1 aU bo nn=>?_⟩
 cases r with
 |v d=>cases h;exact q aK v H1 g1.dV aU.s3.b7 aU.s3.gM aU.full bo
 |fr xs=>cases h;exact q aK v H1 g1.dV aU.s3.b7 aU.s3.gM aU.full (Lm bo (.inr ⟨_,rfl⟩))
 |b1 xs=>cases h
 | mv xs=>cases h⟩
theorem aeH(he:fx X e m)(aC:aje e none pos.line X.env=pure false:=by rfl):f_ X (.Expr e pos) (rg m):=⟨gh (Dj he.un aC) fun D ak H aX=>by
 obtain⟨O,σ,S,a7,au,st,h,q⟩:=aX;obtain⟨r,S1,ae,h⟩:=N.inv h;cases h;exact⟨O,σ,S,r,_,st,ae,fun aK v H1 g1 aU bo nn=>q aK ak H1 g1.dV aU⟩⟩
theorem aeP(hN:X.N.Nodup)(ay:X.N[i]? = some x)(ah:Loc X.env.scope x)(he:fx X e m)(aC:aje e (some (.Name x pos')) pos.line X.env=pure false:=by rfl)(hf:X.fn x=true\/X.env.scope.names.lookup x=some .local:=by first | exact .inl rfl | exact .inr rfl | assumption) :
  f_ X (.Assign [.Name x pos'] e pos) (kP i m):=⟨gh (Dl hN ay ah he.un aC hf) fun D ak H aX=>by
 obtain⟨O,σ,S,a7,au,st,h,q⟩:=aX;obtain⟨r,S1,ae,h⟩:=N.inv h;obtain⟨d,bj,ag,h⟩:=N.inv h;cases h;refine⟨O,σ,S,r,S1,st,ae,fun aK v H1 g1 aU bo nn=>?_⟩;obtain⟨cW,rfl⟩:=oT (H₀:=H) bo nn ag;exact q (bW H aK) _ H1 g1.bW.dV ((aU.bW H).set (fun xs z=>by cases z) ⟨v,rfl,cW⟩)⟩
end
def EE(b9:hM)(O:a3)(H:av)(ys:List V):Prop:=∀bf aJ,gQ O bf H aJ->∀i,(i<ys.length->b9.go i aJ/\∀x H',b9.ox i aJ x H'->H'=aJ/\ys[i]? = some x)/\(ys.length<=i->b9.stop i aJ)
def Nm(K:aP)(mg:bk)(m:eS):TI:=fun ak H R=>rt K mg (fun σ=>(m σ).up) ak H fun O σ au xs=>∀ai H' b9 ys,Go O ai H H'->d5 K mg ai σ au ak H'->EE b9 ai H' ys->a_ K mg ai H' xs ys->R b9 H'
structure EL(X:aQ)(cc e:Expr)(m:eS):Prop where
 un:jU X cc e (Nm X.K X.mg m)
def uk(m:bl):eS:=fun σ=>do
 let r <-m σ
 match r with
 |.v (.lst xs)=>pure xs|.fr xs=>pure xs|_=>bad
def kO(b:D->bp):List D->bp
 |[]=>fun σ=>pure (.bq σ)
 |d::ds=>fun σ=>do
  let a7 <-b d σ
  match a7 with
  |.bq σ'=>kO b ds σ'|.b' σ'=>kO b ds σ'|.eP σ'=>pure (.bq σ')|.cS r=>pure (.cS r)
def Eg(B:D->bp)(it:eS):bp:=fun σ=>do
 let ds <-(it σ).up
 kO B ds σ
abbrev vJ(i:Nat)(it:eS)(b:bp):bp:=Eg (fun d σ=>b (σ.set i (.val d))) it
section
variable{X:aQ}{cc l iter:Expr}{m:bl}{a:Expr}{pos dq:Pos}{it:eS}{bd:bp}{body:List Stmt}{i:Nat}{x:Str}
theorem kY.IU{K:aP}{O:a3}{H:av}{a:Addr}{xs:List V}(h:kY K O H a xs):EE (lz K a) O H xs:=fun bf aJ g i=>BQ (h.dV g).v.c9 aJ (en.refl _) i
theorem aeD(aj:bb X l m):EL X cc l (uk m):=⟨pD (Dh aj.un) fun ak H R aX=>by
 obtain⟨O,σ,S,xs,au,st,h,q⟩:=aX;obtain rfl:=(uk m σ).ei _ _ _ h;obtain⟨r,S1,ae,h⟩:=M.inv h;obtain rfl:=(m σ).ei _ _ _ ae;refine⟨O,σ,S1,r,S1,st.s3,ae,fun aK v H1 g1 aU bo nn=>?_⟩;have oj:=st.go g1 aU.b7;split at h
 ·cases h
  obtain⟨a,ys,rfl,ls,bh⟩:=bo;exact⟨a,rfl,⟨ys,ls.c9⟩,q aK H1 (lz X.K a) ys g1 oj (kY.IU (.inl ⟨.inl ls.1,.inl ls.2,aU.b7.b8.no ls.2 (by intro z;cases z)⟩)) bh⟩
 ·cases h
  obtain⟨a,ys,rfl,ls,t,bh⟩:=bo;exact⟨a,rfl,⟨ys,c3.of ls⟩,q (bW H aK) H1 (lz X.K a) ys g1.bW (oj.bW H) (kY.IU (.inl ⟨.inl ls,.inl (rP (nn a rfl) t),aU.b7.b8.no t (by intro z;cases z)⟩)) (bh.da (il _ _))⟩
 ·cases h⟩
theorem JG{K:aP}{mg:bk}{b9:hM}{G:i4}{B:aY.D->bp}{items:List aY.D}{aK:a3}{σ:aO}{S1 au:ck}{ak:St}{H1:av}{a7:fm}{ho:Ends}(aU:d5 K mg aK σ S1 ak H1)(stop:∀ai H',gQ aK ai H1 H'->b9.stop items.length H')
  (step:∀k d ai H' σ' fI cD f bj,items[k]? = some d->gQ aK ai H1 H'->d5 K mg ai σ' fI cD H'->(B d σ').run fI=.ok f bj->b9.go k H'/\∀x aJ (R:St->av->Prop),b9.ox k H' x aJ->
   (∀ic jm cG,gQ ai ai H' cG->d5 K mg ai ic fI jm cG->(bd ic).run fI=.ok f bj->R jm cG)->G x cD aJ R)
  (h:(kO B items σ).run S1=.ok a7 au) (q:tn K mg aK au H1 a7 ho):pH (fun _ _ R=>R b9 H1) G (ri K mg bd) ho ak H1:=by
 refine⟨fun k m cD H'=>m=items.length-k/\k<=items.length/\∃ai σ' fI,d5 K mg ai σ' fI cD H'/\gQ aK ai H1 H'/\(kO B (items.drop k) σ').run fI=.ok a7 au,
  ⟨_,rfl,aib _,aK,σ,S1,aU,(dP.refl _ _).dV,h⟩,?_⟩
 rintro k m cD H' ⟨rfl,az,ai,σ',fI,b3,g',h⟩
 cases e:items.drop k with
 |nil=>
  obtain rfl:k=items.length:=by
   have:=congrArg ai8 e;rw[aiA,aiy]at this;omega
  rw[e]at h;cases h;exact .inl ⟨stop ai H' g',q ai cD H' g' b3⟩
 |cons d lK=>
  have e_:k<items.length:=by
   have:=congrArg ai8 e;rw[aiA,ahX]at this;omega
  have dK:items[k]? = some d:=by
   have:=congrArg (·[0]?) e;simpa using this
  have cf:items.drop (k+1)=lK:=by
   have:=congrArg (alE 1) e;simpa[aky]using this
  rw[e]at h;obtain⟨f1,bj,ag,h⟩:=N.inv h;obtain⟨go,mq⟩:=step k d ai H' σ' fI cD f1 bj dK g' b3 ag;refine .inr ⟨go,fun fl aJ=>∃bf c6 bj,d5 K mg bf c6 bj fl aJ/\gQ aK bf H1 aJ/\(kO B (items.drop (k+1)) c6).run bj=.ok a7 au,?_,fun x aJ ib=>mq x aJ _ ib fun ic jm cG fM jN aa=>?_⟩
  ·rintro fl aJ ⟨bf,c6,bj,a1,a2,d6⟩
   exact⟨_,by omega,rfl,e_,bf,c6,bj,a1,a2,d6⟩
  ·refine⟨ai,ic,fI,f1,bj,jN,aa,?_⟩
   have g3:=g'.trans fM
   cases f1 with
   | bq c6=>exact fun bf fl aJ g2 cv=>⟨bf,c6,bj,cv,g3.trans g2,by rw[cf];exact h⟩
   | b' c6=>exact fun bf fl aJ g2 cv=>⟨bf,c6,bj,cv,g3.trans g2,by rw[cf];exact h⟩
   |eP c6=>cases h;exact fun bf fl aJ g2 cv=>q bf fl aJ (g3.trans g2) cv
   |cS r=>cases h;exact fun bf v aJ g2 cN aD f2 b4=>q bf v aJ (g3.trans g2) cN aD f2 b4
theorem Ti{G:i4}{B:aY.D->bp}(oX:∀O σ S ak H d y f bj Q,d5 K mg O σ S ak H->Rep K mg O H d y->(B d σ).run S=.ok f bj->(∀ic jm,d5 K mg O ic S jm H->(bd ic).run S=.ok f bj->Q jm H)->G y ak H Q) :
  ∀D ak H,ri K mg (Eg B it) D ak H->pH (Nm K mg it) G (ri K mg bd) D ak H:=by
 rintro D ak H ⟨O,σ,S,a7,au,st,h,q⟩;obtain⟨ds,S1,ae,h⟩:=N.inv h;refine⟨O,σ,S,ds,S1,st,ae,fun aK H1 b9 ys g1 aU its bh=>JG aU (fun ai H' g=>(its ai H' g _).2 (ajn bh.len)) (fun k d ai H' σ' fI cD f bj dK g' b3 ag=>?_) h (q.dV g1.aB.dV)⟩;obtain⟨y,e9,bt⟩:=(bh.dV g' aU.s3.b7.b8).get dK;obtain⟨go,mq⟩:=(its ai H' g' k).1 (ahN.mp e9).1;refine⟨go,fun x aJ R ib dB=>?_⟩;obtain⟨rfl,ex⟩:=mq x aJ ib;rw[e9]at ex;cases ex;exact oX _ _ _ _ _ _ _ _ _ _ b3 bt ag fun ic jm jN aa=>dB _ _ _ (dP.refl _ _).dV jN aa
theorem aeJ(aI:akA (model X.prog X.w) X.A X.env X.dA)(aE:X.calm=true)(ay:EL X (.Name x dq) iter it)(hN:X.N.Nodup)(ah:X.N[i]? = some x)(aj:Loc X.env.scope x)(aa:ju X body bd)
  (aC:∀x,aip iter X.env x=pure x:=by intro _;rfl) (hf:X.fn x=true\/X.env.scope.names.lookup x=some .local:=by first | exact .inl rfl | exact .inr rfl | assumption):f_ X (.For (.Name x dq) iter body [] pos) (vJ i it bd):=
 ⟨gh (sD aI aE ay.un (u7 hN ah aj hf) aa.un aC) (Ti fun _ _ _ _ _ _ _ _ _ _ st bt h k=>k _ _ (st.set (s:=.val _) (fun xs z=>by cases z) ⟨_,rfl,bt⟩) h)⟩
end
end aY
namespace aY
open PySem PySem.Spec aF
def fnX(n N:Nat)(b:bp):fL:=fun ds=>if ds.length=n then do
  let a7 <-b (ds.map c8++aiH (N-n) .emp)
  match a7 with
  |.cS (.v d)=>pure (.v d)|.cS (.fr xs)=>pure (.fr xs)|.bq _=>pure (.v .aW)|_=>fi
 else fi
theorem AX{n N:Nat}{ds:List D}{r:R}(h:(fnX n N b ds).run S=.ok r au):ds.length=n:=by
 unfold fnX at h
 by_cases c:ds.length=n
 ·exact c
 ·rw[if_neg c]at h;cases h
def ml:iF:=fun _=>pure []
def jQ(m:fq)(ms:iF):iF:=fun σ=>do
 let x <-m σ
 let xs <-ms σ
 if x.jM=true then pure (x::xs)else fi
def ka(mf:fL)(ms:iF):fq:=fun σ=>do
 let rs <-ms σ
 if rs.all R.jM=true then mf (rs.map R.arg)else fi
def hI(c m:Str)(mf:fL)(mo:bl)(ms:iF):fq:=fun σ=>do
 let x <-(mo σ).up
 let o <-(fZ x).up
 match o with
 | .bA c' aV=>if c'=c/\aV.lookup m=none then(do
  let rs <-ms σ
  if rs.all R.jM=true then mf (x.arg::rs.map R.arg)else fi)else fi
 |_=>fi
def vK(c:Str)(mf:fL)(ms:iF):fq:=fun σ=>do
 let rs <-ms σ
 if rs.all R.jM=true then(do
  let S <-tX
  putN (S++[.bA c []])
  let r <-mf (.ref S.length::rs.map R.arg)
  match r with
  |.v .aW=>pure (.v (.ref S.length))| _=>fi)else fi
variable[aF.a6]
def oA(K:aP)(mg:bk)(O:a3)(H:av):D->V->Prop
 |.lst xs,v=>∃a ys,v=.ref a/\((fH H a (.lst ys)/\a∉O.bC)\/zy K a ys)/\a_ K mg O H xs ys|d,v=>Rep K mg O H d v
def mu(K:aP)(mg:bk)(O:a3)(H:av):List D->List V->Prop
 |[],ys=>ys=[]|x::xs,ys=>∃y r,ys=y::r/\oA K mg O H x y/\mu K mg O H xs r
section
variable{K:aP}{mg:bk}{O:a3}{H:av}{S:ck}
theorem oA.rep{v:V}(b8:js O)(h:Rep K mg O H d v):oA K mg O H d v:=by
 cases d with
 | lst xs=>obtain⟨a,ys,e,l,r⟩:=h;exact⟨a,ys,e,.inl ⟨.inl l.1,b8.no l.2 (by intro z;cases z)⟩,r⟩
 |_=>exact h
theorem OA{r:R}{v:V}(b8:js O)(aC:r.jM=true)(h:ew K mg O H r v):oA K mg O H r.arg v:=by
 cases r with
 |v d=>exact oA.rep b8 h| fr xs=>obtain⟨a,ys,e,l,t,r⟩:=h;exact⟨a,ys,e,.inl ⟨.inl l,b8.no t (by intro z;cases z)⟩,r⟩
 |b1 _=>cases aC
 |mv _=>cases aC
theorem wk(b8:js O):∀{rs:List R}{vs:List V},rs.all R.jM=true->f6 K mg O H rs vs->mu K mg O H (rs.map R.arg) vs
 |[],_,_,h=>h|_::_,_,aC,h=>by
  rw[akD,aix]at aC;obtain⟨y,r,q,a,b⟩:=h;exact⟨y,r,q,OA b8 aC.1 a,wk b8 aC.2 b⟩
theorem oA.r{v:V}(h:oA K mg O H d v):ta K mg O H d v:=by
 cases d with
 |lst xs=>obtain⟨a,ys,e,l,r⟩:=h;exact⟨a,ys,e,l.imp (·.1) id,r⟩
 |_=>exact h
theorem mu.r:∀{ds:List D}{vs:List V},mu K mg O H ds vs->lx K mg O H ds vs
 |[],_,h=>h| _::_,_,h=>by obtain⟨y,r,q,a,b⟩:=h;exact⟨y,r,q,a.r,mu.r b⟩
theorem mu.get:∀{ds:List D}{xs:List V}{i:Nat}{d:D},mu K mg O H ds xs->ds[i]? = some d->∃x,xs[i]? = some x/\oA K mg O H d x
 | [],_,_,_,_,e=>by simp at e| _::_,_,0,d,h,e=>by obtain⟨x,r,rfl,a,_⟩:=h;cases(show some _=some d from e);exact⟨x,rfl,a⟩
 |_::ds,_,i+1,d,h,e=>by
  obtain⟨x,r,rfl,_,b⟩:=h;obtain⟨y,aq,aD⟩:=mu.get (i:=i) b (by simpa using e);exact⟨y,by simpa using aq,aD⟩
def d0(K:aP)(mg:bk)(mf:fL):d9:=fun vs H Q _=>∃O ds r S au,cV O H/\f9 K mg O H S/\O.bC.length=S.length/\mu K mg O H ds vs/\(mf ds).run S=.ok r au/\
 ∀ai v H',fo O ai H H'->cV ai H'->f9 K mg ai H' au->ai.bC.length=au.length->ew K mg ai H' r v->jr H r v->Q v H'
theorem acf{ps N:List Str}{ds:List D}(cE:cV O H)(eK:f9 K mg O H S)(a7:O.bC.length=S.length)(eN:mu K mg O H ds vs)(aj:ds.length=ps.length):d5 K mg (e6 O) (ds.map c8++aiH (N.length-ps.length) .emp) S (aF.start N vs) H:=by
 refine⟨DQ cE eK eN.r aj,a7,fun i xs e=>?_⟩
 by_cases ay:i<ds.length
 ·rw[aic (by rw[ahJ];exact ay),aia]at e
  cases dK:ds[i]? with
  |none=>rw[dK]at e;cases e
  |some d=>
   rw[dK]at e;obtain⟨v,ev,bI⟩:=eN.get dK
   cases d with
   |lst zs=>
    cases e;obtain⟨a,ys,rfl,l,r⟩:=bI;refine⟨a,ys,?_,l.imp (fun z=>⟨z.1,mG O a,z.2⟩) id,r.da (k2 O)⟩;unfold aF.start;rw[aic (by rw[ahJ];exact(ahN.mp ev).1),aia,ev];rfl
   |_=>cases e
 ·rw[ah2 (by rw[ahJ];omega),ajD]at e
  split at e
  ·cases e
  ·cases e
theorem Gx{ps N:List Str}(hu:d0 K mg (fnX ps.length N.length c0) vs H Q E):ri K mg c0 { bq:=fun _ H'=>Q .aW H',cS:=Q } (aF.start N vs) H:=by
 obtain⟨O,ds,r,S,au,cE,eK,A1,eN,h,q⟩:=hu;have aj:=AX h;unfold fnX at h;rw[if_pos aj]at h;obtain⟨a7,S1,ae,h⟩:=aY.N.inv h;have vv:=acf (N:=N) cE eK A1 eN aj;have back:∀{ai:a3}{H':av},gQ (e6 O) ai H H'->cV ai H'->∃bf:a3,fo O bf H H'/\cV bf H'/\mz ai bf/\∀b,(ai b=.di\/∃i,ai b=.loc i)->H b=none/\bf b=.di:=fun{ai H'} g d=>by
  have qM:∀b,H b≠none->(match H b with | some _=>O b | none=>(match ai b with | .loc _=>.di | o=>o))=O b:=fun b aa=>by
   cases e:H b with
   |none=>exact absurd e aa|some o=>rfl
  have px:∀b,H b=none->(match H b with | some _=>O b | none=>(match ai b with | .loc _=>.di | o=>o))=(match ai b with | .loc _=>Own.di | o=>o):=fun b aa=>by rw[aa]
  refine⟨⟨fun b=>match H b with | some _=>O b | none=>(match ai b with | .loc _=>.di | o=>o),ai.bC⟩,⟨fun b o e h n=>g.cells b o e (h.imp (fun z=>⟨mG O b,z⟩) id) n,qM,g.has,g.cU,g.bO,g.bC,g.new⟩,⟨fun b aa=>?_,d.tabs,d.b8.1,fun b m=>?_⟩,⟨fun b aa=>?_,rfl⟩,fun b aa=>?_⟩
  ·cases e:H b with
   |some o=>exact g.has b (jh e)|none=>
    refine d.has b fun z=>aa ?_
    refine(px b e).trans ?_;rw[z]
  ·rcases g.new b m with z | z
   ·exact(qM b (cE.has b (by rw[cE.b8.2 b z];intro z;cases z))).trans (cE.b8.2 b z)
   ·refine(px b z).trans ?_
    rw[d.b8.2 b m]
  ·cases e:H b with
   |some o=>exact(qM b (jh e)).trans (oR.mp ((g.own b (jh e) (mG O b)).symm.trans aa))|none=>
    refine(px b e).trans ?_;rw[aa]
  ·have aH:H b=none:=by
    cases e:H b with
    |none=>rfl|some o=>
     exfalso;have ba:=g.own b (jh e) (mG O b);rcases mG O b with z | z<;>rw[z]at ba<;>rcases aa with w | ⟨i,w⟩<;>rw[ba]at w<;>cases w
   refine⟨aH,(px b aH).trans ?_⟩;rcases aa with w | ⟨i,w⟩<;>rw[w]
 refine⟨e6 O,_,S,a7,S1,vv,ae,?_⟩
 cases a7 with
 |bq σ'=>
  cases h;intro ai cD H' g b3;obtain⟨bf,g2,cN,f2,_⟩:=back g b3.s3.b7;exact q bf .aW H' g2 cN (b3.s3.gM.all (fun _ _ z=>Rep.da f2 z) f2.bC fun _ _ _ l _=>l) (by rw[f2.bC];exact b3.full) rfl trivial
 |eP σ'=>cases h
 |b' σ'=>cases h
 |cS bL=>
  intro ai v H' g d ab6 Tq bo;obtain⟨bf,g2,cN,f2,eC⟩:=back g d;have vr:=ab6.all (fun _ _ z=>Rep.da f2 z) f2.bC fun _ _ _ l _=>l
  have Hx:bf.bC.length=S1.length:=by rw[f2.bC];exact Tq
  cases bL with
  |v dd=>cases h;exact q bf v H' g2 cN vr Hx (Rep.da f2 bo) trivial
  |fr xs=>
   cases h;obtain⟨a,ys,rfl,l,t,bh⟩:=bo;obtain⟨aH,bG⟩:=eC a t;exact q bf _ H' g2 cN vr Hx ⟨a,ys,rfl,l,bG,bh.da f2⟩ fun b cJ=>by cases cJ;exact aH
  |b1 xs=>exact air bo|mv xs=>exact air bo
end
structure ie(K:aP)(mg:bk)(c m qual:Str)(st:Stmt)(ps:List Str):Prop where
 ex:∃C f fd,mg c=some (.ref C)/\i0 K C/\Meth K C m f/\kW K m qual st f fd/\Binds K fd ps []
structure et(P:ah1)(w:World)(K:aP)(mg:bk)(base:Heap)(c m:Str)(ps:List Str)(k:Nat)(sp:d9):Prop where
 ex:∃C f fd,mg c=some (.ref C)/\i0 K C/\Meth K C m f/\e3 P w K mg base ej k f fd ps sp/\Binds K fd ps []
section
variable{P:ah1}{w:World}{K:aP}{mg:bk}{base:Heap}{x c m qual:Str}{st:Stmt}{ps N:List Str}{k:Nat}{c0:bp}{n nl:Nat}{f:Addr}{fd:aiW}
theorem AY(F:kW K x qual st f fd)(Sc:cp N ps (bH st))(aH:ps.length=n)(aj:N.length=nl)
  (aa:∀(bw:Value)(A:ah6)(outer:List Env)(s:ahL)(H:av)(E:gn),cB k (A.deeper (aiT qual (bH st) s.heap.objs.size f bw))->
   ju (gW ej P w K mg base N qual (bH st) f bw A outer s H E).gr (fg st) c0):e3 P w K mg base ej (k+1) f fd ps (d0 K mg (fnX n nl c0)):=by
 subst aH aj;exact F.ok Sc (fun vs H Q E ⟨O,ds,r,S,au,cE,eK,A1,eN,h,q⟩=>eN.r.len.trans (AX h)) fun bw A outer s H vs Q E aG hu=>⟨_,(aa bw A outer s H E aG).un,Gx hu⟩
theorem xp(cn:cn K mg x st ps)(Sc:cp N ps (bH st))(aH:ps.length=n)(aj:N.length=nl)
  (aa:∀(f:Addr)(bw:Value)(A:ah6)(outer:List Env)(s:ahL)(H:av)(E:gn),cB k (A.deeper (aiT x (bH st) s.heap.objs.size f bw))->
   ju (gW ej P w K mg base N x (bH st) f bw A outer s H E).gr (fg st) c0):b6 P w K mg base x ps (k+1) (d0 K mg (fnX n nl c0)):=by
 obtain⟨f,fd,F,b,m⟩:=cn.ex;exact⟨f,fd,AY F Sc aH aj (fun bw=>aa f bw),b,F.kp,m⟩
theorem rU(cn:ie K mg c m qual st ps)(Sc:cp N ps (bH st))(aH:ps.length=n)(aj:N.length=nl)
  (aa:∀(f:Addr)(bw:Value)(A:ah6)(outer:List Env)(s:ahL)(H:av)(E:gn),cB k (A.deeper (aiT qual (bH st) s.heap.objs.size f bw))->
   ju (gW ej P w K mg base N qual (bH st) f bw A outer s H E).gr (fg st) c0):et P w K mg base c m ps (k+1) (d0 K mg (fnX n nl c0)):=by
 obtain⟨C,f,fd,gY,cl,me,F,b⟩:=cn.ex;exact⟨C,f,fd,gY,cl,me,AY F Sc aH aj (fun bw=>aa f bw),b⟩
theorem xo{c0:a0}(cn:ie K mg c m qual st ps)(Sc:cp N ps (bH st))(aH:ps.length=n)(aj:N.length=nl)
  (aa:∀(f:Addr)(bw:Value)(A:ah6)(outer:List Env)(s:ahL)(H:av)(E:gn),cB k (A.deeper (aiT qual (bH st) s.heap.objs.size f bw))->
   pR (gW ej P w K mg base N qual (bH st) f bw A outer s H E).gr (fg st) c0):et P w K mg base c m ps (k+1) (b5 K mg (fnOf n nl c0)):=by
 obtain⟨C,f,fd,gY,cl,me,F,b⟩:=cn.ex;exact⟨C,f,fd,gY,cl,me,Hs F Sc aH aj (fun bw=>aa f bw),b⟩
end
section
variable{X:aQ}{x:Str}{ps:List Str}{k:Nat}{mf:fL}{p pos:Pos}{e:Expr}{ax:List Expr}{ms:iF}{NQ:fq}
theorem aer:lC X [] ml:=⟨u3 yF fun ak H Q aX=>by
 obtain⟨O,σ,S,r,au,st,h,q⟩:=aX;cases h;exact q O [] H (Go.refl _ _).dJ st rfl trivial⟩
theorem kf.dJ{O ai:a3}(g:fo O ai H H'):∀{rs:List R}{vs:List V},kf H' rs vs->kf H rs vs
 |[],_,_=>trivial|_::_,[],_=>trivial|_::_,_::_,h=>⟨h.1.dJ g,kf.dJ g h.2⟩
theorem aeq(ao:fx X e NQ)(aG:lC X ax ms)(aC:ahK (e::ax) X.env=(false,eval e X.env)::ahK ax X.env:=by rfl):lC X (e::ax) (jQ NQ ms):=⟨u3 (yE ao.un aG.un aC) fun ak H Q aX=>by
 obtain⟨O,σ,S,r,au,st,h,q⟩:=aX;obtain⟨x,S1,ae,h⟩:=N.inv h;obtain⟨xs,bj,ag,h⟩:=N.inv h;split at h
 ·rename_i eE
  cases h;refine⟨O,σ,S,x,S1,st,ae,fun aK gv H1 g1 aU a5 bq=>?_⟩;exact⟨aK,σ,S1,xs,_,aU,ag,fun bf vs aJ g2 cv rs ns=>q bf (gv::vs) aJ (g1.trans g2) cv ⟨gv,vs,rfl,a5.dJ g2 aU.s3.b7.b8 eE,rs⟩ ⟨bq,ns.dJ g1⟩⟩
 ·cases h⟩
theorem QN:∀ak H Q,zg K mg (ka mf ms) ak H Q->yY (d0 K mg mf) (zf K mg ms) ak H Q:=by
 rintro ak H Q ⟨O,σ,S,r,au,st,h,q⟩;obtain⟨rs,S1,ae,h⟩:=N.inv h;split at h
 ·rename_i eE
  refine⟨O,σ,S,rs,S1,st,ae,fun aK vs H1 g1 aU bo nn=>?_⟩;exact⟨aK,_,r,S1,au,aU.s3.b7,aU.s3.gM,aU.full,wk aU.s3.b7.b8 eE bo,h,fun ai v H' g d eK a7 bL e0=>q ai v H' (g1.trans g) (aU.dJ g d eK a7) bL (e0.dJ g1)⟩
 ·cases h
theorem aev(h:b6 X.prog X.w X.K X.mg X.base x ps k (d0 X.K X.mg mf))(aG:cB k X.A)(aS:d3 X x)(ao:lC X (e::ax) ms)(ey:(x==("__debug__":Str))=false:=by decide)
  (he:ahK (e::ax) X.env=(false,eval e X.env)::ahK ax X.env:=by rfl) (eY:(aie pos (ahK ax X.env)).any (·.1)=false:=by rfl):fx X (.Call (.Name x p) (e::ax) [] pos) (ka mf ms):=
 ⟨eh (KJ h aG aS ao.un ey he eY) QN⟩
end
end aY
namespace aY
open PySem PySem.Spec aF
def jZ(c m:Str)(mf:bD)(mo:bl)(ms:cL):bl:=fun σ=>do
 let x <-mo σ
 let o <-fZ x
 match o with
 | .bA c' aV=>if c'=c/\aV.lookup m=none then(do
  let rs <-ms σ
  mf (x.arg::rs.map R.arg))else bad
 |_=>bad
def yQ(x:R)(o:gR):N Unit:=match x with
 |.v (.ref n)=>⟨fun S=>.ok () (S.set n o)⟩
 |_=>fi
def fa(c f:Str)(mo:bl)(mv:fq):bp:=fun σ=>do
 let r <-mv σ
 let d <-r.dat.up
 let x <-(mo σ).up
 let o <-(fZ x).up
 match o with
 | .bA c' aV=>if c'=c/\aV.length<1000 then(do
  yQ x (.bA c (iS f d aV))
  pure (.bq σ))else fi
 |_=>fi
def jl(mo mk:bl)(mv:fq):bp:=fun σ=>do
 let r <-mv σ
 let d <-r.dat.up
 let x <-(mo σ).up
 let k <-(mk σ).up
 let o <-(fZ x).up
 match o,k with
 | .d_ aw,.v dz=>(match o9 dz with
  | some key=>if aw.length<1000 then(do
   yQ x (.d_ (gp aw key d))
   pure (.bq σ))else fi
  | none=>fi)
 |_,_=>fi
def vI(mo:bl)(ms:cL)(mv:fq):bp:=fun σ=>do
 let r <-mv σ
 let d <-r.dat.up
 let x <-(mo σ).up
 let rs <-(ms σ).up
 let o <-(fZ x).up
 match o,qB rs with
 | .dT aw,some k=>(if rs.length<=1000/\aw.length<1000 then(do
  yQ x (.dT (gp aw k d))
  pure (.bq σ))else fi)
 |_,_=>fi
def rh(f:List D->List R->M (R×List D))(mo:bl)(ms:cL):bp:=fun σ=>do
 let x <-(mo σ).up
 let rs <-(ms σ).up
 let o <-(fZ x).up
 match o with
 |.lst xs=>do
  let p <-(f xs rs).up
  yQ x (.lst p.2)
  pure (.bq σ)
 |_=>fi
def nr(m:fq):fq:=fun σ=>do
 let r <-m σ
 match r with
 |.fr xs=>do
  let S <-tX
  putN (S++[.lst xs])
  pure (.v (.ref S.length))
 |_=>fi
variable[aF.a6]
def hh(O:a3)(p:Addr):a3:=⟨fun b=>if b=p then .out else O b,O.bC++[p]⟩
section
variable{K:aP}{mg:bk}{O ai:a3}{H H':av}{S au:ck}{σ:aO}{ak:St}{p a:Addr}{o:gR}{n:Nat}{u u':gx}
omit [aF.a6]in
theorem n9(h:b≠p):hh O p b=O b:=if_neg h
omit [aF.a6]in
theorem Yq:hh O p p=.out:=if_pos rfl
theorem Ki(cE:cV O H)(aI:p∉O.bC):js (hh O p):=⟨List.nodup_append.mpr ⟨cE.b8.1,by simp,fun x ah y a'=>by rintro rfl;rw[aij.mp a']at ah;exact aI ah⟩,fun a m=>by
 by_cases e:a=p
 ·rw[e];exact Yq
 ·rw[n9 e];exact cE.b8.2 a ((aiL.mp m).elim id fun z=>absurd (aij.mp z) e)⟩
theorem cV.CN(cE:cV O H)(aI:H p=none):p∉O.bC:=fun m=>cE.has p (by rw[cE.b8.2 p m];intro z;cases z) aI
theorem alloc(cE:cV O H)(eK:f9 K mg O H S)(a7:O.bC.length=S.length)(aI:H p=none)(hB:en H H')(dW:H' p≠none)(bA:(∀d v,Rep K mg O H d v->Rep K mg (hh O p) H' d v)->mD K mg (hh O p) H' p o) :
  fo O (hh O p) H H'/\cV (hh O p) H'/\f9 K mg (hh O p) H' (S++[o])/\(hh O p).bC.length=(S++[o]).length:=by
 have g:fo O (hh O p) H H':=⟨fun b o e _ n=>hB.at' b o e n,fun b aa=>n9 (by rintro rfl;exact aa aI),fun _ h=>hB.some h,hB.cU,hB.bO,alG _ _,fun b m=>(aiL.mp m).imp id fun z=>by rw[aij.mp z];exact aI⟩;have f:∀d v,Rep K mg O H d v->Rep K mg (hh O p) H' d v:=fun _ _ z=>Rep.dJ g cE.b8 z
 refine⟨g,⟨fun b aa=>?_,hB.bO cE.tabs,Ki cE (cE.CN aI)⟩,fun n o' e=>?_,by rw[ahS,<-a7];exact ahS⟩
 ·by_cases e:b=p
  ·rw[e];exact dW
  ·rw[n9 e]at aa;exact hB.some (cE.has b aa)
 ·by_cases aH:n<S.length
  ·rw[aic aH]at e
   obtain⟨a,ae,ag⟩:=eK n o' e;exact⟨a,by show(O.bC++[p])[n]? = _;rw[aic (by rw[a7];exact aH)];exact ae,ag.all f fun u l n=>hB.at' _ _ l n⟩
  ·rw[ah2 (by omega)]at e
   obtain rfl:n=S.length:=by
    have:=(ahN.mp e).1;simp at this;omega
   rw[ajw]at e;cases e;exact⟨p,by show(O.bC++[p])[S.length]? = _;rw[<-a7,ah2 (ahM _),ajw];rfl,bA f⟩
theorem d5.write(st:d5 K mg O σ S ak H)(aH:O.bC[n]? = some a)(cb:H a=some u)(pv:¬Fix u)(ae:∀ps,u≠.f5 ps)(ag:∀q,u≠.ext (p4 a q))(bA:(∀d v,Rep K mg O H d v->Rep K mg O (upd H a u') d v)->mD K mg O (upd H a u') a o) :
  fo O O H (upd H a u')/\d5 K mg O σ (S.set n o) ak (upd H a u'):=by
 have cT:=aiw aH;have bO:TabsOk H->TabsOk (upd H a u'):=fun t=>t.put u' (fun ps z=>ae ps (aih (cb.symm.trans z))) (fun q z=>ag q (aih (cb.symm.trans z)))
 have has:∀b,H b≠none->upd H a u' b≠none:=fun b aa=>by
  by_cases e:b=a
  ·rw[e,de];intro z;cases z
  ·rw[cX e];exact aa
 have g:fo O O H (upd H a u'):=by
  refine⟨fun b o e h _=>?_,fun _ _=>rfl,has,fun b ps e=>⟨ps,?_⟩,bO,amc _,fun _ m=>.inl m⟩
  ·rw[cX]
   ·exact e
   ·rintro rfl
    rcases h with h | h
    ·exact h cT
    ·rw[cb]at e;cases e;exact pv h
  ·rw[cX]
   ·exact e
   ·rintro rfl;rw[cb]at e;cases e;exact ae _ rfl
 have f:∀d v,Rep K mg O H d v->Rep K mg O (upd H a u') d v:=fun _ _ z=>Rep.dJ g st.s3.b7.b8 z
 refine⟨g,st.dJ g ⟨fun b aa=>has b (st.s3.b7.has b aa),bO st.s3.b7.tabs,st.s3.b7.b8⟩ (fun k o' e=>?_) (by rw[aiu];exact st.full)⟩
 by_cases az:n=k
 ·subst az
  rw[aiJ (by have:=(ahN.mp e).1;rwa[aiu]at this)]at e;cases e;exact⟨a,aH,bA f⟩
 ·rw[ahZ az]at e
  obtain⟨b,aq,aD⟩:=st.s3.gM k o' e;refine⟨b,aq,aD.all f fun u l _=>?_⟩;rw[cX]
  ·exact l
  ·rintro rfl
   obtain⟨ba,bU⟩:=ahN.mp aq;obtain⟨gZ,Dq⟩:=ahN.mp aH;exact az ((List.getElem_inj st.s3.b7.b8.1).mp (Dq.trans bU.symm))
theorem f6.dJ(g:fo O ai H H')(b8:js O):∀{rs:List R}{vs:List V},rs.all R.jM=true->f6 K mg O H rs vs->f6 K mg ai H' rs vs
 |[],_,_,h=>h|_::_,_,aC,h=>by
  rw[akD,aix]at aC;obtain⟨y,r,q,a,b⟩:=h;exact⟨y,r,q,a.dJ g b8 aC.1,f6.dJ g b8 aC.2 b⟩
theorem sv{r:R}{v:V}(st:b_ K mg O σ S ak H)(aG:ew K mg O H r v)(h:(fZ r).run S=.ok o au):∃n a,r=.v (.ref n)/\v=.ref a/\O.bC[n]? = some a/\S[n]? = some o/\mD K mg O H a o:=by
 obtain⟨n,rfl,e,rfl⟩:=Kq h;obtain⟨a,bh,g0⟩:=st.gM n o e;obtain⟨b,cJ,l'⟩:=aG;rw[bh]at l';cases l';exact⟨n,a,rfl,cJ,bh,e,g0⟩
theorem dR.Ct:∀{aw:List (Str×D)}{dm:List (Str×V)},dR K mg O H aw dm->aw.lookup f=none->dm.lookup f=none
 | [],dm,h,e=>by obtain rfl:=h.uT;rfl
 |p::aw,dm,h,e=>by
  obtain⟨q,r,rfl,aq,aD,h'⟩:=h.cons;obtain⟨p1,du⟩:=p;obtain⟨ba,bU⟩:=q;cases(show p1=ba from aq);rw[aiB]at e ⊢
  cases cJ:f==p1 with
  |true=>rw[cJ]at e;cases e
  |false=>rw[cJ]at e;exact dR.Ct h' e
end
def yZ(mg:bk)(c m:Str)(sp:d9)(b0:TE)(t:fW):TE:=fun σ H Q=>b0 σ H fun x H1=>∃a C bV aV,x=.ref a/\mg c=some (.ref C)/\H1 a=some (.ins C bV aV)/\aV.lookup m=none/\t σ H1 fun vs aJ=>sp (x::vs) aJ Q i1
def zF(t:TE):Prop:=∀σ H Q fF,(∀v H',Q v H'->fF v H')->t σ H Q->t σ H fF
theorem sT:zF (e' K mg m):=fun ak H Q fF i ⟨O,σ,S,x,au,st,h,q⟩=>⟨O,σ,S,x,au,st,h,fun ai v H' g s p n=>i _ _ (q ai v H' g s p n)⟩
section
variable{X:aQ}{c m:Str}{ps:List Str}{k:Nat}{sp:d9}{o e:Expr}{ax:List Expr}{b0:TE}{t:fW}{apos pos:Pos}{mf:fL}{qS:bD}{mo:bl}{pm:cL}{ms:iF}
theorem KN{pl:Sem Bool}(h:et X.prog X.w X.K X.mg X.base c m ps k sp)(aG:cB k X.A)(up:zF b0)(he:bQ X o b0)(ao:e5 X (e::ax) t)
  (eE:ahK (e::ax) X.env=(false,eval e X.env)::ahK ax X.env:=by rfl) (eY:(aie pos (ahK ax X.env)).any (·.1)=false:=by rfl)
  (bG:eval (.Call (.Attribute o m apos) (e::ax) [] pos) X.env=(do
   let ef <-eval o X.env
   akt apos.atName
   let(f,first) <-ajz [ef] (ajW ef m pl)
   akB pos f first (aie pos (ahK (e::ax) X.env)) (ajv pos (ai6 [] X.env))):=by rfl) :
  bQ X (.Call (.Attribute o m apos) (e::ax) [] pos) (yZ X.mg c m sp b0 t):=by
 obtain⟨C,f,fd,gY,cl,me,F,b⟩:=h.ex;refine eh (ZF (dvs:=[]) (ds:=[]) he cl me F aG b .nil sA ao eE eY bG) fun σ H Q a4=>up _ _ _ _ (fun v H1 z=>?_) a4
 obtain⟨a,ly,bV,aV,ev,pk,dW,aj,z⟩:=z;rw[gY]at pk;cases pk;refine⟨a,bV,aV,ev,dW,aj,?_⟩;simpa only[ai7]using z
theorem KO{pl:Sem Bool}(h:et X.prog X.w X.K X.mg X.base c m ps k sp)(aG:cB k X.A)(up:zF b0)(he:bQ X o b0)
  (bG:eval (.Call (.Attribute o m apos) [] [] pos) X.env=(do
   let ef <-eval o X.env
   akt apos.atName
   let(f,first) <-ajz [ef] (ajW ef m pl)
   akB pos f first (aie pos (ahK [] X.env)) (ajv pos (ai6 [] X.env))):=by rfl) :
  bQ X (.Call (.Attribute o m apos) [] [] pos) (yZ X.mg c m sp b0 vw):=by
 obtain⟨C,f,fd,gY,cl,me,F,b⟩:=h.ex;refine eh (ZG (dvs:=[]) (ds:=[]) he cl me F aG b .nil sA bG) fun σ H Q a4=>up _ _ _ _ (fun v H1 z=>?_) a4
 obtain⟨a,ly,bV,aV,ev,pk,dW,aj,z⟩:=z;rw[gY]at pk;cases pk;exact⟨a,bV,aV,ev,dW,aj,z⟩
theorem J9:∀ak H Q,e' K mg (jZ c m qS mo pm) ak H Q->yZ mg c m (b5 K mg qS) (e' K mg mo) (mh K mg pm) ak H Q:=by
 rintro ak H Q ⟨O,σ,S,r,au,st,h,q⟩;obtain⟨x,S1,ae,h0⟩:=M.inv h;clear h;refine⟨O,σ,S,x,S1,st,ae,fun aK gv H1 g1 aU a5 bq=>?_⟩;obtain⟨bA,bj,ag,h⟩:=M.inv h0;clear h0;obtain⟨n,a,rfl,rfl,bh,aaw,g0⟩:=sv aU a5 ag;obtain rfl:=(fZ (.v (.ref n))).ei _ _ _ ag;split at h
 ·rename_i c' aV
  split at h
  ·rename_i aE
   obtain⟨rfl,hm⟩:=aE;obtain⟨rs,hR,bK,h⟩:=M.inv h;obtain⟨C,bV,jC,dW,ci,h7⟩:=g0;refine⟨a,C,bV,jC,rfl,ci.1,dW,h7.Ct hm,aK,σ,_,rs,hR,aU,bK,fun bf vs aJ g2 cv bo nn=>?_⟩;obtain rfl:=(qS _).ei _ _ _ h;exact⟨bf,.ref n::rs.map R.arg,r,au,cv.b7,cv.gM,⟨_,_,rfl,ET (ew.go g2 a5),zL bo⟩,h,fun ai v H' g d bL e0=>q ai v H' ((g1.trans g2).trans g) (cv.go g d) bL (e0.back (g1.trans g2).same)⟩
  ·cases h
 ·cases h
theorem adJ{pl:Sem Bool}(h:et X.prog X.w X.K X.mg X.base c m ps k (b5 X.K X.mg qS))(aG:cB k X.A)(he:bb X o mo)(ao:gm X (e::ax) pm)
  (eE:ahK (e::ax) X.env=(false,eval e X.env)::ahK ax X.env:=by rfl) (eY:(aie pos (ahK ax X.env)).any (·.1)=false:=by rfl)
  (bG:eval (.Call (.Attribute o m apos) (e::ax) [] pos) X.env=(do
   let ef <-eval o X.env
   akt apos.atName
   let(f,first) <-ajz [ef] (ajW ef m pl)
   akB pos f first (aie pos (ahK (e::ax) X.env)) (ajv pos (ai6 [] X.env))):=by rfl):bb X (.Call (.Attribute o m apos) (e::ax) [] pos) (jZ c m qS mo pm):=
 ⟨eh (KN h aG sT he.un ao.un eE eY bG) J9⟩
theorem adK{pl:Sem Bool}(h:et X.prog X.w X.K X.mg X.base c m ps k (b5 X.K X.mg qS))(aG:cB k X.A)(he:bb X o mo)
  (bG:eval (.Call (.Attribute o m apos) [] [] pos) X.env=(do
   let ef <-eval o X.env
   akt apos.atName
   let(f,first) <-ajz [ef] (ajW ef m pl)
   akB pos f first (aie pos (ahK [] X.env)) (ajv pos (ai6 [] X.env))):=by rfl):bb X (.Call (.Attribute o m apos) [] [] pos) (jZ c m qS mo ar):=
 ⟨eh (KO h aG sT he.un bG) fun ak H Q a4=>sT _ _ _ _ (fun v H1 z=>by
  obtain⟨a,C,bV,aV,aq,aD,cQ,e8,O,σ,S,rs,S1,st,ae,q⟩:=z;cases ae;exact⟨a,C,bV,aV,aq,aD,cQ,e8,q O [] H1 (Go.refl _ _) st rfl trivial⟩) (J9 _ _ _ a4)⟩
theorem J8:∀ak H Q,zg K mg (hI c m mf mo ms) ak H Q->yZ mg c m (d0 K mg mf) (e' K mg mo) (zf K mg ms) ak H Q:=by
 rintro ak H Q ⟨O,σ,S,r,au,st,h,q⟩;obtain⟨x,S1,ae,h0⟩:=N.inv h;clear h;obtain rfl:=(mo σ).ei _ _ _ ae;refine⟨O,σ,S1,x,S1,st.s3,ae,fun aK gv H1 g1 aU a5 bq=>?_⟩;have ack:=st.go g1 aU.b7;obtain⟨bA,bj,ag,h⟩:=N.inv h0;clear h0;obtain⟨n,a,rfl,rfl,bh,aaw,g0⟩:=sv aU a5 ag;obtain rfl:=(fZ (.v (.ref n))).ei _ _ _ ag;split at h
 ·rename_i c' aV
  split at h
  ·rename_i aE
   obtain⟨rfl,hm⟩:=aE;obtain⟨rs,hR,bK,h⟩:=N.inv h;obtain⟨C,bV,jC,dW,ci,h7⟩:=g0;split at h
   ·rename_i eE
    refine⟨a,C,bV,jC,rfl,ci.1,dW,h7.Ct hm,aK,σ,_,rs,hR,ack,bK,fun bf vs aJ g2 cv bo nn=>?_⟩;have Hy:=g1.dJ.trans g2;exact⟨bf,.ref n::rs.map R.arg,r,hR,au,cv.s3.b7,cv.s3.gM,cv.full,⟨_,_,rfl,Rep.dJ g2 aU.b7.b8 a5,wk cv.s3.b7.b8 eE bo⟩,h,fun ai v H' g d eK a7 bL e0=>q ai v H' (Hy.trans g) (cv.dJ g d eK a7) bL (e0.dJ Hy)⟩
   ·cases h
  ·cases h
 ·cases h
theorem aez{pl:Sem Bool}(h:et X.prog X.w X.K X.mg X.base c m ps k (d0 X.K X.mg mf))(aG:cB k X.A)(he:bb X o mo)(ao:lC X (e::ax) ms)
  (eE:ahK (e::ax) X.env=(false,eval e X.env)::ahK ax X.env:=by rfl) (eY:(aie pos (ahK ax X.env)).any (·.1)=false:=by rfl)
  (bG:eval (.Call (.Attribute o m apos) (e::ax) [] pos) X.env=(do
   let ef <-eval o X.env
   akt apos.atName
   let(f,first) <-ajz [ef] (ajW ef m pl)
   akB pos f first (aie pos (ahK (e::ax) X.env)) (ajv pos (ai6 [] X.env))):=by rfl):fx X (.Call (.Attribute o m apos) (e::ax) [] pos) (hI c m mf mo ms):=
 ⟨eh (KN h aG sT he.un ao.un eE eY bG) J8⟩
theorem aeA{pl:Sem Bool}(h:et X.prog X.w X.K X.mg X.base c m ps k (d0 X.K X.mg mf))(aG:cB k X.A)(he:bb X o mo)
  (bG:eval (.Call (.Attribute o m apos) [] [] pos) X.env=(do
   let ef <-eval o X.env
   akt apos.atName
   let(f,first) <-ajz [ef] (ajW ef m pl)
   akB pos f first (aie pos (ahK [] X.env)) (ajv pos (ai6 [] X.env))):=by rfl):fx X (.Call (.Attribute o m apos) [] [] pos) (hI c m mf mo ml):=
 ⟨eh (KO h aG sT he.un bG) fun ak H Q a4=>sT _ _ _ _ (fun v H1 z=>by
  obtain⟨a,C,bV,aV,aq,aD,cQ,e8,O,σ,S,rs,S1,st,ae,q⟩:=z;cases ae;exact⟨a,C,bV,aV,aq,aD,cQ,e8,q O [] H1 (Go.refl _ _).dJ st rfl trivial⟩) (J8 _ _ _ a4)⟩
theorem aey{aV:List Str}{p:Pos}(T:oC X.K X.mg c aV)(h:et X.prog X.w X.K X.mg X.base c "__init__" ps k (d0 X.K X.mg mf))(aG:cB (k+1) X.A)(aS:d3 X c)(ao:lC X (e::ax) ms)(ey:(c==("__debug__":Str))=false:=by decide)
  (he:ahK (e::ax) X.env=(false,eval e X.env)::ahK ax X.env:=by rfl) (eY:(aie pos (ahK ax X.env)).any (·.1)=false:=by rfl):fx X (.Call (.Name c p) (e::ax) [] pos) (vK c mf ms):=by
 obtain⟨C,f,fd,gY,cl,me,F,b⟩:=h.ex;obtain⟨ly,pk,_,⟨mk,kp⟩,_⟩:=T.ex;rw[gY]at pk;cases pk;refine⟨eh (ZE (dvs:=[]) (ds:=[]) ⟨mk,me.at_,me.fn,kp⟩ F aG aS gY b .nil sA ao.un ey he eY) fun ak H Q aX=>?_⟩;obtain⟨O,σ,S,r,au,st,h,q⟩:=aX;obtain⟨rs,S1,ae,h0⟩:=N.inv h;clear h;refine⟨O,σ,S,rs,S1,st,ae,fun aK vs H1 g1 aU bo nn a bV ao Vj Yh=>?_⟩;split at h0
 ·rename_i eE
  obtain⟨Oj,bj,ag,aa⟩:=N.inv h0;clear h0;cases ag;obtain⟨_,hR,bK,aE⟩:=N.inv aa;clear aa;cases bK;obtain⟨b4,oM,dt,h⟩:=N.inv aE;clear aE;have hB:en H1 (upd (upd H1 bV (.own a)) a (.ins C bV [])):=(q0 Vj _).trans (q0 (by rw[cX (aks Yh)];exact ao) _);obtain⟨g2,cN,vr,Ho⟩:=alloc (o:=.bA c []) aU.s3.b7 aU.s3.gM aU.full ao hB (by rw[de];intro z;cases z) fun _=>⟨C,bV,[],de,⟨gY,cl⟩,rfl,rfl⟩
  rw[ai7];have BB:(hh aK a).bC[S1.length]? = some a:=by show(aK.bC++[a])[S1.length]? = _;rw[<-aU.full,ah2 (ahM _),ajw];rfl
  have tY:=g1.trans g2;refine⟨hh aK a,.ref S1.length::rs.map R.arg,b4,_,oM,cN,vr,Ho,⟨_,_,rfl,⟨a,rfl,BB⟩,?_⟩,dt,fun ai v H' g d eK a7 bL e0=>?_⟩
  ·exact wk cN.b8 eE (f6.dJ g2 aU.s3.b7.b8 eE bo)
  ·split at h
   ·cases h
    refine⟨bL,q ai _ H' (tY.trans g) ((aU.dJ g2 cN vr Ho).dJ g d eK a7) ⟨a,rfl,?_⟩ trivial⟩;obtain⟨t,e⟩:=g.bC;rw[<-e,aic (ahN.mp BB).1];exact BB
   ·cases h
 ·cases h0
end
end aY
namespace aY
open PySem PySem.Spec aF PyProof.Rows
@[reducible] def xJ:amD where
 α:=Int
 blt a b:=decide (a<b)
 irrefl a:=by simp
 trans a b c ae ag:=by simp only[decide_eq_true_eq]at *;omega
 negTrans a b c h:=by simp only[decide_eq_true_eq]at *;omega
 total a b ae ag:=by simp only[decide_eq_false_iff_not]at *;omega
 keyOf v:=match v with | .int i _=>some i | _=>none
 dflt:=0
theorem Wo:xJ.OneLt:=by
 intro prog w A E s x y a b Q ao aa h;cases x<;>simp only[xJ,reduceCtorEq,amQ]at ao
 cases y<;>simp only[xJ,reduceCtorEq,amQ]at aa
 cases ao;cases aa;exact oneLt_int h
structure fE where
 κ:amD
 dz:κ.α->D
 un:D->Option κ.α
structure fE.Ok(Z:fE):Prop where
 one:Z.κ.OneLt
 q8:∀d a,Z.un d=some a->d=Z.dz a
 key:∀(a:Z.κ.α)(K:aP)(mg:bk)(O:a3)(H:av)(v:V)(u:Value),Rep K mg O H (Z.dz a) v->RelV v u->Z.κ.keyOf u=some a
 kind:∀(pK pL:Value)(vs:List Value),(∀v∈pK::pL::vs,∃a,Z.κ.keyOf v=some a)->keyKind' (pK::pL::vs).toArray=pure oneType'
@[reducible] def fB:fE where
 κ:=xJ
 dz:=D.int
 un d:=match d with | .int i=>some i | _=>none
@[reducible] def h3:fE where
 κ:=amE
 dz:=fun l=>D.str ⟨l.toArray⟩
 un d:=match d with | .str x=>some x.cps.toList | _=>none
theorem Jf:fB.Ok where
 one:=Wo
 q8:=fun d a h=>by cases d<;>first | (cases h;rfl) | cases h
 key:=fun a K mg O H v u h r=>by
  cases(show v=.int a from h);obtain⟨t,rfl⟩:=r;rfl
 kind:=fun pK pL vs h=>by
  refine keyKind_ints (ns:=(pK::pL::vs).map numOf) (intsAre_map _ fun v bz=>?_);obtain⟨a,ao⟩:=h v bz;cases v<;>first | (cases ao;exact⟨_,_,rfl⟩) | cases ao
theorem Jg:h3.Ok where
 one:=strKind_oneLt
 q8:=fun d a h=>by cases d<;>first | (cases h;rfl) | cases h
 key:=fun a K mg O H v u h r=>by
  cases(show v=.str ⟨a.toArray⟩from h);obtain⟨t,rfl⟩:=r;rfl
 kind:=fun pK pL vs h=>by
  have key:∀(l:List Value),(∀v∈l,∃a,amE.keyOf v=some a)->∃ss,StrsAre l ss:=fun l=>by
   induction l with
   |nil=>exact fun _=>⟨[],.nil⟩
   |cons v l a9=>
    intro h;obtain⟨ss,aC⟩:=a9 fun w hw=>h w (ahR _ hw)
    obtain⟨a,ao⟩:=h v ah0;cases v<;>first | exact⟨_::ss,.cons _ _ aC⟩ | cases ao
  obtain⟨ss,aC⟩:=key _ h;exact keyKind_strs aC
section
variable{β:Type}
def r2(blt:β->β->Bool)(p:β×D):List (β×D)->List (β×D)
 |[]=>[p]
 |q::r=>if blt q.1 p.1 then q::r2 blt p r else p::q::r
def hi(blt:β->β->Bool):List (β×D)->List (β×D)
 |[]=>[]
 |p::r=>r2 blt p (hi blt r)
theorem BN(blt:β->β->Bool)(p:β×D):∀l,(r2 blt p l).Perm (p::l)
 |[]=>.refl _|q::r=>by
  unfold r2;split
  ·exact((BN blt p r).cons q).trans (.swap p q r)
  ·exact .refl _
theorem yS(blt:β->β->Bool):∀l,(hi blt l).Perm l
 |[]=>.refl _|p::r=>(BN blt p _).trans ((yS blt r).cons p)
end
theorem II(O:ajl)(p:O.α×D):∀l:List (O.α×D),l.Pairwise (fun a b=>O.blt a.1 b.1=true)->(∀q∈l,q.1≠p.1)->(r2 O.blt p l).Pairwise (fun a b=>O.blt a.1 b.1=true)
 |[],_,_=>List.pairwise_singleton _ _|q::r,h,aH=>by
  rw[ajJ]at h;unfold r2
  cases e:O.blt q.1 p.1 with
  |true=>
   rw[if_pos rfl,ajJ];refine⟨fun x ah=>?_,II O p r h.2 fun x ah=>aH x (ahR _ ah)⟩;rcases ahP.mp ((BN O.blt p r).mem_iff.mp ah)with rfl | ah
   ·exact e
   ·exact h.1 x ah
  |false=>
   rw[if_neg ahV,ajJ,ajJ];have Im:O.blt p.1 q.1=true:=by
    cases aD:O.blt p.1 q.1 with
    |true=>rfl|false=>exact absurd (O.total _ _ e aD) (aH q ah0)
   refine⟨fun x ah=>?_,h.1,h.2⟩;rcases ahP.mp ah with rfl | ah
   ·exact Im
   ·exact O.trans _ _ _ Im (h.1 x ah)
theorem DK(O:ajl):∀l:List (O.α×D),(l.map (·.1)).Nodup->(hi O.blt l).Pairwise (fun a b=>O.blt a.1 b.1=true)
 |[],_=>.nil|p::r,h=>by
  rw[ahT,aiR]at h;refine II O p _ (DK O r h.2) fun q a4 e=>h.1 ?_
  rw[<-e];exact akJ ((yS O.blt r).mem_iff.mp a4)
theorem Lp{En:Type}{lt:En->En->Prop}(IM:∀a,¬lt a a)(kK:∀a b c,lt a b->lt b c->lt a c):∀{pe l₂:List En},pe.Perm l₂->pe.Pairwise lt->l₂.Pairwise lt->pe=l₂
 |[],l₂,p,_,_=>(List.nil_perm.mp p).symm|a::pe,[],p,_,_=>(List.nil_perm.mp p.symm)
 |a::pe,b::l₂,p,ae,ag=>by
  rw[ajJ]at ae ag;have e:a=b:=by
   rcases ahP.mp (p.mem_iff.mp ah0)with h | h
   ·exact h
   ·rcases ahP.mp (p.mem_iff.mpr ah0)with h' | h'
    ·exact h'.symm
    ·exact(IM _ (kK _ _ _ (ae.1 b h') (ag.1 a h))).elim
  subst e;rw[Lp IM kK (List.Perm.cons_inv p) ae.2 ag.2]
theorem DM(O:ajl){l ps:List (O.α×D)}(aH:(l.map (·.1)).Nodup)(aI:ps.Perm l)(aC:ps.Pairwise (fun a b=>O.blt a.1 b.1=true)):ps=hi O.blt l:=
 Lp (lt:=fun a b=>O.blt a.1 b.1=true) (fun a=>by rw[O.irrefl];exact ahV) (fun a b c=>O.trans _ _ _) (aI.trans (yS O.blt l).symm) aC (DK O l aH)
theorem acj(O:ajl){ps:List (O.α×D)}(aH:(ps.map (·.1)).Nodup)(h:ps.Pairwise (fun a b=>O.blt b.1 a.1=false)):ps.Pairwise (fun a b=>O.blt a.1 b.1=true):=by
 induction ps with
 |nil=>exact .nil|cons p r a9=>
  rw[ahT,aiR]at aH;rw[ajJ]at h ⊢;refine⟨fun q a4=>?_,a9 aH.2 h.2⟩
  cases e:O.blt p.1 q.1 with
  |true=>rfl| false=>exact absurd (akJ (f:=fun x:O.α×D=>x.1) a4) (by rw[<-O.total _ _ e (h.1 q a4)];exact aH.1)
end aY
namespace aY
open PySem PySem.Spec aF PyProof.Rows
variable[aF.a6]
def ny(X:aQ)(k:Nat)(f:Addr)(G:av->Prop)(mf:bD):Prop:=
 (∀H H',en H H'->G H->G H')/\(∀H p zs o,H p=some (.lst zs)->G H->G (upd H p o))/\∀(A:ah6)(s:ahL)(H:av)(u:Value)(v:V)(Q:cZ),cB k A->kV X.prog X.w X.K X.mg X.base A X.stack s H->G H->RelV v u->b5 X.K X.mg mf [v] H Q i1->
  akv (model X.prog X.w) A (.call (.ref f) ⟨[u],[]⟩) (Et ej X.stack X.prog X.w H s Q i1) s
def lstP(a:Addr)(e:Nat):Heap->Prop:=fun h=>h.get? a=some (aiq "list" #[] e)
structure pS(X:aQ)(pinZ:cP)(σ:aF.St)(G:av->Prop)(O:a3)(H:av)(a dC:Addr)(aq:Nat)(br:List D)(aM:ahL):Prop where
 ex:∃ai H' ys,Inv X pinZ σ H' aM/\Go O ai H H'/\cV ai H'/\G H'/\H' a=some (.ext (lstP a aq))/\H' dC=some (.lst ys)/\a_ X.K X.mg ai H' br ys/\ai dC=.di
 na:a∉O.bC
section
variable{X:aQ}{pinZ:cP}{σ:aF.St}{H:av}{s:ahL}{G:av->Prop}{mf:bD}{f a dC:Addr}{k:Nat}{O:a3}{aq:Nat}
theorem XQ{h:Heap}(e:h.get? a=some (aiq "list" #[] aq)):gz prog w H h a (.ext (lstP a aq)):=
 ⟨e,⟨_,e⟩,fun ae ag p q=>q _ p⟩
theorem Hj{H':av}(I:Inv X pinZ σ H' aM)(ao:H' a=some (.ext (lstP a aq)))(q:Str):H' a≠some (.ext (p4 a q)):=fun z=>by
 obtain⟨p,_⟩:=I.bF a _ ao;obtain⟨du,_⟩:=I.bF a _ z;obtain⟨c,o,vs,t,aq,aD,cQ,_⟩:=du;cases aq;have p:aM.heap.get? a=_:=p;rw[p]at aD;cases aD;cases cQ
theorem Xf{br:List D}{v:V}(fs:ny X k f G mf)(aG:cB k X.A.in1.in1)(lU:H a=none)(lW:H dC=none)(nO:dC≠a)(cW:Rep X.K X.mg O H d v)(dD:RelV v u)(hd:(mf [d]).run []=.ok (.v i') [])(rY:br.length<64)(S:pS X pinZ σ G O H a dC aq br aM) :
  wpAny (model X.prog X.w) X.A.in1.in1 (call (.ref f) [u]) (fun u' s2=>∃(ai:a3)(H':av)(ys:List V)(e2:V),Inv X pinZ σ H' s2/\Go O ai H H'/\cV ai H'/\G H'/\H' a=some (.ext (lstP a aq))/\H' dC=some (.lst ys)/\a_ X.K X.mg ai H' br ys/\Rep X.K X.mg ai H' i' e2/\RelV e2 u'/\ai dC=.di) (fun _ _=>False) aM:=by
 obtain⟨aK,H1,ys,a8,g1,fz,oF,ao,az,bh,od⟩:=S.ex;refine wpAny_call (aj0 (fs.2.2 X.A.in1.in1 aM H1 u v (fun e2 H'=>∃ai,Go aK ai H1 H'/\cV ai H'/\Rep X.K X.mg ai H' i' e2) aG a8.tL.in1.in1 oF dD ?_) fun r s2 a4=>?_)
 ·refine⟨aK,[d],.v i',[],fz,f9.nil,⟨v,[],rfl,?_,rfl⟩,hd,fun ai e2 H' g cE bo _=>⟨ai,g,cE,bo⟩⟩
  have Du:=cW.go g1;cases d<;>first | exact Du | exact air Du | skip
  obtain⟨x,zs,q,l,r⟩:=Du;exact⟨x,zs,q,l.c9,r⟩
 ·cases r with
  |error e=>exact air a4|ok a7=>
   cases a7 with
   |ret u'=>
    obtain⟨e2,aJ,bM,bI,bf,g2,cN,b4⟩:=a8.after a4;exact⟨bf,aJ,ys,e2,bM,g1.trans g2,cN,fs.1 _ _ g2.same oF,g2.same.at' _ _ ao,g2.same.at' _ _ az,bh.go g2,b4,bI,(g2.own dC (by rw[az];intro z;cases z)).trans od⟩
   |next=>exact air a4
   |brk=>exact air a4|cont=>exact air a4
theorem aca{Z:fE}(j1:Z.Ok){ds:List D}{cK:List Z.κ.α}{xs:List V}{us:List Value}{P:Fin->ahL->Prop}{E:cu}(fs:ny X k f G mf)(aG:cB k X.A.in1.in1)(lU:H a=none)(lW:H dC=none)(nO:dC≠a)
  (bh:a_ X.K X.mg O H ds xs) (bI:Vals xs us) (rY:∀(i:Nat)(d:D),ds[i]? = some d->∃κ,cK[i]? = some κ/\(mf [d]).run []=.ok (.v (Z.dz κ)) []) (hlen:cK.length=ds.length) (i8:ds.length<64) (S:pS X pinZ σ G O H a dC aq [] s)
  (fin:∀(aM:ahL)(keys:Array Value),pS X pinZ σ G O H a dC aq (cK.map Z.dz) aM->keys.toList.map Z.κ.keyOf=cK.map some->wpAny (model X.prog X.w) X.A.in1.in1 (ksk_end a false us.toArray aq (.ref dC) keys) P E aM) :
  wpAny (model X.prog X.w) X.A.in1.in1 (ksk_rest a (.ref f) false us.toArray aq (.ref dC)) P E s:=by
 have XS:=bh.len;have uA:=bI.length;unfold ksk_rest;refine ahH (aln ?_)
 first
  |rw[List.forIn_toArray]
  |(rw[<-Array.forIn_toList];simp only[List.toList_toArray])
  |rw[<-Array.forIn_toList]
 refine ahH (ksk_fold (fun i aM=>pS X pinZ σ G O H a dC aq ((cK.take i).map Z.dz) aM) us 0 s (by rw[alv];exact S) ?step ?done)
 case step=>
  intro j u aM cb au;simp only[akU]at au ⊢;have aZ:j<us.length:=(ahN.mp cb).1;obtain⟨v,bz,dD⟩:∃v,xs[j]? = some v/\RelV v u:=by
   have bz:xs[j]? = some xs[j]:=ait (by omega);obtain⟨u',r1,r⟩:=bI.get bz;rw[cb]at r1;cases r1;exact⟨_,bz,r⟩
  obtain⟨d,hd,cW⟩:=bh.HG bz;obtain⟨κ,Wc,hm⟩:=rY j d hd;have hz:((cK.take j).map Z.dz).length<64:=by rw[ahJ,ajH];omega
  refine ahH (wpAny_attempt (aiv (Xf fs aG lU lW nO cW dD hm hz au) (fun u' s2 he=>?_) fun _ _ dk=>dk.elim));obtain⟨bf,aJ,ys,e2,bM,g2,cN,zv,mR,jF,sG,aav,DB,pB⟩:=he
  try dsimp only
  obtain⟨hsz,its,n,vals,gF⟩:=bM.bF dC _ jF;have VG:its.length=(cK.take j).length:=by rw[<-vals.length,sG.len,ahJ]
  have ag9:its.length<64:=by rw[VG,ajH];omega
  have s1:=ai1 s2.heap dC (aim (·.push u'));obtain⟨af,gE⟩:∃af,(s2.heap.update dC (aim (·.push u'))).get? dC=some (aiq "list" (its.toArray.push u') af):=⟨_,ajP gF (·.push u')⟩;refine ahH (aka gF rfl ?_ (by rw[ahW,ah8];omega) (aiS (ajn (Array.size_push ..)) (by rw[ahW,ah8];omega)));refine ahO ⟨rfl,⟨⟨bf,upd aJ dC (.lst (ys++[e2])),ys++[e2],?_,⟨ou lW g2.same jF _,g2.own,g2.bC⟩,cN.d1 jF,fs.2.1 _ _ _ _ jF zv,by rw[cX nO.symm];exact mR,de,?_,pB⟩,au.na⟩⟩
  ·refine bM.write (x:=dC) (e:=dC) (t':=s2.toks) (by rw[jF];trivial) (.inl rfl) (fun b o aa e=>(s1.2 b aa).trans e) ⟨_,gE⟩ ⟨?_,its++[u'],af,vals.append (.cons DB .nil),?_⟩
   ·rw[ahS,vals.length];rw[ah8];simp;omega
   ·rw[gE];simp[aiq]
  ·have hb:cK.take (j+1)=cK.take j++[κ]:=by rw[alV,Wc];rfl
   rw[hb,aiG];exact(sG.append (.one aav)).d1 (by rw[pB];intro z;cases z) jF
 case done=>
  intro aM au;have cQ:cK.take (0+us.length)=cK:=ak3 (by omega);rw[cQ]at au;obtain⟨bf,aJ,ys,bM,g2,cN,zv,mR,jF,sG,pB⟩:=id au.ex;obtain⟨hsz,its,n,vals,gF⟩:=bM.bF dC _ jF;refine ahH (listItems_at gF rfl ?_);refine fin aM its.toArray au ?_;have key:∀(cK:List Z.κ.α)(ys:List V)(its:List Value),a_ X.K X.mg bf aJ (cK.map Z.dz) ys->Vals ys its->its.map Z.κ.keyOf=cK.map some:=by
   intro cK
   induction cK with
   |nil=>intro ys its h r;cases h;cases r;rfl
   |cons κ cK a9=>
    intro ys its h r;obtain⟨y,t,rfl,ae,ag⟩:=h
    cases r with
    |cons bu b4=>
     rw[ahT,ahT,a9 _ _ ag b4,j1.key κ _ _ _ _ _ _ ae bu]
  exact key _ _ _ sG vals
end
end aY
namespace aY
open PySem PySem.Spec aF PyProof.Rows
theorem ZM{α β:Type}(f:α->β):∀{L M:List β},L.Perm M->∀{Q:List α},M=Q.map f->∃fF:List α,fF.Perm Q/\L=fF.map f:=by
 intro L M h
 induction h with
 |nil=>
  intro Q e
  cases Q with
  |nil=>exact⟨[],.refl _,rfl⟩|cons q Q=>cases e
 |cons x _ a9=>
  intro Q e
  cases Q with
  |nil=>cases e
  |cons q Q=>
   rw[ahT]at e;injection e with aq aD
   obtain⟨fF,p,cQ⟩:=a9 aD;exact⟨q::fF,p.cons q,by rw[aq,cQ];rfl⟩
 |swap x y l=>
  intro Q e
  cases Q with
  |nil=>cases e
  |cons q Q=>
   cases Q with
   |nil=>rw[ahT]at e;injection e with _ aD;cases aD
   |cons r Q=>
    rw[ahT,ahT]at e;injection e with aq aD
    injection aD with aD cQ
    exact⟨r::q::Q,.swap _ _ _,by rw[aq,aD,cQ];rfl⟩
 |trans _ _ um uo=>
  intro Q e;obtain⟨afm,p1,aq⟩:=uo e;obtain⟨Oh,du,aD⟩:=um aq;exact⟨Oh,du.trans p1,aD⟩
variable[aF.a6]
abbrev v'(Z:fE):=(Value×Value)×(Z.κ.α×(D×V))
section
variable{K:aP}{mg:bk}{O:a3}{H:av}{Z:fE}
theorem aam{ds:List D}:∀{xs:List V}{us keys:List Value}{cK:List Z.κ.α},a_ K mg O H ds xs->Vals xs us->keys.map Z.κ.keyOf=cK.map some->cK.length=ds.length->
  ∃Q:List (v' Z),Q.map (·.1)=keys.zip us/\Q.map (fun q=>(q.2.1,q.2.2.1))=cK.zip ds/\∀q∈Q,Z.κ.keyOf q.1.1=some q.2.1/\Rep K mg O H q.2.2.1 q.2.2.2/\RelV q.2.2.2 q.1.2:=by
 induction ds with
 |nil=>
  intro xs us keys cK h r e l;cases h;cases r;rw[amk.mp l]at e ⊢;have:keys=[]:=by cases keys with | nil=>rfl | cons=>cases e
  subst this;exact⟨[],rfl,rfl,fun _ h=>(nomatch h)⟩
 |cons d ds a9=>
  intro xs us keys cK h r e l;obtain⟨x,t,rfl,ae,ag⟩:=h
  cases r with
  |@cons _ u _ us bu b4=>
   cases cK with
   |nil=>cases l
   |cons κ cK=>
    cases keys with
    |nil=>cases e
    |cons kv keys=>
     rw[ahT,ahT]at e;injection e with aq aD
     obtain⟨Q,ba,bU,gZ⟩:=a9 ag b4 aD (by simpa using l);refine⟨((kv,u),(κ,(d,x)))::Q,?_,?_,fun q a4=>?_⟩
     ·rw[ahT,ba];rfl
     ·rw[ahT,bU];rfl
     ·rcases ahP.mp a4 with rfl | a4
      ·exact⟨aq,ae,bu⟩
      ·exact gZ q a4
theorem Li{α:Type}(f:α->D)(g:α->V):∀l:List α,(∀q∈l,Rep K mg O H (f q) (g q))->a_ K mg O H (l.map f) (l.map g)
 |[],_=>rfl|q::l,h=>⟨_,_,rfl,h q ah0,Li f g l fun x ah=>h x (ahR _ ah)⟩
omit [aF.a6]in
theorem NA{α:Type}(f:α->V)(g:α->Value):∀l:List α,(∀q∈l,RelV (f q) (g q))->Vals (l.map f) (l.map g)
 |[],_=>.nil|q::l,h=>.cons (h q ah0) (NA f g l fun x ah=>h x (ahR _ ah))
theorem sorted_out{ds:List D}{xs:List V}{us:List Value}{keys:Array Value}{cK:List Z.κ.α}(bh:a_ K mg O H ds xs)(bI:Vals xs us)(az:keys.toList.map Z.κ.keyOf=cK.map some)(aj:cK.length=ds.length)(aH:cK.Nodup)
  {eN:Array Keyed}(aI:eN.Perm (keys.zip us.toArray)) (aC:SortedToK Z.κ eN eN.size) :
  ∃ys,Vals ys (eN.map (·.2)).toList/\ys.length=ds.length/\a_ K mg O H ((hi Z.κ.blt (cK.zip ds)).map (·.2)) ys:=by
 obtain⟨Q,ba,bU,gZ⟩:=aam bh bI az aj;have V0:eN.toList.Perm (Q.map (·.1)):=by
  rw[ba,<-ksk_zip];exact Array.perm_iff_toList_perm.mp aI
 obtain⟨fF,pC,cf⟩:=ZM (fun q:v' Z=>q.1) V0 rfl;have Dp:∀q∈fF,Z.κ.keyOf q.1.1=some q.2.1/\Rep K mg O H q.2.2.1 q.2.2.2/\RelV q.2.2.2 q.1.2:=fun q a4=>gZ q (pC.mem_iff.mp a4)
 have zj:(cK.zip ds).map (·.1)=cK:=by rw[ak9];omega
 have perm:(fF.map fun q=>(q.2.1,q.2.2.1)).Perm (cK.zip ds):=by rw[<-bU];exact pC.map _
 have eI:((fF.map fun q:v' Z=>(q.2.1,q.2.2.1)).map (·.1)).Nodup:=by
  have:=perm.map (fun p:Z.κ.α×D=>p.1);rw[zj]at this;exact this.nodup_iff.mpr aH
 have DO:(fF.map fun q:v' Z=>(q.2.1,q.2.2.1)).Pairwise (fun a b=>Z.κ.blt b.1 a.1=false):=by
  rw[alW,al0];intro i j ay aZ ql;have Jq:eN.toList.length=fF.length:=by rw[cf,ahJ]
  have k7:i<eN.size:=by rw[aiE]at Jq;omega
  have Ig:j<eN.size:=by rw[aiE]at Jq;omega
  have:=aC i j (ai5 ql) Ig;have at':∀(m:Nat)(hm:m<fF.length)(VP:m<eN.size),KK Z.κ eN m=fF[m].2.1:=fun m hm VP=>by
   have aq:eN[m]? = some fF[m].1:=by
    have:eN.toList[m]? = some fF[m].1:=by rw[cf,aia,ait hm];rfl
    rwa[amA]at this
   unfold KK;rw[aq];show(Z.κ.keyOf fF[m].1.1).getD Z.κ.dflt=_;rw[(Dp _ (List.getElem_mem hm)).1];rfl
  rw[at' i ay k7,at' j aZ Ig]at this;exact this
 have one:=DM Z.κ.toKeyOrd (by rw[zj];exact aH) perm (acj Z.κ.toKeyOrd eI DO);refine⟨fF.map fun q=>q.2.2.2,?_,?_,?_⟩
 ·have:(eN.map (·.2)).toList=fF.map fun q=>q.1.2:=by
   rw[Array.toList_map,cf,akz];rfl
  rw[this];exact NA _ _ _ fun q a4=>(Dp q a4).2.2
 ·rw[ahJ,pC.length_eq]
  have:=congrArg ai8 bU;rw[ahJ,alo,aj,Nat.min_self]at this;exact this
 ·rw[<-one,akz]
  exact Li _ _ _ fun q a4=>(Dp q a4).2.1
end
section
variable{X:aQ}{pinZ:cP}{σ:aF.St}{H:av}{s:ahL}{G:av->Prop}{a dC:Addr}{O:a3}{aq:Nat}{Z:fE}{ds:List D}{cK:List Z.κ.α}{xs:List V}{us:List Value}{E:cu}{keys:Array Value}
def zD(X:aQ)(pinZ:cP)(σ:aF.St)(O:a3)(H:av)(a:Addr)(out:List D)(aM:ahL):Prop:=
 ∃ai H' ys,Inv X pinZ σ H' aM/\Go O ai H H'/\cV ai H'/\H' a=some (.lst ys)/\ai a=.di/\a_ X.K X.mg ai H' out ys
theorem MD{A:ah6}{st:SortSt}(lU:H a=none)(lW:H dC=none)(nO:dC≠a)(bh:a_ X.K X.mg O H ds xs)(bI:Vals xs us)(az:keys.toList.map Z.κ.keyOf=cK.map some)(aj:cK.length=ds.length)(aH:cK.Nodup)(i8:ds.length<64)
  (S:pS X pinZ σ G O H a dC aq (cK.map Z.dz) s) (aI:(arrOf st).Perm (keys.zip us.toArray)) (aC:SortedToK Z.κ (arrOf st) (arrOf st).size) (Vz:failedOf st=none) :
  wpAny (model X.prog X.w) A (ksk_tail a false aq (.ref dC) st) (fun r aM=>r=.done (.ret .none)/\zD X pinZ σ O H a ((hi Z.κ.blt (cK.zip ds)).map (·.2)) aM) E s:=by
 obtain⟨bf,aJ,ahG,bM,g2,cN,zv,mR,jF,sG,pB⟩:=S.ex;obtain⟨_,its,n,vals,gF⟩:=bM.bF dC _ jF;have VC:s.heap.get? a=some (aiq "list" #[] aq):=(bM.bF a _ mR).1;obtain⟨zs,zp,zj,s_⟩:=sorted_out bh bI az aj aH aI aC;have hsz:(arrOf st).size=ds.length:=by
  have ae:=zp.length;have ag:((arrOf st).map (·.2)).toList.length=(arrOf st).size:=by rw[aiE,Array.size_map]
  omega
 have ahg:its.length=ds.length:=by rw[<-vals.length,sG.len,ahJ,aj]
 have s1:=ai1 s.heap dC (aim fun _=>(#[]:Array Value));obtain⟨b2,H7⟩:∃b2,(s.heap.update dC (aim fun _=>(#[]:Array Value))).get? dC=some (aiq "list" #[] b2):=⟨_,ajP gF fun _=>#[]⟩;have CI:(s.heap.update dC (aim fun _=>(#[]:Array Value))).get? a=some (aiq "list" #[] aq):=(s1.2 a nO.symm).trans VC;have dr:Inv X pinZ σ (upd aJ dC (.lst [])) { s with heap:=s.heap.update dC (aim fun _=>(#[]:Array Value)) }:=
  bM.write (x:=dC) (e:=dC) (t':=s.toks) (by rw[jF];trivial) (.inl rfl) (fun b o aa e=>(s1.2 b aa).trans e) ⟨_,H7⟩ ⟨aib _,[],b2,.nil,H7⟩
 have s2:=ai1 (s.heap.update dC (aim fun _=>(#[]:Array Value))) a (aim fun _=>(arrOf st).map (·.2));obtain⟨af,gE⟩:∃af,((s.heap.update dC (aim fun _=>(#[]:Array Value))).update a (aim fun _=>(arrOf st).map (·.2))).get? a=some (aiq "list" ((arrOf st).map (·.2)) af):=⟨_,ajP CI fun _=>(arrOf st).map (·.2)⟩;have qh:upd aJ dC (.lst []) a=some (.ext (lstP a aq)):=by rw[cX nO.symm];exact mR
 unfold ksk_tail
 try dsimp only
 simp only[akg,if_false];refine ahH (aka gF rfl ?_ (by rw[ahW,ah8];omega) (aib _));refine ahH (ajo ?_);refine ahH (aly CI rfl ?_);refine ahH (aka CI rfl ?_ (aib _) (aiS (ajn (Array.size_map ..)) (by rw[hsz,ah8];omega)));rw[Vz];simp only[bne_self_eq_false,akg,if_false];have same:en H (upd (upd aJ dC (.lst [])) a (.lst zs)):=by
  have lq:=ou lW g2.same jF (.lst []);refine⟨fun b o e n=>by rw[cX (j7 e lU)];exact lq.at' b o e n,fun b ps e=>by rw[cX (j7 e lU)];exact lq.cU b ps e,fun g=>?_⟩;exact(lq.bO g).put _ (fun ps=>by rw[qh];intro z;cases z) (Hj dr qh)
 have go:Go O (fC bf a .di) H (upd (upd aJ dC (.lst [])) a (.lst zs)):=⟨same,fun b aa=>by
  rw[ot (by rintro rfl;exact aa lU)];exact g2.own b aa,g2.bC⟩
 refine ahO ⟨rfl,fC bf a .di,_,zs,?_,go,⟨fun b aa=>?_,?_,cN.b8.1,fun b m=>by rw[ot (by rintro rfl;exact S.na (g2.bC▸m))];exact cN.b8.2 b m⟩,de,nk,s_.go go⟩
 ·refine dr.write (x:=a) (e:=a) (t':=s.toks) (by rw[qh];trivial) (.inl rfl) (fun b o aa e=>(s2.2 b aa).trans e) ⟨_,gE⟩ ⟨?_,_,af,zp,?_⟩
  ·rw[zj,ah8];omega
  ·rw[gE,Array.toArray_toList]
 ·by_cases e:b=a
  ·rw[e,de];intro z;cases z
  ·rw[cX e]
   rw[ot e]at aa
   by_cases cf:b=dC
   ·rw[cf,de];intro z;cases z
   ·rw[cX cf];exact cN.has b aa
 ·exact(cN.tabs.lst jF _).put _ (fun ps=>by rw[qh];intro z;cases z) (Hj dr qh)
theorem ab9{A:ah6}(j1:Z.Ok)(lU:H a=none)(lW:H dC=none)(nO:dC≠a)(bh:a_ X.K X.mg O H ds xs)(bI:Vals xs us)(az:keys.toList.map Z.κ.keyOf=cK.map some)(aj:cK.length=ds.length)(aH:cK.Nodup)(i8:ds.length<64)
    (S:pS X pinZ σ G O H a dC aq (cK.map Z.dz) s) :
    wpAny (model X.prog X.w) A (ksk_end a false us.toArray aq (.ref dC) keys) (fun r aM=>r=.done (.ret .none)/\zD X pinZ σ O H a ((hi Z.κ.blt (cK.zip ds)).map (·.2)) aM) E s:=by
  have uA:us.length=ds.length:=by rw[<-bI.length,bh.len]
  have lk:keys.size=ds.length:=by
    have:=congrArg ai8 az;rw[ahJ,ahJ,aiE]at this;omega
  have BH:(keys.zip us.toArray).size=ds.length:=by rw[Array.size_zip,lk,ahW,uA,Nat.min_self]
  have xw:∀v∈keys.toList,∃κ,Z.κ.keyOf v=some κ:=fun v bz=>by
    have:Z.κ.keyOf v∈cK.map some:=by rw[<-az];exact akJ bz
    obtain⟨κ,_,e⟩:=aiK.mp this;exact⟨κ,e.symm⟩
  unfold ksk_end
  try dsimp only
  simp only[akg,if_false]
  by_cases ag:us.toArray.size<2
  · rw[if_pos ag,if_pos ag]
    refine ahH (ahO ?_);rw[StateT.run_pure];refine ahH (ahO ?_)
    try dsimp only
    refine MD (st:=SortSt.mk' general' (keys.zip us.toArray) #[] 7 none) lU lW nO bh bI az aj aH i8 S (Array.Perm.refl _) ?_ rfl;intro i j ql aZ;have VH:j<(keys.zip us.toArray).size:=aZ;rw[BH]at VH;rw[ahW]at ag;have:i=j:=by omega
    subst this;exact PyProof.Rows.KeyOrd.kle_refl _
  · rw[if_neg ag,if_neg ag]
    rw[ahW]at ag;have Wa:2<=(keys.zip us.toArray).size:=by
      have bK:2<=us.length:=Nat.le_of_not_lt ag;rw[BH];omega
    have eG:keyKind' keys=pure oneType':=by
      cases e:keys.toList with
      |nil=>
               have eW:keys.size=0:=by rw[<-aiE,e];rfl
               omega
      |cons pK r=>
        cases r with
        |nil=>
                 have eW:keys.size=1:=by rw[<-aiE,e];rfl
                 omega
        |cons pL r=>
          have hb:keys=(pK::pL::r).toArray:=by rw[<-e,Array.toArray_toList]
          rw[hb];exact j1.kind pK pL r fun v bz=>xw v (by rw[e];exact bz)
    rw[eG];refine ahH (ahO ?_);refine ahH (aiv (wpS_sortRunsK (κ:=Z.κ) j1.one (a₀:=keys.zip us.toArray) (st:=SortSt.mk' oneType' (keys.zip us.toArray) #[] 7 none)
      (Q:=fun _ b3=>(arrOf b3).Perm (keys.zip us.toArray)/\failedOf b3=none/\SortedToK Z.κ (arrOf b3) (keys.zip us.toArray).size)
      (fun p aI=>?_) ⟨Array.Perm.refl _,rfl,rfl,rfl⟩ Wa (by rw[BH];exact i8) fun b3 a1 a2 d6=>⟨a1,a2,d6⟩) ?_ fun _ _ e=>e)
    · rw[ksk_zip]at aI
      exact xw _ (akL aI).1
    rintro⟨⟨⟩,b3⟩ aM ⟨rfl,aI,hf,aC⟩
    try dsimp only
    exact MD lU lW nO bh bI az aj aH i8 S aI (by rw[aI.size_eq];exact aC) hf
end
end aY
namespace aY
open PySem PySem.Spec aF PyProof.Rows
variable[aF.a6]
section
variable{X:aQ}{pinZ:cP}{σ:aF.St}{H:av}{s:ahL}{G:av->Prop}{mf:bD}{f l:Addr}{k:Nat}{O:a3}{Z:fE}{ds:List D}{cK:List Z.κ.α}{xs:List V}{E:cu}
theorem ab8(j1:Z.Ok)(I:Inv X pinZ σ H s)(cE:cV O H)(bh:a_ X.K X.mg O H ds xs)(cq:c3 X.K H l xs)(fs:ny X k f G mf)(tU:G H)(aG:cB (k+2) X.A)
  (rY:∀(i:Nat)(d:D),ds[i]? = some d->∃κ,cK[i]? = some κ/\(mf [d]).run []=.ok (.v (Z.dz κ)) []) (hlen:cK.length=ds.length) (aH:cK.Nodup) (i8:ds.length<64) :
  wpAny (model X.prog X.w) X.A (call (.builtin "sorted") [.ref l] [(ah3 "key",.ref f)]) (fun u aM=>∃a,u=.ref a/\H a=none/\zD X pinZ σ O H a ((hi Z.κ.blt (cK.zip ds)).map (·.2)) aM) E s:=by
 obtain⟨us,bI,pl,_⟩:=I.list cq;have aj:s.heap.IsList l us.toArray:=pl.isList;have uA:us.length=ds.length:=by rw[<-bI.length,bh.len]
 have qd:H (s.heap.objs.size+1)=none:=I.bF.fresh (akl _);refine call_function_entry_kw kind_sorted plain_sorted entry_sorted (ksk_s1 _ _) ?_;unfold alc.«sorted»;refine ahH (m:=checkCount "sorted" 1 1 _) (ahO ?_);refine ahH (collect_list aj ?_ (by rw[ah8];omega));refine ahH (akF ?_ (by rw[ah8];omega));have hsz:((s.heap.push (aiq "list" #[] 0)).update s.heap.objs.size (aim (·++us.toArray))).objs.size=s.heap.objs.size+1:=by
  rw[amd,al1]
 have lZ:(((s.heap.push (aiq "list" #[] 0)).update s.heap.objs.size (aim (·++us.toArray))).push (aiq "list" us.toArray 0)).get? (s.heap.objs.size+1)=some (aiq "list" us.toArray 0):=by
  rw[<-hsz];exact ahU _ rfl
 have keep:∀b o,s.heap.get? b=some o->(((s.heap.push (aiq "list" #[] 0)).update s.heap.objs.size (aim (·++us.toArray))).push (aiq "list" us.toArray 0)).get? b=some o:=fun b o q=>by
  have e_:b<s.heap.objs.size:=ahY q;rw[ajU _ _ _ (by rw[hsz];exact ah5 (akZ e_)),Heap.get?_update_ne _ _ _ _ (ah5 e_),ajU _ _ _ (ah5 e_)];exact q
 have a8:Inv X pinZ σ (upd H (s.heap.objs.size+1) (.lst xs)) { s with heap:=((s.heap.push (aiq "list" #[] 0)).update s.heap.objs.size (aim (·++us.toArray))).push (aiq "list" us.toArray 0) }:=
  I.laid (t':=s.toks) keep (akl _) ⟨by rw[bh.len,ah8];omega,us,0,bI,lZ⟩
 have TH:Go O O H (upd H (s.heap.objs.size+1) (.lst xs)):=Go.eJ qd;have afr:cV O (upd H (s.heap.objs.size+1) (.lst xs)):=cE.same TH.same;show wpAny _ _ _ _ _ { s with heap:=((s.heap.push (aiq "list" #[] 0)).update s.heap.objs.size (aim (·++us.toArray))).push (aiq "list" us.toArray 0) };rw[hsz];refine ahH (ai3 (wpAny_call_entry_kw slot_list_sort ⟨_,lZ,rfl⟩ entry_list_sort ?body (ksk_l1 _ _)))
 case body=>
  show wpAny (model X.prog X.w) X.A.in1.in1 (alc.«list.sort» ⟨[.ref (s.heap.objs.size+1)],[(ah3 "key",.ref f)]⟩) _ _ _;rw[ksk_t1];generalize rT:s.heap.objs.size+1=a at *;generalize((s.heap.push (aiq "list" #[] 0)).update s.heap.objs.size (aim (·++us.toArray))).push (aiq "list" us.toArray 0)=ae at *;have s1:=ai1 ae a (aim fun _=>(#[]:Array Value));obtain⟨aq,Bx⟩:∃aq,(ae.update a (aim fun _=>(#[]:Array Value))).get? a=some (aiq "list" #[] aq):=⟨_,ajP lZ fun _=>#[]⟩;have bM:Inv X pinZ σ (upd (upd H a (.lst xs)) a (.ext (lstP a aq))) { s with heap:=ae.update a (aim fun _=>(#[]:Array Value)) }:=
   a8.write (x:=a) (e:=a) (t':=s.toks) (by rw[de];trivial) (.inl rfl) (fun b o aa e=>(s1.2 b aa).trans e) ⟨_,Bx⟩ (XQ Bx)
  rw[adi]at bM;unfold ksk_tree;refine ahH (listItems_at lZ rfl ?_);refine ahH (aka lZ rfl ?_ (by rw[ahW,ah8];omega) (aib _));refine ahH (aly Bx rfl ?_);refine ahH (wpAny_newTuple ?_ (by show us.length<=_;rw[ah8];omega));refine ahH (akF ?_ (aib _));refine ai3 ?_;have dr:Inv X pinZ σ (upd H a (.ext (lstP a aq))) { s with heap:=(ae.update a (aim fun _=>(#[]:Array Value))).push (aiq "tuple" us.toArray 0) }:=
   bM.kept (t':=s.toks) fun b o e=>ahI _ e
  generalize ag8:(ae.update a (aim fun _=>(#[]:Array Value))).push (aiq "tuple" us.toArray 0)=ag at *;have rO:upd H a (.ext (lstP a aq)) ag.objs.size=none:=dr.bF.fresh (ahM _);have yp:ag.objs.size≠a:=by
   intro z;rw[z,de]at rO;cases rO
  have lW:H ag.objs.size=none:=by rw[cX yp]at rO;exact rO
  have i2:Inv X pinZ σ (upd (upd H a (.ext (lstP a aq))) ag.objs.size (.lst [])) { s with heap:=ag.push (aiq "list" #[] 0) }:=
   dr.laid (t':=s.toks) (fun b o e=>ahI _ e) (ahM _) ⟨aib _,[],0,.nil,ahU _ rfl⟩
  have HJ:Go O (fC O ag.objs.size .di) H (upd (upd H a (.ext (lstP a aq))) ag.objs.size (.lst [])):=(Go.eJ qd).trans (Go.new rO);have Sx:cV (fC O ag.objs.size .di) (upd (upd H a (.ext (lstP a aq))) ag.objs.size (.lst [])):=(cE.same (Go.eJ (O:=O) qd).same).new rO;have Oi:pS X pinZ σ G O H a ag.objs.size aq [] { s with heap:=ag.push (aiq "list" #[] 0) }:=
   ⟨⟨fC O ag.objs.size .di,_,[],i2,HJ,Sx,fs.1 _ _ HJ.same tU,by rw[cX yp.symm];exact de,de,rfl,nk⟩,fun m=>cE.has a (by rw[cE.b8.2 a m];intro z;cases z) qd⟩
  refine aiv (aca (E:=E) j1 fs (aG.in1.in1) qd lW yp bh bI rY hlen i8 Oi fun aM keys au VJ=>ab9 j1 qd lW yp bh bI VJ hlen aH i8 au) (fun r aM a4=>?_) fun _ _ e=>e
  obtain⟨rfl,a4⟩:=a4;exact⟨_,rfl,ahO ⟨_,rfl,a,rfl,qd,a4⟩⟩
end
structure mC(K:aP)(c P:Addr)(q:Str):Prop where
 hd:∀h,K.In h->W.CodeHd h c P
 tp:a6.tp P
 sE:a6.sE P=q
structure kc(base:Heap)(mg:bk):Prop where
 ex:∃bm o,mg (ah3 "__builtins__")=some (aid bm)/\bm≠alX/\bm≠aik/\base.get? bm=some o/\o.cls=akW "module"/\o.dict=some alX/\o.data=Data.plain
def CX(f:Addr)(bA:Obj):Heap->Prop:=fun h=>h.get? f=some bA
def mB(f c:Addr)(q:Str)(bA:Obj):av->Prop:=fun H=>H f=some (.ext (CX f bA))/\H c=some (.ext (p4 c q))
theorem mB.mono(H H':av)(s:en H H')(g:mB f c q bA H):mB f c q bA H':=⟨s.at' _ _ g.1,s.at' _ _ g.2⟩
theorem mB.upd(H:av)(p:Addr)(zs:List V)(o:gx)(h:H p=some (.lst zs))(g:mB f c q bA H):mB f c q bA (upd H p o):=
 ⟨by rw[cX (by rintro rfl;have:=g.1;rw[h]at this;cases this)];exact g.1,by rw[cX (by rintro rfl;have:=g.2;rw[h]at this;cases this)];exact g.2⟩
theorem Tc{K:aP}{mg:bk}{N ps:List Str}{m:bl}{vs:List V}{H:av}{Q:cZ}(h:b5 K mg (fnOf ps.length N.length (bE m)) vs H Q i1):e' K mg m (aF.start N vs) H Q:=by
 obtain⟨O,ds,r,S,cE,eK,eN,h,q⟩:=h;have aj:=xa h;unfold fnOf at h;rw[if_pos aj]at h;obtain⟨a7,S1,ae,h⟩:=M.inv h;have vv:=DQ (N:=N) cE eK eN aj;obtain⟨sF,bj,ag,bK⟩:=M.inv ae;refine⟨e6 O,_,S,sF,bj,vv,ag,fun ai v H' g b3 bo nn=>?_⟩
 let bf:a3:=⟨fun b=>match H b with | some _=>O b | none=>ai b,O.bC⟩
 have qM:∀b,H b≠none->bf b=O b:=fun b aa=>by
  show(match H b with | some _=>O b | none=>ai b)=O b
  cases e:H b with
  |none=>exact absurd e aa|some o=>rfl
 have px:∀b,H b=none->bf b=ai b:=fun b aa=>by
  show(match H b with | some _=>O b | none=>ai b)=ai b;rw[aa]
 have da:mz ai bf:=⟨fun b aa=>by
  by_cases aH:H b=none
  ·rw[px b aH];exact aa
  ·rw[qM b aH];exact oR.mp ((g.own b aH).symm.trans aa),g.bC.symm⟩
 have go:Go O bf H H':=⟨g.same,fun b aa=>qM b aa,rfl⟩;have b7:cV bf H':=⟨fun b aa=>by
  by_cases aH:H b=none
  ·rw[px b aH]at aa;exact b3.b7.has b aa
  ·exact g.same.some aH,b3.b7.tabs,cE.b8.1,fun b m=>(qM b (cE.has b (by rw[cE.b8.2 b m];intro z;cases z))).trans (cE.b8.2 b m)⟩
 cases sF with
 |v d=>
  cases bK;cases h;exact q bf v H' go b7 (Rep.da da bo) trivial
 |fr zs=>
  cases bK;cases h;obtain⟨a,ys,rfl,l,t,bh⟩:=bo;have aH:=nn a rfl;exact q bf _ H' go b7 ⟨a,ys,rfl,l,(px a aH).trans t,bh.da da⟩ nn
 |b1 zs=>cases bK
 |mv zs=>cases bK
section
variable{X:aQ}{k:Nat}{f c:Addr}{name q:Str}{params:akR}{body:Expr}{scope:Scope}{pm gV:Value}{N ps:List Str}{m:bl}
theorem Jp{p1:Str}(Sc:cp N [p1] scope)(lR:∀(u:Value),ajZ (W.kla_fn name q params body scope [] pm (.ref c) gV) ⟨[u],[]⟩=pure [(p1,u)])
  (aa:∀(A:ah6)(s:ahL)(H:av),cB k (A.deeper (akw q scope s.heap.objs.size f (.ref c)))->hn (gW ej X.prog X.w X.K X.mg X.base N q scope f (.ref c) A X.stack s H i1).gr body m) :
  ny X (k+1) f (mB f c q (W.kla_obj name q params body scope [] pm c gV)) (fnOf 1 N.length (bE m)):=by
 refine⟨mB.mono,mB.upd,fun A s H u v Q aG dU g dD hu=>?_⟩;obtain⟨g1,_⟩:=dU.bF f _ g.1;obtain⟨g2,_⟩:=dU.bF c _ g.2;have lim:s.heap.NoLimit:=dU.mod.nolimit.keeps fun b o e=>(dU.bs b o e).1
 have Bv:∀y∈[p1].zip [u],scope.names.lookup y.1=some .local\/(scope.names.lookup y.1=some .cell/\((cellsFrom (s.heap.objs.size+1) scope.names []).lookup y.1).isSome=true):=fun aX a'=>by
  obtain⟨n,v⟩:=aX;rcases Sc.par n (akL a').1 with q | q
  ·exact .inl q
  ·exact .inr ⟨q,ama _ _ _ (.inl q)⟩
 refine W.kla_callFunE aG.depth g1 rfl Sc.co Sc.gen rfl g2 ?_;rw[lR];refine ahO ?_;refine wpAny_newFunctionEnv_cells Sc.kind Bv fun env he s1 x=>?_
 subst he;refine⟨lim.keeps x.toInCall.keep,W.kla_codeExpr ?_⟩;have I:Inv (gW ej X.prog X.w X.K X.mg X.base N q scope f (.ref c) A X.stack s H i1) [] (aF.start N [v]) H s1:=IL Sc aG.hd dU rfl (.cons dD .nil) x;refine aiv ((bQ.gr (aa A s H (aG.deeper _))) [] s1 (aF.start N [v]) H _ I (Tc (ps:=[p1]) hu)) (fun u' aM aC=>?_) fun e aM aC=>aC
 obtain⟨e2,H',b9,bI,eA⟩:=aC;exact⟨e2,H',b9.os,b9.bare,b9.base,b9.bF,bI,eA⟩
end
end aY
namespace aY
open PySem PySem.Spec aF PyProof.Rows
theorem MV{a b:Int}:∀l:List Value,amn l->amn (l++[ajT a,ajT b,c])
 |[],_=>trivial|.int _ _::.int _ _::_::rest,h=>MV rest h
theorem EP{pos pos':Pos}:∀l:List Value,amn l->ald pos' (l++[ajT pos.line,ajT pos.col,c])=some ij->ald pos' l=some ij\/ij=c
 |[],_,h=>by
  right;have h:(if((pos.line:Int)==pos'.line&&(pos.col:Int)==pos'.col)=true then some c else none)=some ij:=h;split at h
  ·cases h;rfl
  ·cases h
 |.int a _::.int b _::d::rest,t,h=>by
  have h:(if(a==pos'.line&&b==pos'.col)=true then some d else ald pos' (rest++[ajT pos.line,ajT pos.col,c]))=some ij:=h;show(if(a==pos'.line&&b==pos'.col)=true then some d else ald pos' rest)=some ij\/_;split at h
  ·rename_i aE;rw[if_pos aE];exact .inl h
  ·rename_i aE;rw[if_neg aE];exact EP rest t h
variable[aF.a6]
section
variable{X:aQ}{pinZ:cP}{σ:aF.St}{H:av}{s:ahL}{O:a3}{c P:Addr}{q:Str}{params:akR}{body:Expr}{scope:Scope}{pos:Pos}
theorem Jo(I:Inv X pinZ σ H s)(cE:cV O H)(L:mC X.K c P q)(B:kc X.base X.mg)(mT:X.env.code=.ref c)(a4:X.env.qual++ah3 "<lambda>"=q)(nR:al2 params X.env=([],[]))(jE:akf scope X.env=pure []) :
  wpAny (model X.prog X.w) X.A (eval (.Lambda params body scope pos) X.env) (fun u aM=>∃(f c':Addr)(pm gV:Value)(H':av),u=.ref f/\Inv X pinZ σ H' aM/\Go O O H H'/\cV O H'/\mB f c' q (W.kla_obj (ah3 "<lambda>") q params body scope [] pm c' gV) H') X.dA s:=by
 obtain⟨ps,dM,kK,Al⟩:=cE.tabs P L.tp;rw[L.sE]at Al;have HB:s.heap.get? P=some (W.tabObj ps):=I.bF P _ dM;have Gg:∀b o,X.base.get? b=some o->b≠P:=fun b o e z=>by
  subst z;have:=(I.bs b o e).2;rw[dM]at this;cases this
 have oX:s.heap.Ns aik X.mg:=I.mod.glob.keeps I.eP;have VB:aik≠P:=by
  obtain⟨o,ax,cI,e,_⟩:=I.mod.glob;exact Gg _ _ e
 have nN:s.heap.BuiltinsAt X.mg P:=by
  obtain⟨bm,o,bX,bY,gB,hq,jy⟩:=B.ex;exact⟨bm,o,bX,bY,gB,Gg _ _ hq,I.eP _ _ hq,jy⟩
 have C:=L.hd _ I.eZ;refine W.kla_eval nR ?_;rw[a4]
 cases lL:ald pos ps.toList with
 |some ij=>
  obtain⟨c',rfl,xq⟩:=Al pos ij lL;refine W.kla_makeFunctionHit jE I.ok.glob oX mT C HB kK lL nN fun gV h' tk az hsz=>?_
  have aH:H h'.objs.size=none:=I.bF.fresh hsz;have go:Go O O H (upd H h'.objs.size (.ext (CX h'.objs.size (W.kla_obj (ah3 "<lambda>") q params body scope [] ((X.mg (ah3 "__name__")).getD .none) c' gV)))):=Go.eJ aH;refine⟨h'.objs.size,c',_,gV,_,rfl,I.laid (t':=tk) (fun b o e=>ahI _ (az b o e)) hsz ?_,go,cE.same go.same,de,go.same.at' _ _ xq⟩;exact⟨ahU _ rfl,⟨_,ahU _ rfl⟩,fun ae ag p r=>r _ p⟩
 |none=>
  refine W.kla_makeFunction jE I.ok.glob oX mT C HB kK lL VB nN fun c' gV h' tk ah Ic e_ BA It=>?_
  have Ik:H c'=none:=I.bF.fresh Ic;have Yl:c'≠P:=(j7 dM Ik).symm
  let kF:=ps++#[ajT pos.line,ajT pos.col,.ref c']
  let H1:=upd (upd H P (.f5 kF)) c' (.ext (p4 c' q))
  have k1:∀{b:Addr},b≠P->b≠c'->H1 b=H b:=fun ae ag=>by show upd _ _ _ _=_;rw[cX ag,cX ae]
  have wo:H1 P=some (.f5 kF):=by show upd _ _ _ _=_;rw[cX Yl.symm];exact de
  have zO:H1 c'=some (.ext (p4 c' q)):=de;have Yp:∀{b:Addr}{o:Obj},s.heap.get? b=some o->b≠c':=fun e=>ah5 (aio (ahY e) Ic)
  have m_:∀{b:Addr}{o:gx},H b=some o->b≠c':=fun e=>j7 e Ik
  have un:gA X.aV [] H H1 s.heap h':=by
   refine⟨fun b o e n _ _=>ah b o (by rintro rfl;rw[dM]at n;cases n) e,fun b o e n _ _=>⟨o.slots,ah b o (by rintro rfl;rw[dM]at n;cases n) e⟩,
    fun b o e n _=>by rw[k1 (by rintro rfl;rw[dM]at n;cases n) (Yp e)];exact n,fun b o e _=>?_,fun b xs e=>?_,fun b o u e=>?_,fun b zs e=>?_⟩
   ·by_cases aa:b=P
    ·rw[aa];exact⟨_,It⟩
    ·exact⟨o,ah b o aa e⟩
   ·rw[k1 (by rintro rfl;rw[dM]at e;cases e) (m_ e)];exact e
   ·rw[k1 (by rintro rfl;rw[dM]at e;cases e) (m_ e)];exact e
   ·by_cases aa:b=P
    ·subst aa
     rw[dM]at e;cases e;exact⟨_,wo⟩
    ·exact⟨#[],by rw[k1 aa (m_ e),e];simp⟩
  have bF:e4 X.prog X.w H1 h':=fun b u e=>by
   by_cases ae:b=c'
   ·subst ae
    rw[zO]at e;cases e;obtain⟨af,dw,vs,t,fb,d2,kb,kR⟩:=BA;cases fb;exact⟨⟨_,dw,vs,t,rfl,d2,kb,kR⟩,⟨_,d2⟩,fun ae ag aX r=>by obtain⟨i6,YH,adj,t3,zh,zi,NT,NU⟩:=aX;cases zh;exact⟨_,YH,adj,t3,rfl,r _ zi,NT,NU⟩⟩
   ·by_cases ag:b=P
    ·subst ag
     rw[wo]at e;cases e;exact It
    ·rw[k1 ag ae]at e
     refine(I.bF b u e).q3 (fun d o hd AH=>ah d o (fun z=>?_) AH) (fun d dK=>?_) fun d xs dK=>?_
     ·rcases hd with rfl | hd
      ·exact ag z
      ·rw[z,dM]at hd;cases hd
     ·rw[k1 (by rintro rfl;rw[dM]at dK;cases dK) (m_ dK)];exact dK
     ·rw[k1 (by rintro rfl;rw[dM]at dK;cases dK) (m_ dK)];exact dK
  have a8:Inv X pinZ σ H1 { s with heap:=h',toks:=tk }:=I.un (t':=tk) un bF;have aH:H1 h'.objs.size=none:=bF.fresh (ahM _);have aaZ:en H H1:=by
   refine⟨fun b o e n=>by rw[k1 (by rintro rfl;rw[dM]at e;cases e;exact n) (m_ e)];exact e,fun b zs e=>?_,fun g pX T3=>?_⟩
   ·by_cases aa:b=P
    ·exact⟨kF,by rw[aa];exact wo⟩
    ·exact⟨zs,by rw[k1 aa (m_ e)];exact e⟩
   ·obtain⟨zs,aq,aD,cQ⟩:=g pX T3
    by_cases aa:pX=P
    ·subst aa
     refine⟨kF,wo,?_,fun pos' ij rV=>?_⟩
     ·show amn (ps++#[ajT pos.line,ajT pos.col,.ref c']).toList
      rw[Array.toList_append];exact MV _ kK
     ·have rV:ald pos' (ps++#[ajT pos.line,ajT pos.col,.ref c']).toList=some ij:=rV
      rw[Array.toList_append]at rV;rw[L.sE];rcases EP _ kK rV with h | h
      ·obtain⟨af,rfl,ag⟩:=Al pos' ij h
       exact⟨af,rfl,by rw[k1 (by rintro rfl;rw[dM]at ag;cases ag) (m_ ag)];exact ag⟩
      ·exact⟨c',h,zO⟩
    ·refine⟨zs,by rw[k1 aa (m_ aq)];exact aq,aD,fun pos' ij rV=>?_⟩
     obtain⟨af,ae,ag⟩:=cQ pos' ij rV;exact⟨af,ae,by rw[k1 (by rintro rfl;rw[dM]at ag;cases ag) (m_ ag)];exact ag⟩
  have go:Go O O H (upd H1 h'.objs.size (.ext (CX h'.objs.size (W.kla_obj (ah3 "<lambda>") q params body scope [] ((X.mg (ah3 "__name__")).getD .none) c' gV)))):=(⟨aaZ,fun _ _=>rfl,rfl⟩:Go O O H H1).trans (Go.eJ aH);refine⟨h'.objs.size,c',_,gV,_,rfl,a8.laid (t':=tk) (fun b o e=>ahI _ e) (ahM _) ?_,go,cE.same go.same,de,(q0 aH _).at' _ _ zO⟩;exact⟨ahU _ rfl,⟨_,ahU _ rfl⟩,fun ae ag p r=>r _ p⟩
end
end aY
namespace aY
open PySem PySem.Spec aF PyProof.Rows
theorem z_:aiC "sorted"=some (.builtin "sorted"):=by decide +kernel
def xV(Z:fE)(mf:bD)(d:D):Option Z.κ.α:=match(mf [d]).run []with
 |.ok (.v x) []=>Z.un x|_=>none
def keysOf(Z:fE)(mf:bD):List D->Option (List Z.κ.α)
 |[]=>some []|d::ds=>match xV Z mf d,keysOf Z mf ds with
  |some a,some as=>some (a::as)|_,_=>none
def jx{α:Type}(blt:α->α->Bool):List α->Bool
 |[]=>true|a::r=>r.all (fun b=>blt a b||blt b a)&&jx blt r
def rM(Z:fE)(mf:bD)(x:R):M R:=match x.eH with
 |some ds=>match keysOf Z mf ds with
  |some cK=>if jx Z.κ.blt cK=true/\ds.length<64 then pure (.fr ((hi Z.κ.blt (cK.zip ds)).map (·.2)))else bad|none=>bad
 |none=>bad
@[simp] def p3(Z:fE)(mf:bD)(cT:bl)(σ:aO):M R:=do
 let x <-cT σ
 rM Z mf x
theorem Jc{Z:fE}{mf:bD}(q8:∀d a,Z.un d=some a->d=Z.dz a):∀{ds:List D}{cK:List Z.κ.α},keysOf Z mf ds=some cK->cK.length=ds.length/\∀(i:Nat)(d:D),ds[i]? = some d->∃κ,cK[i]? = some κ/\(mf [d]).run []=.ok (.v (Z.dz κ)) []
 | [],cK,h=>by cases h;exact⟨rfl,fun i d h=>by simp at h⟩
 |d::ds,cK,h=>by
  unfold keysOf at h;split at h
  ·rename_i a as ae ag
   cases h;obtain⟨l,r⟩:=Jc q8 ag;refine⟨by rw[ahX,ahX,l],fun i e he=>?_⟩
   cases i with
   |zero=>
    cases(show some d=some e from he);refine⟨a,rfl,?_⟩;unfold xV at ae;split at ae
    ·rename_i x ah
     rw[ah,q8 x a ae]
    ·cases ae
   |succ i=>
    obtain⟨κ,aq,aD⟩:=r i e (by simpa using he);exact⟨κ,by simpa using aq,aD⟩
  ·cases h
theorem zJ(Q:ajl):∀{l:List Q.α},jx Q.blt l=true->l.Nodup
 |[],_=>.nil|a::r,h=>by
  unfold jx at h;rw[aix,aiZ]at h;rw[aiR];refine⟨fun hm=>?_,zJ Q h.2⟩;have:=h.1 a hm;rw[Q.irrefl]at this;cases this
variable[aF.a6]
section
variable{X:aQ}{k:Nat}{e:Expr}{cT:bl}{Z:fE}{p pos kp:Pos}{i':Expr}{mf:bD}{G:Addr->av->Prop}
theorem Q5(j1:Z.Ok)(aS:d3 X "sorted")(hm:X.mg "sorted"=none)(aG:cB (k+2) X.A)(ao:hn X e cT)
  (dj:∀(pinZ:cP)(s:ahL)(σ:aF.St)(O:a3)(H:av),Inv X pinZ σ H s->cV O H->
   wpAny (model X.prog X.w) X.A (eval i' X.env) (fun u aM=>∃(f:Addr)(H':av)(G:av->Prop),u=.ref f/\Inv X pinZ σ H' aM/\Go O O H H'/\cV O H'/\G H'/\ny X k f G mf) X.dA s)
  (he:aie pos (ahK [e] X.env)=(false,eval e X.env)::aie pos (ahK [] X.env):=by rfl)
  (aC:ahK [e] X.env=(false,eval e X.env)::ahK [] X.env:=by rfl)
  (iK:(aie pos (ahK [e] X.env)).any (·.1)=false:=by rfl) :
  hn X (.Call (.Name "sorted" p) [e] [⟨some (ah3 "key"),i',kp⟩] pos) (p3 Z mf cT):=by
 rintro pinZ s σ H Q I ⟨O,vP,S,r,au,st,h,q⟩;obtain⟨x,S1,ae,h⟩:=M.inv h;obtain⟨ds,cK,nT,VI,T',i8,rfl,rfl⟩:∃ds cK,x.eH=some ds/\keysOf Z mf ds=some cK/\jx Z.κ.blt cK=true/\ds.length<64/\r=.fr ((hi Z.κ.blt (cK.zip ds)).map (·.2))/\S1=au:=by
  unfold rM at h;split at h
  ·rename_i ds aq
   split at h
   ·rename_i cK aD
    by_cases c:jx Z.κ.blt cK=true/\ds.length<64
    ·rw[if_pos c]at h
     cases h;exact⟨ds,cK,aq,aD,c.1,c.2,rfl,rfl⟩
    ·rw[if_neg c]at h;cases h
   ·cases h
  ·cases h
 obtain⟨hlen,rY⟩:=Jc j1.q8 VI;refine ajh (pb I aS hm z_ ?_);refine callWith_kw ?_ he iK rfl rfl;refine bR ((yE ao yF aC) pos pinZ s σ H (fun vs H1=>∃v aK,vs=[v]/\Go O aK H H1/\b_ X.K X.mg aK vP S1 σ H1/\ew X.K X.mg aK H1 x v) I ⟨O,vP,S,x,S1,st,ae,fun aK v H1 g1 aU bo nn=>⟨v,aK,rfl,g1,aU,bo⟩⟩) fun us s1 aX=>?_
 obtain⟨vs,H1,a8,bu,v,aK,ev,g1,aU,bo⟩:=aX;subst ev;obtain⟨l,ys,rfl,aj,bh⟩:=R.mY bo nT;obtain⟨u,rfl,dD⟩:=vals1 bu;cases dD;refine wpAny_evalAll_cons (ahH (bR (dj pinZ s1 σ aK H1 a8 aU.b7) fun u s2 az=>ahH (alQ (ahO ?_))));obtain⟨f,aJ,G,rfl,bM,g2,cN,A4,fs⟩:=az;refine wpAny_evalAll_nil ?_;show wpAny _ _ (call (.builtin "sorted") [.ref l] [(ah3 "key",.ref f)]) _ _ _;refine bR (ab8 j1 bM cN (bh.go g2) (g2.same.seq aj) fs A4 aG rY hlen (zJ Z.κ.toKeyOrd T') i8) fun u s3 aX=>?_
 obtain⟨a,hc,lU,eu,cG,zs,dr,g3,mJ,qh,nc,aar⟩:=aX;subst hc;refine⟨.ref a,cG,dr,rfl,q eu _ cG (g1.trans (g2.trans g3)) (aU.go (g2.trans g3) mJ) ⟨a,zs,rfl,qh,nc,aar⟩ fun b cJ=>?_⟩;cases cJ;exact(g1.trans g2).same.free lU
theorem Q6{c P:Addr}{q p1:Str}{params:akR}{body:Expr}{scope:Scope}{pd:Pos}{N:List Str}{m:bl}(j1:Z.Ok)(aS:d3 X "sorted")(hm:X.mg "sorted"=none)(aG:cB (k+3) X.A)(L:mC X.K c P q)(B:kc X.base X.mg)(mT:X.env.code=.ref c)
  (a4:X.env.qual++ah3 "<lambda>"=q) (Sc:cp N [p1] scope)
  (lR:∀(c:Addr)(pm gV u:Value),ajZ (W.kla_fn (ah3 "<lambda>") q params body scope [] pm (.ref c) gV) ⟨[u],[]⟩=pure [(p1,u)])
  (aa:∀(f c:Addr)(A:ah6)(s:ahL)(H:av),cB k (A.deeper (akw q scope s.heap.objs.size f (.ref c)))->hn (gW ej X.prog X.w X.K X.mg X.base N q scope f (.ref c) A X.stack s H i1).gr body m)
  (ao:hn X e cT) (nR:al2 params X.env=([],[]):=by rfl) (jE:akf scope X.env=pure []:=by rfl)
  (he:aie pos (ahK [e] X.env)=(false,eval e X.env)::aie pos (ahK [] X.env):=by rfl)
  (aC:ahK [e] X.env=(false,eval e X.env)::ahK [] X.env:=by rfl)
  (iK:(aie pos (ahK [e] X.env)).any (·.1)=false:=by rfl) :
  hn X (.Call (.Name "sorted" p) [e] [⟨some (ah3 "key"),.Lambda params body scope pd,kp⟩] pos) (p3 Z (fnOf 1 N.length (bE m)) cT):=
 Q5 (k:=k+1) j1 aS hm aG ao (fun pinZ s σ O H I cE=>bR (Jo I cE L B mT a4 nR jE) fun u aM ⟨f,c',pm,gV,H',hc,hL,g',d',nx⟩=>
  ⟨f,H',_,hc,hL,g',d',nx,Jp Sc (lR c' pm gV) (aa f c')⟩) he aC iK
end
theorem Bh{P:ah1}{w:World}{K:aP}{mg:bk}{base:Heap}{x:Str}{st:Stmt}{ps N:List Str}{k:Nat}{c0:a0}{n nl:Nat}{c:Addr}(cn:cn K mg x st ps)(aE:∀(f:Addr)(dw:Value)(c1:Option Addr)(cw doc pm:Value)(an:Option Addr)(bw b':Value)(fj:Array (Option Value)),mg x=some (.ref f)->K.lookup f=some ⟨dw,c1,.func (ajt x x (hV st) (fg st) (bH st) .none cw doc pm an bw b'),fj⟩->bw=.ref c)
  (Sc:cp N ps (bH st)) (aH:ps.length=n) (aj:N.length=nl)
  (aa:∀(f:Addr)(A:ah6)(outer:List Env)(s:ahL)(H:av)(E:gn),cB k (A.deeper (aiT x (bH st) s.heap.objs.size f (.ref c)))->
   pR (gW ej P w K mg base N x (bH st) f (.ref c) A outer s H E).gr (fg st) c0):b6 P w K mg base x ps (k+1) (b5 K mg (fnOf n nl c0)):=by
 obtain⟨f,fd,F,b,m⟩:=cn.ex;refine⟨f,fd,?_,b,F.kp,m⟩;obtain⟨dw,c1,cw,doc,pm,an,bw,b',fj,rfl,lk,gq⟩:=F.ex;have e:=aE f dw c1 cw doc pm an bw b' fj m lk;subst e;subst aH aj;refine AZ lk gq Sc (fun vs H Q E ⟨O,ds,r,au,cE,eK,eN,h,q⟩=>eN.len.trans (xa h)) fun A outer s H vs Q E aG hu=>⟨_,(aa f A outer s H E aG).gr,Gy hu⟩
end aY
namespace aF
open PySem PySem.Spec PyProof.Rows
def mX(r:Int->Int->Bool)(z:Nat->Nat->Bool):List Int->List Int->Bool
 |x::xs,y::ys=>if x=y then mX r z xs ys else r x y|xs,ys=>z xs.length ys.length
theorem qE(r:Int->Int->Bool)(z:Nat->Nat->Bool)(x y:Int)(xs ys:List Int):mX r z (x::xs) (y::ys)=if x=y then mX r z xs ys else r x y:=rfl
theorem Co(r:Int->Int->Bool)(z:Nat->Nat->Bool)(ys:List Int):mX r z [] ys=z 0 ys.length:=by cases ys<;>rfl
theorem Cp(r:Int->Int->Bool)(z:Nat->Nat->Bool)(xs:List Int):mX r z xs []=z xs.length 0:=by cases xs<;>rfl
abbrev lexLt:List Int->List Int->Bool:=mX (fun i j=>decide (i<j)) (fun i j=>decide (i<j))
section
open PySem.SeqAt
open PySem.AutoSeq1 (wpAny_loadPart')
open PySem.MeetsSeq PySem.MeetsSeq2 PySem.MeetsSeq3
theorem ac5(l b:Addr)(items dN:Array Value)(n dv:Nat)(dd jA:Option Addr)(cA jL:Array (Option Value))(ns ms:List Int)(ay:aiM items.toList ns)(aZ:aiM dN.toList ms) :
  Meets (alc.«tuple.__lt__» ⟨[.ref l,.ref b],[]⟩)
   (fun _ R s=>s.heap.get? l=some { cls:=.type "tuple",dict:=dd,data:=.seq items n,slots:=cA }/\s.heap.get? b=some { cls:=.type "tuple",dict:=jA,data:=.seq dN dv,slots:=jL }/\
    R (.ok (.ret (.bool (lexLt ns ms)))) s):=
 .of_wp fun prog w A R s h=>by
  obtain⟨aI,g,d,tk,os⟩:=s;obtain⟨aj,aa,h⟩:=h;have f2:=aj1;have fb:items.size=ns.length:=by rw[<-ay.length];simp
  have d2:dN.size=ms.length:=by rw[<-aZ.length];simp
  wp_walk using wpAny_loadPart' aj,wpAny_loadPart' aa,ak7 _ (fun rest b aM=>b.1=none/\aM=⟨aI,g,d,tk,os⟩/\∃(vs ws:List Value)(fQ fP:List Int),rest=vs.zip ws/\
   aiM vs fQ/\aiM ws fP/\fQ.length+dN.size=fP.length+items.size/\R (.ok (.ret (.bool (lexLt fQ fP)))) ⟨aI,g,d,tk,os⟩) _
  case turn=>
   rintro⟨y,x⟩ rest b aM ⟨iI,rfl,vs,ws,fQ,fP,hz,jI,i_,hlen,dB⟩
   cases jI with
   |nil=>rw[akq]at hz;cases hz
   |cons a t qr=>
    cases i_ with
    |nil=>rw[akS]at hz;cases hz
    |cons c u qs=>
     rw[aiY]at hz;injection hz with qt qp
     injection qt with a' ah
     subst a' ah;unfold lexLt at dB;rw[qE]at dB;simp only[ahX]at hlen;obtain⟨e,he,lT⟩:=dE.w5 A.in1 ⟨aI,g,d,tk,os⟩ a t c u;refine ahH (he prog w _ _ ?_)
     cases e with
     |true=>
      rw[if_pos (lT.mp rfl)]at dB
      wp_walk
      exact⟨rfl,rfl,_,_,_,_,qp,qr,qs,by omega,dB⟩
     |false=>
      rw[if_neg (fun q=>absurd (lT.mpr q) ahV)]at dB;have nY:∀(E:cu)(Q:cu),Q (.bool (decide (a<c))) ⟨aI,g,d,tk,os⟩->wpAny (model prog w) A.in1 (akG .Lt (.int a t) (.int c u)) Q E ⟨aI,g,d,tk,os⟩:=fun E Q h=>(amH h:wpAny (model prog w) A.in1 (ais .Lt (.int a t) (.int c u)) Q E _)
      wp_walk using nY
      exact⟨_,rfl,by simpa using dB⟩
  case fin=>
   rintro⟨bX,bY⟩ aM ⟨iI,rfl,vs,ws,fQ,fP,hz,jI,i_,hlen,dB⟩;simp only at iI;subst iI;have bz:lexLt fQ fP=decide (items.size<dN.size):=by
    cases jI with
    |nil=>
     unfold lexLt;rw[Co];simp only[aiy]at hlen;exact decide_eq_decide.mpr (by omega)
    |cons a t bz=>
     cases i_ with
     |nil=>
      unfold lexLt;rw[Cp];simp only[aiy]at hlen;exact decide_eq_decide.mpr (by omega)
     |cons c u hw=>
      rw[aiY]at hz;cases hz
   rw[bz]at dB
   wp_walk
   exact⟨_,rfl,by simpa[aju]using dB⟩
  case h=>
   exact⟨rfl,rfl,items.toList,dN.toList,ns,ms,rfl,ay,aZ,by omega,h⟩
end
theorem JJ{prog:ah1}{w:World}{A:ah6}{E:cu}{s:ahL}{l b:Addr}{items dN:Array Value}{ns ms:List Int}{Q:cu}(aj:IsTup s.heap l items)(aa:IsTup s.heap b dN)(ay:aiM items.toList ns)(aZ:aiM dN.toList ms)
  (cb:A.units<cLine) (h:Q (.bool (lexLt ns ms)) s):wpAny (model prog w) A (ais .Lt (.ref l) (.ref b)) Q E s:=by
 obtain⟨⟨cls,dd,data,cA⟩,bc,aE,n,hd⟩:=id aj;obtain⟨⟨Ak,jA,data2,jL⟩,lY,gE,dv,hd2⟩:=id aa;simp only at aE hd gE hd2;subst aE hd gE hd2;exact akn (op:=.Lt) ⟨_,bc,rfl⟩ ⟨_,lY,rfl⟩ amx ams (amf _ _) (ac5 l b items dN n dv dd jA cA jL ns ms ay aZ)
  ⟨bc,lY,show akb (lexLt ns ms)≠akC/\Q (.bool (lexLt ns ms)) s from⟨(fun x=>nomatch x),h⟩⟩ cb
theorem ahr(cb:X.A.units+64<cLine):d4 X (ais .Lt) (fun x y H Q=>∃a b ns ms,x=.ref a/\y=.ref b/\dp X.K H a (ns.map V.int)/\dp X.K H b (ms.map V.int)/\Q (.aA (lexLt ns ms)) H):=by
 intro pinZ s σ H x y v u Q I a5 bt h;obtain⟨a,b,ns,ms,rfl,rfl,ao,aa,q⟩:=h;cases a5;cases bt;obtain⟨its,bu,p1,_⟩:=I.tuple ao;obtain⟨k_,b4,du,_⟩:=I.tuple aa;exact JJ p1 du (intsAre_of bu) (intsAre_of b4) (by omega) ⟨.aA (lexLt ns ms),H,I,rfl,q⟩
abbrev gI:List Int->List Int->Bool:=mX (fun i j=>decide (j<i)) (fun i j=>decide (j<i))
section
open PySem.SeqAt
open PySem.AutoSeq1 (wpAny_loadPart')
open PySem.MeetsSeq PySem.MeetsSeq2 PySem.MeetsSeq3
theorem ac4(l b:Addr)(items dN:Array Value)(n dv:Nat)(dd jA:Option Addr)(cA jL:Array (Option Value))(ns ms:List Int)(ay:aiM items.toList ns)(aZ:aiM dN.toList ms) :
  Meets (alc.«tuple.__gt__» ⟨[.ref l,.ref b],[]⟩)
   (fun _ R s=>s.heap.get? l=some { cls:=.type "tuple",dict:=dd,data:=.seq items n,slots:=cA }/\s.heap.get? b=some { cls:=.type "tuple",dict:=jA,data:=.seq dN dv,slots:=jL }/\
    R (.ok (.ret (.bool (gI ns ms)))) s):=
 .of_wp fun prog w A R s h=>by
  obtain⟨aI,g,d,tk,os⟩:=s;obtain⟨aj,aa,h⟩:=h;have f2:=aj1;have fb:items.size=ns.length:=by rw[<-ay.length];simp
  have d2:dN.size=ms.length:=by rw[<-aZ.length];simp
  wp_walk using wpAny_loadPart' aj,wpAny_loadPart' aa,ak7 _ (fun rest b aM=>b.1=none/\aM=⟨aI,g,d,tk,os⟩/\∃(vs ws:List Value)(fQ fP:List Int),rest=vs.zip ws/\
   aiM vs fQ/\aiM ws fP/\fQ.length+dN.size=fP.length+items.size/\R (.ok (.ret (.bool (gI fQ fP)))) ⟨aI,g,d,tk,os⟩) _
  case turn=>
   rintro⟨y,x⟩ rest b aM ⟨iI,rfl,vs,ws,fQ,fP,hz,jI,i_,hlen,dB⟩
   cases jI with
   |nil=>rw[akq]at hz;cases hz
   |cons a t qr=>
    cases i_ with
    |nil=>rw[akS]at hz;cases hz
    |cons c u qs=>
     rw[aiY]at hz;injection hz with qt qp
     injection qt with a' ah
     subst a' ah;unfold gI at dB;rw[qE]at dB;simp only[ahX]at hlen;obtain⟨e,he,lT⟩:=dE.w5 A.in1 ⟨aI,g,d,tk,os⟩ a t c u;refine ahH (he prog w _ _ ?_)
     cases e with
     |true=>
      rw[if_pos (lT.mp rfl)]at dB
      wp_walk
      exact⟨rfl,rfl,_,_,_,_,qp,qr,qs,by omega,dB⟩
     |false=>
      rw[if_neg (fun q=>absurd (lT.mpr q) ahV)]at dB;have nY:∀(E:cu)(Q:cu),Q (.bool (decide (c<a))) ⟨aI,g,d,tk,os⟩->wpAny (model prog w) A.in1 (akG .Gt (.int a t) (.int c u)) Q E ⟨aI,g,d,tk,os⟩:=fun E Q h=>(amI h:wpAny (model prog w) A.in1 (ais .Gt (.int a t) (.int c u)) Q E _)
      wp_walk using nY
      exact⟨_,rfl,by simpa using dB⟩
  case fin=>
   rintro⟨bX,bY⟩ aM ⟨iI,rfl,vs,ws,fQ,fP,hz,jI,i_,hlen,dB⟩;simp only at iI;subst iI;have bz:gI fQ fP=decide (dN.size<items.size):=by
    cases jI with
    |nil=>
     unfold gI;rw[Co];simp only[aiy]at hlen;exact decide_eq_decide.mpr (by omega)
    |cons a t bz=>
     cases i_ with
     |nil=>
      unfold gI;rw[Cp];simp only[aiy]at hlen;exact decide_eq_decide.mpr (by omega)
     |cons c u hw=>
      rw[aiY]at hz;cases hz
   rw[bz]at dB
   wp_walk
   exact⟨_,rfl,by simpa[aju]using dB⟩
  case h=>
   exact⟨rfl,rfl,items.toList,dN.toList,ns,ms,rfl,ay,aZ,by omega,h⟩
end
theorem HO{prog:ah1}{w:World}{A:ah6}{E:cu}{s:ahL}{l b:Addr}{items dN:Array Value}{ns ms:List Int}{Q:cu}(aj:IsTup s.heap l items)(aa:IsTup s.heap b dN)(ay:aiM items.toList ns)(aZ:aiM dN.toList ms)
  (cb:A.units<cLine) (h:Q (.bool (gI ns ms)) s):wpAny (model prog w) A (ais .Gt (.ref l) (.ref b)) Q E s:=by
 obtain⟨⟨cls,dd,data,cA⟩,bc,aE,n,hd⟩:=id aj;obtain⟨⟨Ak,jA,data2,jL⟩,lY,gE,dv,hd2⟩:=id aa;simp only at aE hd gE hd2;subst aE hd gE hd2;exact akn (op:=.Gt) ⟨_,bc,rfl⟩ ⟨_,lY,rfl⟩ PySem.F.slot_tuple_gt PySem.F.entry_tuple_gt (PySem.F.args_tuple_gt_2 _ _) (ac4 l b items dN n dv dd jA cA jL ns ms ay aZ)
  ⟨bc,lY,show akb (gI ns ms)≠akC/\Q (.bool (gI ns ms)) s from⟨(fun x=>nomatch x),h⟩⟩ cb
theorem YX(cb:X.A.units+64<cLine):d4 X (ais .Gt) (fun x y H Q=>∃a b ns ms,x=.ref a/\y=.ref b/\dp X.K H a (ns.map V.int)/\dp X.K H b (ms.map V.int)/\Q (.aA (gI ns ms)) H):=by
 intro pinZ s σ H x y v u Q I a5 bt h;obtain⟨a,b,ns,ms,rfl,rfl,ao,aa,q⟩:=h;cases a5;cases bt;obtain⟨its,bu,p1,_⟩:=I.tuple ao;obtain⟨k_,b4,du,_⟩:=I.tuple aa;exact HO p1 du (intsAre_of bu) (intsAre_of b4) (by omega) ⟨.aA (gI ns ms),H,I,rfl,q⟩
abbrev iN:List Int->List Int->Bool:=mX (fun i j=>decide (j<=i)) (fun i j=>decide (j<=i))
section
open PySem.SeqAt
open PySem.AutoSeq1 (wpAny_loadPart')
open PySem.MeetsSeq PySem.MeetsSeq2 PySem.MeetsSeq3
theorem ac3(l b:Addr)(items dN:Array Value)(n dv:Nat)(dd jA:Option Addr)(cA jL:Array (Option Value))(ns ms:List Int)(ay:aiM items.toList ns)(aZ:aiM dN.toList ms) :
  Meets (alc.«tuple.__ge__» ⟨[.ref l,.ref b],[]⟩)
   (fun _ R s=>s.heap.get? l=some { cls:=.type "tuple",dict:=dd,data:=.seq items n,slots:=cA }/\s.heap.get? b=some { cls:=.type "tuple",dict:=jA,data:=.seq dN dv,slots:=jL }/\
    R (.ok (.ret (.bool (iN ns ms)))) s):=
 .of_wp fun prog w A R s h=>by
  obtain⟨aI,g,d,tk,os⟩:=s;obtain⟨aj,aa,h⟩:=h;have f2:=aj1;have fb:items.size=ns.length:=by rw[<-ay.length];simp
  have d2:dN.size=ms.length:=by rw[<-aZ.length];simp
  wp_walk using wpAny_loadPart' aj,wpAny_loadPart' aa,ak7 _ (fun rest b aM=>b.1=none/\aM=⟨aI,g,d,tk,os⟩/\∃(vs ws:List Value)(fQ fP:List Int),rest=vs.zip ws/\
   aiM vs fQ/\aiM ws fP/\fQ.length+dN.size=fP.length+items.size/\R (.ok (.ret (.bool (iN fQ fP)))) ⟨aI,g,d,tk,os⟩) _
  case turn=>
   rintro⟨y,x⟩ rest b aM ⟨iI,rfl,vs,ws,fQ,fP,hz,jI,i_,hlen,dB⟩
   cases jI with
   |nil=>rw[akq]at hz;cases hz
   |cons a t qr=>
    cases i_ with
    |nil=>rw[akS]at hz;cases hz
    |cons c u qs=>
     rw[aiY]at hz;injection hz with qt qp
     injection qt with a' ah
     subst a' ah;unfold iN at dB;rw[qE]at dB;simp only[ahX]at hlen;obtain⟨e,he,lT⟩:=dE.w5 A.in1 ⟨aI,g,d,tk,os⟩ a t c u;refine ahH (he prog w _ _ ?_)
     cases e with
     |true=>
      rw[if_pos (lT.mp rfl)]at dB
      wp_walk
      exact⟨rfl,rfl,_,_,_,_,qp,qr,qs,by omega,dB⟩
     |false=>
      rw[if_neg (fun q=>absurd (lT.mpr q) ahV)]at dB;have nY:∀(E:cu)(Q:cu),Q (.bool (decide (c<=a))) ⟨aI,g,d,tk,os⟩->wpAny (model prog w) A.in1 (akG .GtE (.int a t) (.int c u)) Q E ⟨aI,g,d,tk,os⟩:=fun E Q h=>(PyProof.Rows.ge_int h:wpAny (model prog w) A.in1 (ais .GtE (.int a t) (.int c u)) Q E _)
      wp_walk using nY
      exact⟨_,rfl,by simpa using dB⟩
  case fin=>
   rintro⟨bX,bY⟩ aM ⟨iI,rfl,vs,ws,fQ,fP,hz,jI,i_,hlen,dB⟩;simp only at iI;subst iI;have bz:iN fQ fP=decide (dN.size<=items.size):=by
    cases jI with
    |nil=>
     unfold iN;rw[Co];simp only[aiy]at hlen;exact decide_eq_decide.mpr (by omega)
    |cons a t bz=>
     cases i_ with
     |nil=>
      unfold iN;rw[Cp];simp only[aiy]at hlen;exact decide_eq_decide.mpr (by omega)
     |cons c u hw=>
      rw[aiY]at hz;cases hz
   rw[bz]at dB
   wp_walk
   exact⟨_,rfl,by simpa[aju]using dB⟩
  case h=>
   exact⟨rfl,rfl,items.toList,dN.toList,ns,ms,rfl,ay,aZ,by omega,h⟩
end
theorem Tv{prog:ah1}{w:World}{A:ah6}{E:cu}{s:ahL}{l b:Addr}{items dN:Array Value}{ns ms:List Int}{Q:cu}(aj:IsTup s.heap l items)(aa:IsTup s.heap b dN)(ay:aiM items.toList ns)(aZ:aiM dN.toList ms)
  (cb:A.units<cLine) (h:Q (.bool (iN ns ms)) s):wpAny (model prog w) A (ais .GtE (.ref l) (.ref b)) Q E s:=by
 obtain⟨⟨cls,dd,data,cA⟩,bc,aE,n,hd⟩:=id aj;obtain⟨⟨Ak,jA,data2,jL⟩,lY,gE,dv,hd2⟩:=id aa;simp only at aE hd gE hd2;subst aE hd gE hd2;exact akn (op:=.GtE) ⟨_,bc,rfl⟩ ⟨_,lY,rfl⟩ PySem.F.slot_tuple_ge PySem.F.entry_tuple_ge (PySem.F.args_tuple_ge_2 _ _) (ac3 l b items dN n dv dd jA cA jL ns ms ay aZ)
  ⟨bc,lY,show akb (iN ns ms)≠akC/\Q (.bool (iN ns ms)) s from⟨(fun x=>nomatch x),h⟩⟩ cb
theorem YV(cb:X.A.units+64<cLine):d4 X (ais .GtE) (fun x y H Q=>∃a b ns ms,x=.ref a/\y=.ref b/\dp X.K H a (ns.map V.int)/\dp X.K H b (ms.map V.int)/\Q (.aA (iN ns ms)) H):=by
 intro pinZ s σ H x y v u Q I a5 bt h;obtain⟨a,b,ns,ms,rfl,rfl,ao,aa,q⟩:=h;cases a5;cases bt;obtain⟨its,bu,p1,_⟩:=I.tuple ao;obtain⟨k_,b4,du,_⟩:=I.tuple aa;exact Tv p1 du (intsAre_of bu) (intsAre_of b4) (by omega) ⟨.aA (iN ns ms),H,I,rfl,q⟩
end aF
namespace aY
open PySem PySem.Spec aF
def m'(g:List Int->List Int->Bool):R->R->M R
 |.v (.tup xs),.v (.tup ys)=>match nums xs,nums ys with
  |some ns,some ms=>pure (.v (.aA (g ns ms)))|_,_=>bad
 |_,_=>bad
variable[aF.a6]
theorem EY{g:List Int->List Int->Bool}:eb K mg (fun x y H Q=>∃a b ns ms,x=.ref a/\y=.ref b/\dp K H a (ns.map V.int)/\dp K H b (ms.map V.int)/\Q (.aA (g ns ms)) H) (m' g):=fun O σ S ak H x y a5 bt bL au Q st ah a' h q=>by
 unfold m' at h;split at h
 ·rename_i xs ys
  split at h
  ·rename_i ns ms aq aD
   cases h;obtain⟨a,as,rfl,x3,bh⟩:=ah;obtain⟨b,bs,rfl,Jw,l'⟩:=a';rw[sq bh aq]at x3;rw[sq l' aD]at Jw;exact⟨a,b,ns,ms,rfl,rfl,x3,Jw,q O _ H (Go.refl _ _) st rfl trivial⟩
  ·cases h
 ·cases h
end aY
namespace aY
open PySem PySem.Spec aF PyProof.Rows
def o_(x:Str):Str:=x++ah3 ".<locals>."++ah3 "<lambda>"
def n0(K:aP)(P:Addr)(x:Str):Bool:=match W.tabIn K x with
 |some (_,pX)=>pX==P|none=>false
abbrev sO(K:aP)(ln:List Str):a6:=⟨fun P=>∃x∈ln,∃c,W.tabIn K x=some (c,P),fun P=>match ln.find? (n0 K P)with
 |some x=>o_ x| none=>""⟩
theorem aal{K:aP}{ln:List Str}{x:Str}{c P:Addr}(ah:x∈ln)(bG:W.tabIn K x=some (c,P))(inj:∀y∈ln,n0 K P y=true->y=x):(sO K ln).sE P=o_ x:=by
 show(match ln.find? (n0 K P)with | some x=>o_ x | none=>"")=_;have V_:n0 K P x=true:=by unfold n0;rw[bG];exact beq_self_eq_true P
 cases e:ln.find? (n0 K P)with
 |none=>exact absurd V_ (alH.mp e x ah)|some y=>
  dsimp only;rw[inj y (al3 e) (List.find?_some e)]
theorem q5{K:aP}{x:Str}{f c P:Addr}{dw yw:Value}{c1 CY:Option Addr}{fd:aiW}{cA vq:Array (Option Value)}{vs:Array Value}(a:ak2 K aik x=some (some (.ref f)))(l:K.lookup f=some ⟨dw,c1,.func fd,cA⟩)(aE:fd.code=.ref c)
  (d:K.lookup c=some ⟨yw,CY,.fields vs,vq⟩) (e:vs[11]? = some (.ref P)):W.tabIn K x=some (c,P):=by
 unfold W.tabIn;rw[a];simp only[l,aE,d,e]
theorem Vg{K:aP}{c P:Addr}{c1:Option Addr}{cA:Array (Option Value)}{vs:Array Value}{file:Str}{y1 cc tt:Tok}{flags text:Int}{xI:Bool}(d:K.lookup c=some ⟨.type "code",c1,.fields vs,cA⟩)(rF:vs[11]? = some (.ref P))(AP:vs.getD 11 .none=.ref P)
  (AQ:vs.getD 18 .none=.str file y1) (AR:vs.getD 7 .none=.int flags cc) (AS:vs.getD 9 .none=.bool xI) (AO:vs.getD 10 .none=.int text tt) (ne:c≠P):∀h,K.In h->W.CodeHd h c P:=fun h X=>
 ⟨_,vs,file,y1,flags,cc,xI,text,tt,X _ _ d,rfl,rfl,rF,AP,AQ,AR,AS,AO,ne⟩
theorem Rb{K:aP}{st:Stmt}{Hm:aiW}(X:K.In h)(G:h.Ns aik mg)(a:ak2 K aik x=some (some (.ref Ts)))(l:K.lookup Ts=some ⟨aho,ahq,.func Hm,ahy⟩)(aE:Hm.code=.ref c) :
  ∀(f:Addr)(dw:Value)(c1:Option Addr)(cw doc pm:Value)(an:Option Addr)(bw b':Value)(fj:Array (Option Value)),mg x=some (.ref f)->K.lookup f=some ⟨dw,c1,.func (ajt x x (hV st) (fg st) (bH st) .none cw doc pm an bw b'),fj⟩->bw=.ref c:=by
 intro f dw c1 cw doc pm an bw b' fj hm aj;have e:=alw X G a;rw[hm]at e;cases e;rw[l]at aj;cases aj;exact aE
theorem Ox{l:W.OpenLaw}{w:World}{K:aP}{mg:bk}{ep:Addr}{k:Nat}{st:Stmt}[aF.a6](Vy:mg "law"=some (.ref ep))(N4:cn K mg "law" st ["script"])
  (aa:∀(cw doc pm:Value)(an:Option Addr)(bw b' v:Value),ajZ (ajt "law" "law" (hV st) (fg st) (bH st) .none cw doc pm an bw b') ⟨[v],[]⟩=pure [(("script":Str),v)])
  (ok:∀(base:Heap),kc base mg->∀(f:Addr)(fd:aiW),kW K "law" "law" st f fd->e3 l.prog w K mg base ej k f fd ["script"] (vt K)) :
  ∃fd:aiW,(∀(s:ahL)(v:Value),BindsTo s fd ⟨[v],[]⟩ [("script",v)])/\∀base:Heap,K.In base->base.Ns aik mg->kc base mg->e3 l.prog w K mg base ej k ep fd ["script"] (vt K):=by
 obtain⟨f,fd,F,b,m⟩:=N4.ex;have e:aid ep=aid f:=aih (Vy.symm.trans m);cases e;refine⟨fd,fun s v=>?_,fun base _ _ bm=>ok base bm ep fd F⟩;obtain⟨dw,c1,cw,doc,pm,an,bw,b',fj,rfl,lk,gq⟩:=F.ex;exact .of_eq (aa cw doc pm an bw b' v)
theorem Xz{P:ah1}{w:World}{K:aP}{mg c0:bk}{k:Nat}{ep a:Addr}{fd:aiW}{df:ahL}{vs:List Value}{ns:List Int}[aF.a6]
  (dj:K.In df.heap) (xx:df.heap.Ns aik mg) (aa:df.heap.Ns alX c0) (Vb:∀x:Str,x≠"__name__"->c0 x=aiC x) (VM:df.heap.NoLimit) (aS:df.gens=#[])
  (ao:df.heap.get? a=some { cls:=.type "list",data:=.seq vs.toArray }) (ay:aiM vs ns) (aj:ns.length<=63) (aG:cB k al6)
  (Bj:kc df.heap mg) (F:∀base:Heap,K.In base->base.Ns aik mg->kc base mg->e3 P w K mg base ej k ep fd ["script"] (vt K)) (lR:∀(s:ahL)(u:Value),BindsTo s fd ⟨[u],[]⟩ [("script",u)])
  (eX:∀p,a6.tp p->df.heap.get? p=some (W.tabObj #[])/\isCodeTable df.heap p/\K.lookup p=none) :
  akv (model P w) al6 (.call (.ref ep) ⟨[.ref a],[]⟩) (fun r aM=>r=.ok (.ret (.bool true))/\OldK df.heap aM.heap/\aM.os=df.os/\alb aM.gens) df:=by
 have bI:=Nz ay;have XF:=ay.length;have Ih:ns.length<=ahQ:=by rw[ah8];omega
 have Yg:¬a6.tp a:=fun z=>by have:=(eX a z).1;rw[ao]at this;cases this
 have core:∀H:av,(∀b,H b=none\/(∃o xs,H b=some (.bW o (.lst xs)))\/(a6.tp b/\H b=some (.f5 #[])))->c3 K H a (ns.map V.int)->TabsOk H->e4 P w H df.heap->(∀b,H b≠none->b=a\/a6.tp b)->(∀b,H b≠none->K.lookup b=none)->
   akv (model P w) al6 (.call (.ref ep) ⟨[.ref a],[]⟩) (fun r aM=>r=.ok (.ret (.bool true))/\OldK df.heap aM.heap/\aM.os=df.os/\alb aM.gens) df:=by
  intro H T2 cq T6 bF rT gf;have uV:∀{b:Addr}{o:Obj}{ax:Array ale}{cI:Nat},df.heap.get? b=some o->o.data=.dict ax cI->H b=none:=fun{b o ax cI} e d=>by
   cases q:H b with
   |none=>rfl|some u=>
    rcases rT b (by rw[q];simp)with cf | cf
    ·subst cf
     rw[ao]at e;cases e;cases d
    ·rw[(eX b cf).1]at e;cases e
     cases d
  have yr:∀{b:Addr}{m:bk},df.heap.Ns b m->(nU df.heap H).Ns b m:=fun{b m} ⟨o,ax,cI,e,d,r⟩=>⟨o,ax,cI,Bt e (uV e d),d,r⟩
  have HU:K.In (nU df.heap H):=fun b o e=>Bt (dj b o e) (by
   cases q:H b with
   |none=>rfl| some u=>rw[gf b (by rw[q];simp)]at e;cases e)
  have T1:Mod K mg (nU df.heap H):=⟨HU,yr xx,⟨c0,yr aa,Vb⟩,let⟨gY,ae,ag⟩:=VM;⟨gY,yr ae,ag⟩⟩;have dU:kV P w K mg (nU df.heap H) al6 [] df H:=⟨rfl,T1,fun b o e=>YI e,ajn (VE _ _),trivial,fun b aa=>absurd (show b∈([]:List Addr)from aa) (by simp),bF,.of_eq aS⟩;have TV:kc (nU df.heap H) mg:=by
   obtain⟨bm,o,bX,bY,gB,hq,jy,tw,tx⟩:=Bj.ex;refine⟨bm,o,bX,bY,gB,Bt hq ?_,jy,tw,tx⟩
   cases q:H bm with
   |none=>rfl|some u=>
    rcases rT bm (by rw[q];simp)with cf | cf
    ·subst cf
     rw[ao]at hq;cases hq;cases tx
    ·rw[(eX bm cf).1]at hq;cases hq
     cases tx
  refine aj0 ((F _ HU (yr xx) TV).run al6 [] df H ⟨[.ref a],[]⟩ [.ref a] [.ref a] (fun v _=>v=.aA true) i1 aG dU (lR df (.ref a)) (.cons rfl .nil) ⟨a,ns,rfl,cq,aj,T6,fun _=>rfl⟩) fun r aM h=>?_
  cases r with
  |error e=>exact air h|ok a7=>
   cases a7 with
   |next=>exact air h
   |brk=>exact air h|cont=>exact air h|ret u=>
    obtain⟨v,H',os,bare,un,Il,bL,q⟩:=h;have eA:v=.aA true:=q;subst eA;obtain rfl:u=akb true:=bL;have each:∀b o,df.heap.get? b=some o->asItWas df.heap aM.heap b o/\∃o',aM.heap.get? b=some o':=fun b o e=>by
     rcases T2 b with z | ⟨bA,xs,z⟩ | ⟨t,z⟩
     ·have:=un.keep b o e z (by intro w;exact absurd (show b∈([]:List Addr)from w) (by simp)) (by simp)
      exact⟨.inl this,o,this⟩
     ·have d2:=un.nM b bA _ z
      obtain⟨aq,_⟩:=bF b _ z;obtain⟨aD,_⟩:=Il b _ d2;rw[e]at aq;cases aq;exact⟨.inl aD,_,aD⟩
     ·obtain⟨more,d2⟩:=un.oo b #[] z
      have aD:aM.heap.get? b=_:=Il b _ d2;rw[(eX b t).1]at e;cases e;exact⟨.inr (.inl ⟨(eX b t).2.1,rfl,#[],more,rfl,aD⟩),_,aD⟩
    exact⟨rfl,⟨fun b o e=>(each b o e).1,fun b o e=>(each b o e).2⟩,os,bare⟩
 classical
 have MT:∀(H:av),(∀p,a6.tp p->H p=some (.f5 #[]))->TabsOk H:=fun H h p aI=>⟨#[],h p aI,trivial,fun pos ij z=>by cases z⟩
 cases az:K.lookup a with
 |some o=>
  have e:=dj a o az;rw[ao]at e;cases e;refine core (fun b=>if a6.tp b then some (.f5 #[])else none) (fun b=>?_) (.inr ⟨_,vs.toArray,_,az,rfl,rfl,rfl,by rw[ahW,XF];exact Ih,by simpa using bI⟩) (MT _ fun p aI=>if_pos aI) (fun b u z=>?_) (fun b z=>?_) fun b z=>?_
  ·by_cases t:a6.tp b
   ·exact .inr (.inr ⟨t,if_pos t⟩)
   ·exact .inl (if_neg t)
  ·by_cases t:a6.tp b
   ·have kQ:=(if_pos t).symm.trans z
    cases kQ;exact(eX b t).1
   ·have kQ:=(if_neg t).symm.trans z
    cases kQ
  ·by_cases t:a6.tp b
   ·exact .inr t
   ·exact absurd (if_neg t) z
  ·by_cases t:a6.tp b
   ·exact(eX b t).2.2
   ·exact absurd (if_neg t) z
 |none=>
  refine core (fun b=>if b=a then some (.bW { cls:=.type "list",data:=.seq vs.toArray } (.lst (ns.map V.int)))else if a6.tp b then some (.f5 #[])else none) (fun b=>?_) (.inl (.inr ⟨{ cls:=.type "list",data:=.seq vs.toArray },if_pos rfl⟩)) (MT _ fun p aI=>?_) (fun b u z=>?_) (fun b z=>?_) fun b z=>?_
  ·by_cases aa:b=a
   ·exact .inr (.inl ⟨_,_,if_pos aa⟩)
   ·by_cases t:a6.tp b
    ·exact .inr (.inr ⟨t,by rw[if_neg aa,if_pos t]⟩)
    ·exact .inl (by rw[if_neg aa,if_neg t])
  ·rw[if_neg (by rintro rfl;exact Yg aI),if_pos aI]
  ·by_cases aa:b=a
   ·have kQ:=(if_pos aa).symm.trans z
    cases kQ;subst aa;exact⟨ao,by rw[ahJ];exact Ih,vs,_,bI,ao⟩
   ·try dsimp only at z
    rw[if_neg aa]at z
    by_cases t:a6.tp b
    ·rw[if_pos t]at z;cases z
     exact(eX b t).1
    ·rw[if_neg t]at z;cases z
  ·by_cases aa:b=a
   ·exact .inl aa
   ·try dsimp only at z
    rw[if_neg aa]at z
    by_cases t:a6.tp b
    ·exact .inr t
    ·rw[if_neg t]at z;exact absurd rfl z
  ·by_cases aa:b=a
   ·rw[aa];exact az
   ·try dsimp only at z
    rw[if_neg aa]at z
    by_cases t:a6.tp b
    ·exact(eX b t).2.2
    ·rw[if_neg t]at z;exact absurd rfl z
theorem adn{l:W.OpenLaw}{q:ah1}{k:Nat}{loose:List Str}{wd:(Str->Option Value)->Heap->Prop}{tr:World->Heap->Prop}{d:DefRec}{K:Params->aP}(ln:List Str)(aH:l.most=some 63)(Bn:d.params.defaults=[])(aG:cB k al6)
  (BA:∀x∈ln,∃d,(recsOf q).find? (fun e=>e.name==x)=some d) (VV:∀p,W.noTabs (K p)=true)
  (t8:∀(w:World)(h:Heap),tr w h->(K w.params).In h)
  (F:∀(w:World)(mg:bk)(ep:Addr)(h:Heap),(K w.params).In h->h.Ns aik mg->mg d.name=some (.ref ep)->
   ∃fd:aiW,(∀(s:ahL)(u:Value),BindsTo s fd ⟨[u],[]⟩ [("script",u)])/\∀base:Heap,(K w.params).In base->base.Ns aik mg->kc base mg->@e3 l.prog w (K w.params) mg base ej k ep fd ["script"] (@vt (sO (K w.params) ln) (K w.params))) :
  W.WalkO q loose wd tr l.row.toRowW d [] (fun f vs=>PySem.call f vs):=by
 refine Ep.OE aH Bn fun w gN df mg c0 ep o pm cd doc a vs ns G Y bc hd gq ug By hints hlen aS=>?_
 have dj:=t8 w _ Y;obtain⟨fd,aa,dk⟩:=F w mg ep _ dj G.T.g ug
 letI:=sO (K w.params) ln
 have Bj:kc df.heap mg:=by
  obtain⟨bm,bA,bX,bY,gB,hq,jy,tw⟩:=G.T.bmain;refine⟨bm,bA,bX,bY,fun q=>?_,gB,hq,jy,tw⟩;obtain⟨o,ax,cI,e,hd,_⟩:=G.T.g;rw[q,e]at gB;cases gB;rw[hd]at tw;cases tw
 refine Xz dj G.T.g G.T.b G.T.builtins G.T.nolimit aS By hints hlen aG Bj dk aa fun p aX=>?_
 obtain⟨x,ah,c,bG⟩:=aX;obtain⟨d,hd⟩:=BA x ah;obtain⟨ae,ag⟩:=W.tab_of G.T dj hd bG;refine⟨ag,(ae.tab ag).isCodeTable,?_⟩
 cases e:(K w.params).lookup p with
 |none=>rfl|some o=>
  have aD:=dj p o e;rw[ag]at aD;cases aD;have bK:=aiZ.mp (VV w.params) (p,_) (W.mem_of_lookupK e);exact absurd (show false=true from bK) ahV
theorem Cs{K:aP}{h:Heap}{mg:bk}{x:Str}{st:Stmt}{ln:List Str}{f c P:Addr}{dw yw:Value}{c1 CY:Option Addr}{fd:aiW}{cA vq:Array (Option Value)}{vs:Array Value}{file:Str}{y1 cc tt:Tok}{flags text:Int}{xI:Bool}(X:K.In h)(G:h.Ns aik mg)(ah:x∈ln)
  (a:ak2 K aik x=some (some (.ref f))) (l:K.lookup f=some ⟨dw,c1,.func fd,cA⟩) (aE:fd.code=.ref c) (d:K.lookup c=some ⟨yw,CY,.fields vs,vq⟩) (r0:yw=.type "code") (rF:vs[11]? = some (.ref P)) (AP:vs.getD 11 .none=.ref P)
  (AQ:vs.getD 18 .none=.str file y1) (AR:vs.getD 7 .none=.int flags cc) (AS:vs.getD 9 .none=.bool xI) (AO:vs.getD 10 .none=.int text tt) (ne:c≠P) (inj:∀y∈ln,n0 K P y=true->y=x) :
  ∃c P,@mC (sO K ln) K c P (o_ x)/\∀(f:Addr)(dw:Value)(c1:Option Addr)(cw doc pm:Value)(an:Option Addr)(bw b':Value)(fj:Array (Option Value)),mg x=some (.ref f)->K.lookup f=some ⟨dw,c1,.func (ajt x x (hV st) (fg st) (bH st) .none cw doc pm an bw b'),fj⟩->bw=.ref c:=by
 subst r0;have bG:=q5 a l aE d rF;exact⟨c,P,@mC.mk (sO K ln) K c P (o_ x) (Vg d rF AP AQ AR AS AO ne) ⟨x,ah,c,bG⟩ (aal ah bG inj),Rb X G a l aE⟩
end aY
namespace aY
open PySem PySem.Spec aF PyProof.Rows
variable[aF.a6]
section
variable{X:aQ}{k:Nat}{e:Expr}{cT:bl}{Z:fE}{p pos kp:Pos}
theorem NC{c P:Addr}{q p1:Str}{params:akR}{body:Expr}{scope:Scope}{pd:Pos}{N:List Str}{m:bl}(j1:Z.Ok)(aS:d3 X "sorted")(hm:X.mg "sorted"=none)(aG:cB (k+3) X.A)(L:mC X.K c P q)(B:kc X.base X.mg)(mT:X.env.code=.ref c)
  (a4:X.env.qual++ah3 "<lambda>"=q) (Sc:cp N [p1] scope)
  (lR:∀(c:Addr)(pm gV u:Value),ajZ (W.kla_fn (ah3 "<lambda>") q params body scope [] pm (.ref c) gV) ⟨[u],[]⟩=pure [(p1,u)])
  (aa:∀(f c:Addr)(A:ah6)(s:ahL)(H:av),cB k (A.deeper (akw q scope s.heap.objs.size f (.ref c)))->bb (gW ej X.prog X.w X.K X.mg X.base N q scope f (.ref c) A X.stack s H i1).gr body m)
  (ao:bb X e cT) (nR:al2 params X.env=([],[]):=by rfl) (jE:akf scope X.env=pure []:=by rfl)
  (he:aie pos (ahK [e] X.env)=(false,eval e X.env)::aie pos (ahK [] X.env):=by rfl)
  (aC:ahK [e] X.env=(false,eval e X.env)::ahK [] X.env:=by rfl)
  (iK:(aie pos (ahK [e] X.env)).any (·.1)=false:=by rfl) :
  bb X (.Call (.Name "sorted" p) [e] [⟨some (ah3 "key"),.Lambda params body scope pd,kp⟩] pos) (p3 Z (fnOf 1 N.length (bE m)) cT):=
 ⟨Q6 j1 aS hm aG L B mT a4 Sc lR (fun f c A s H aG=>(aa f c A s H aG).un) ao.un nR jE he aC iK⟩
end
end aY
namespace aY
open PySem PySem.Spec aF PyProof.Rows
structure tc(P:ah1)(w:World)(K:aP)(mg:bk)(x:Str)(ps:List (Str×Str)):Prop where
 ex:∃(a:Addr)(ax:Array ale)(n:Nat),mg x=some (.ref a)/\ajm a K=some { cls:=.type "dict",data:=.dict ax n }/\KeysOf (ak6 P w) ax/\
  ∀k fn,ps.lookup k=some fn->∃f,alB aiN ax k=some (.ref f)/\mg fn=some (.ref f)
@[simp] def Ae(ps:List (Str×Str))(mk:bl)(σ:aO):M R:=do
 let k <-mk σ
 match k with
 |.v (.str z)=>match ps.lookup z with
  |some fn=>pure (.v (.fn fn))|none=>bad
 |_=>bad
@[simp] def Aa(i:Nat)(aV:List (Str×bD))(ms:cL)(σ:aO):M R:=match σ[i]? with
 |some (.val (.fn f))=>match aV.lookup f with
  |some mf=>bJ mf ms σ|none=>bad
 |_=>bad
def acO(mg:bk)(ps:List (Str×Str))(ty:TE):TE:=fun σ H Q=>ty σ H fun y H1=>∃z fn f,y=.str z/\ps.lookup z=some fn/\mg fn=some (.ref f)/\Q (.ref f) H1
variable[aF.a6]
section
variable{X:aQ}{x:Str}{ps:List (Str×Str)}{i:Expr}{pos p:Pos}{ty:TE}{mk:bl}{j k:Nat}{e:Expr}{ax:List Expr}{ms:cL}{pp:List Str}{aV:List (Str×bD)}
omit [aF.a6]in
theorem ZL(T:tc X.prog X.w X.K X.mg x ps)(aS:d3 X x)(ay:bQ X i ty)(aC:ti i)(ey:(x==("__debug__":Str))=false:=by decide):bQ X (.Subscript (.Name x p) i pos) (acO X.mg ps ty):=by
 intro pinZ s σ H Q I h;obtain⟨a,ds,n,hm,aj,az,hf⟩:=T.ex;refine MJ alZ.lookup aC (r8 I aS hm ?_ ey);refine bR (ay pinZ s σ H _ I h) fun o6 s2 aX=>?_
 obtain⟨y,aJ,bM,bt,z,fn,f,e9,el,em,bU⟩:=aX;subst e9;obtain⟨t,rfl⟩:=bt;have ao:=bM.eZ a _ aj;obtain⟨qb,aq,aD⟩:=hf z fn el;rw[em]at aD;cases aD;refine⟨⟨_,ao,rfl⟩,?_⟩;refine wpAny_getItem_of (knd:=ak6 X.prog X.w) (k:=z) (f:=alB aiN ds) (v:=.ref f) ?_ ?_ aq ?_
 ·show(z==z)=true
  simp
 ·exact⟨_,ds,n,ao,⟨rfl,rfl,rfl⟩,rfl,az,fun _=>rfl⟩
 ·exact⟨.ref f,aJ,bM.tok _,rfl,bU⟩
omit [aF.a6]in
theorem Zr(hN:X.N[j]? = some x)(bz:p0 X.env.scope x)(aG:cB k X.A){t:fW}(ao:e5 X (e::ax) t)(ey:(x==("__debug__":Str))=false:=by decide)(gq:(x==("__classdict__":Str))=false:=by decide)
  (he:ahK (e::ax) X.env=(false,eval e X.env)::ahK ax X.env:=by rfl) (eY:(aie pos (ahK ax X.env)).any (·.1)=false:=by rfl) :
  bQ X (.Call (.Name x p) (e::ax) [] pos) (fun σ H Q=>∃(f:Addr)(fd:aiW)(sp:d9),σ[j]? = some (some (.ref f))/\e3 X.prog X.w X.K X.mg X.base ej k f fd pp sp/\Binds X.K fd pp []/\ajG X.K (.ref f)=true/\t σ H fun vs H1=>sp vs H1 Q i1):=by
 rintro pinZ s σ H Q I ⟨f,fd,sp,ev,F,b,kp,h⟩;refine ajh (bR (yG hN bz ey gq pinZ s σ H (fun v H'=>v=.ref f/\H'=H) I ⟨.ref f,ev,rfl,rfl⟩) fun u s1 aX=>?_);obtain⟨v,H1,a8,bu,aq,aD⟩:=aX;subst aq aD;obtain rfl:u=aid f:=bu;refine al9 (h₀:=X.base) I.ok.mod.r5 kp (bR (ao pos pinZ s1 σ H1 _ a8 h) fun us s2 ⟨vs,aJ,bM,r,q⟩=>⟨bM.eZ,?_⟩) he eY;exact vi (dvs:=[]) (ds:=[]) F aG b .nil sA bM r (by simpa only[ai7]using q)
theorem ND(T:tc X.prog X.w X.K X.mg x ps)(aS:d3 X x)(ay:bb X i mk)(aC:ti i:=by exact fun _ _=>rfl)(ey:(x==("__debug__":Str))=false:=by decide):bb X (.Subscript (.Name x p) i pos) (Ae ps mk):=⟨eh (ZL T aS ay.un aC ey) fun ak H Q aX=>by
 obtain⟨O,σ,S,r,au,st,h,q⟩:=aX;obtain⟨y,S1,ae,h⟩:=M.inv h;split at h
 ·rename_i z
  split at h
  ·rename_i fn el
   cases h;obtain⟨_,_,_,_,_,_,hall⟩:=T.ex;obtain⟨f,_,em⟩:=hall z fn el;refine⟨O,σ,S,_,_,st,ae,fun aK v H1 g1 aU bo nn=>?_⟩;exact⟨z,fn,f,bo,el,em,q aK _ H1 g1 aU ⟨f,rfl,em⟩ trivial⟩
  ·cases h
 ·cases h⟩
theorem adB(VA:∀f mf,aV.lookup f=some mf->b6 X.prog X.w X.K X.mg X.base f pp k (b5 X.K X.mg mf))(hN:X.N[j]? = some x)(bz:p0 X.env.scope x)(aG:cB k X.A)(ao:gm X (e::ax) ms)(ey:(x==("__debug__":Str))=false:=by decide)(gq:(x==("__classdict__":Str))=false:=by decide)
  (he:ahK (e::ax) X.env=(false,eval e X.env)::ahK ax X.env:=by rfl) (eY:(aie pos (ahK ax X.env)).any (·.1)=false:=by rfl):bb X (.Call (.Name x p) (e::ax) [] pos) (Aa j aV ms):=⟨eh (Zr (pp:=pp) hN bz aG ao.un ey gq he eY) fun ak H Q aX=>by
  obtain⟨O,σ,S,r,au,st,h,q⟩:=aX;unfold Aa at h;split at h
  ·rename_i f AF
   split at h
   ·rename_i mf el
    obtain⟨ep,fd,F,b,kp,m⟩:=(VA f mf el).ex;obtain⟨v,ev,a,rfl,em⟩:=st.loc j _ AF;have:a=ep:=by
     rw[m]at em;cases em;rfl
    subst this;have S0:ak[j]? = some (some (.ref a)):=by
     cases w:ak[j]? with
     |none=>rw[w]at ev;cases ev
     |some y=>rw[w]at ev;exact congrArg some ev
    exact⟨a,fd,_,S0,F,b,kp,Ag ak H Q ⟨O,σ,S,r,au,st,h,q⟩⟩
   ·cases h
  ·cases h⟩
end
omit [aF.a6]in
theorem lookup_all{α β:Type}[BEq α][LawfulBEq α]{P:α->β->Prop}:∀{l:List (α×β)},(∀x∈l,P x.1 x.2)->∀a b,l.lookup a=some b->P a b
 | [],_,_,_,h=>by cases h
 |(c,d)::l,aI,a,b,h=>by
  rw[aiB]at h;split at h
  ·rename_i e
   cases h;rw[eq_of_beq e];exact aI _ ah0
  ·exact lookup_all (fun x ah=>aI x (ahR _ ah)) a b h
omit [aF.a6]in
theorem Tf{P:ah1}{w:World}{K:aP}{h:Heap}{mg:bk}{x:Str}{d:Addr}{ax:Array ale}{n:Nat}{ps:List (Str×Str)}(X:K.In h)(G:h.Ns aik mg)
  (a:ak2 K aik x=some (some (.ref d))) (l:ajm d K=some { cls:=.type "dict",data:=.dict ax n }) (k:∀e∈ax.toList,∃s,aiN s e.key=true/\e.hash=hashStr w s)
  (f:∀p∈ps,∃f,ak2 K d p.1=some (some (.ref f))/\ak2 K aik p.2=some (some (.ref f))):tc P w K mg x ps:=by
 refine⟨d,ax,n,alw X G a,l,fun e he=>?_,lookup_all (P:=fun k fn=>∃f,alB aiN ax k=some (.ref f)/\mg fn=some (.ref f)) fun p aI=>?_⟩
 ·obtain⟨s,ae,ag⟩:=k e (by simpa using he)
  exact⟨s,ae,ag⟩
 ·obtain⟨f,ae,ag⟩:=f p aI
  exact⟨f,W.find_K l ae,alw X G ag⟩
omit [aF.a6]in
@[simp] theorem agQ:c8 (.fn f)=.val (.fn f):=rfl
omit [aF.a6]in
theorem so{K:aP}{P pX c:Addr}{x y:Str}(bG:W.tabIn K y=some (c,pX))(ne:pX≠P)(h:n0 K P y=true):y=x:=by
 unfold n0 at h;rw[bG]at h;exact absurd (eq_of_beq h) ne
end aY
namespace aY
open PySem PySem.W PyProof.Rows
def fU{α:Type}(n:Nat)(lt:Nat->Nat->Bool):KasT α->(α->Prop)->Prop
 |.ret a,Q=>Q a|.ask i j k,Q=>i<n/\j<n/\fU n lt (k (lt i j)) Q
theorem fU.bind{α β:Type}{n:Nat}{lt:Nat->Nat->Bool}{f:α->KasT β}{Q:β->Prop}:∀{t:KasT α},fU n lt t (fun a=>fU n lt (f a) Q)->fU n lt (t.bind f) Q
 |.ret _,h=>h|.ask _ _ k,h=>⟨h.1,h.2.1,fU.bind (t:=k _) h.2.2⟩
theorem fU.imp{α:Type}{n:Nat}{lt:Nat->Nat->Bool}{Q fF:α->Prop}(a4:∀a,Q a->fF a):∀{t:KasT α},fU n lt t Q->fU n lt t fF
 |.ret a,h=>a4 a h|.ask _ _ k,h=>⟨h.1,h.2.1,fU.imp a4 (t:=k _) h.2.2⟩
theorem fU.wp{α:Type}{n:Nat}{lt:Nat->Nat->Bool}{cmp:Nat->Nat->(Bool->ahL->Prop)->ahL->Prop}{W:ahL->Prop}(aE:∀i j C s,i<n->j<n->W s->(∀aM,W aM->C (lt i j) aM)->cmp i j C s){G:α->ahL->Prop} :
  ∀{t:KasT α}{s:ahL},W s->fU n lt t (fun a=>∀aM,W aM->G a aM)->t.kasWp cmp G s
 |.ret _,s,w,h=>h s w|.ask i j k,s,w,h=>aE i j _ s h.1 h.2.1 w fun aM eL=>fU.wp aE (t:=k _) eL h.2.2
structure Ord(n:Nat)(lt:Nat->Nat->Bool):Prop where
 kK:∀i j k,i<n->j<n->k<n->lt i j=true->lt j k=true->lt i k=true
 MU:∀i j,i<n->j<n->i≠j->lt i j=false->lt j i=true
 afo:∀i j,i<n->j<n->lt i j=true->lt j i=false
structure Row(n:Nat)(p:Array Nat):Prop where
 ll:p.size=n
 lt:∀i,i<n->p.getD i 0<n
 ap:∀i j,i<n->j<n->i≠j->p.getD i 0≠p.getD j 0
 pm:p.toList.Perm (aiz n)
theorem DA{p:Array Nat}(h:p.toList.Perm (aiz n)):Row n p:=by
 have ll:p.size=n:=by
  have:=h.length_eq;simpa using this
 have bO:∀i,i<n->p.toList[i]? = some (p.getD i 0):=fun i ay=>by
  have:i<p.size:=by omega
  simp[Array.getD,this]
 refine⟨ll,fun i ay=>?_,fun i j ay aZ ne e=>?_,h⟩
 ·exact ai4.mp (h.mem_iff.mp (aiw (bO i ay)))
 ·have eI:p.toList.Nodup:=h.nodup_iff.mpr List.nodup_range
  have aq:=bO i ay;rw[e,<-bO j aZ]at aq;exact ne ((List.getElem?_inj (by simpa using(by omega:i<p.size)) eI).mp aq)
theorem Row.Kr(h:Row n p)(e:q.Perm p):Row n q:=DA (e.toList.trans h.pm)
abbrev mw(lt:Nat->Nat->Bool)(p:Array Nat)(m:Nat):Prop:=∀i j,i<j->j<m->lt (p.getD i 0) (p.getD j 0)=true
section
variable{n:Nat}{lt:Nat->Nat->Bool}(O:Ord n lt)
include O
theorem EU{p:Array Nat}(h:Row n p)(hm:m<=n)(Ou:∀i,1<=i->i<m->lt (p.getD (i-1) 0) (p.getD i 0)=true):mw lt p m:=by
 intro i j ql
 induction j with
 |zero=>omega|succ j a9=>
  intro aZ;have a:=Ou (j+1) (by omega) aZ;rw[Nat.add_sub_cancel]at a
  by_cases q:i=j
  ·subst q;exact a
  ·exact O.kK _ _ _ (h.lt i (by omega)) (h.lt j (by omega)) (h.lt (j+1) (by omega)) (a9 (by omega) (by omega)) a
theorem flip{p:Array Nat}(h:Row n p)(ae:1<=i)(ay:i<n)(e:lt (p.getD i 0) (p.getD (i-1) 0)=false):lt (p.getD (i-1) 0) (p.getD i 0)=true:=
 O.MU _ _ (h.lt i ay) (h.lt (i-1) (by omega)) (h.ap i (i-1) ay (by omega) (by omega)) e
omit O in
theorem Bl{p:Array Nat}(h:Row n p){Q:Nat->Prop}:∀(f m:Nat),1<=m->m+f=n->(∀ee,m<=ee->ee<=n->(∀i,m<=i->i<ee->lt (p.getD i 0) (p.getD (i-1) 0)=false)->(ee=n\/ee<n/\lt (p.getD ee 0) (p.getD (ee-1) 0)=true)->Q ee)->fU n lt (kas_asc p f m) Q
 | 0,m,ae,e,q=>q m (ahM _) (by omega) (fun i _ _=>by omega) (.inl (by omega))|f+1,m,ae,e,q=>by
  refine⟨h.lt m (by omega),h.lt (m-1) (by omega),?_⟩
  cases c:lt (p.getD m 0) (p.getD (m-1) 0)with
  | true=>exact q m (ahM _) (by omega) (fun i _ _=>by omega) (.inr ⟨by omega,c⟩)|false=>
   refine Bl h f (m+1) (by omega) (by omega) fun ee a1 a2 d6 gU=>q ee (by omega) a2 (fun i bX bY=>?_) gU
   by_cases z:i=m
   ·rw[z];exact c
   ·exact d6 i (by omega) bY
theorem H_{p:Array Nat}(h:Row n p){Q:Array Nat×Nat×Nat->Prop}:∀(f m:Nat),1<=m->m+f=n->(∀ee,m<=ee->ee<=n->(∀i,m<=i->i<ee->lt (p.getD i 0) (p.getD (i-1) 0)=true)->Q (p,ee,0))->fU n lt (kas_desc f p m 0) Q
 | 0,m,ae,e,q=>q m (ahM _) (by omega) (fun i _ _=>by omega)|f+1,m,ae,e,q=>by
  refine⟨h.lt m (by omega),h.lt (m-1) (by omega),?_⟩
  cases c:lt (p.getD m 0) (p.getD (m-1) 0)with
  |true=>
   refine H_ h f (m+1) (by omega) (by omega) fun ee a1 a2 d6=>q ee (by omega) a2 fun i bX bY=>?_
   by_cases z:i=m
   ·rw[z];exact c
   ·exact d6 i (by omega) bY
  |false=>
   refine⟨h.lt (m-1) (by omega),h.lt m (by omega),?_⟩;rw[flip O h ae (by omega) c];exact q m (ahM _) (by omega) (fun i _ _=>by omega)
omit O in
theorem Ln{p:Array Nat}(h:Row n p){m:Nat}(hm:m<=n){k:Nat}(az:k<n):(kas_rev p 0 m).getD k 0=if k<m then p.getD (m-1-k) 0 else p.getD k 0:=by
 have e:=getElem?_mirror_all (xs:=p) (i:=0) (j:=m) (by rw[h.ll];exact hm) k;have bO:∀(q:Array Nat)(i:Nat),q.getD i 0=(q[i]?).getD 0:=fun q i=>by simp[alI]
 rw[bO,bO,bO];unfold kas_rev;rw[e]
 by_cases z:k<m
 ·rw[if_pos ⟨aib _,z⟩,if_pos z,akU]
 ·rw[if_neg (fun y=>z y.2),if_neg z]
theorem Vf{Q:Nat×Array Nat->Prop}(h:Row n p)(aH:1<=n)(q:∀m pC,1<=m->m<=n->Row n pC->mw lt pC m->Q (m,pC)):fU n lt (kas_count n p) Q:=by
 refine fU.bind (Bl h (n-1) 1 (ahM _) (by omega) fun m a1 a2 d6 gU=>?_);have as:mw lt p m:=EU O h a2 fun i bX bY=>flip O h bX (by omega) (d6 i bX bY)
 by_cases e:m=n
 ·rw[if_pos (by rw[e];exact beq_self_eq_true n)]
  exact q m p a1 a2 h as
 ·rw[if_neg (by intro z;exact e (eq_of_beq z))]
  by_cases aq:m > 1
  ·rw[if_pos aq]
   refine⟨h.lt 0 (by omega),h.lt (m-1) (by omega),?_⟩;rw[as 0 (m-1) (by omega) (by omega)];exact q m p a1 a2 h as
  ·rw[if_neg aq]
   have mZ:m=1:=by omega
   subst mZ;have fz:lt (p.getD 1 0) (p.getD 0 0)=true:=by
    rcases gU with z | z
    ·exact absurd z e
    ·exact z.2
   refine fU.bind (H_ O h (n-(1+1)) (1+1) (by omega) (by omega) fun m a1 a2 d6=>?_);rw[if_neg (by exact aii 0)];have aG:Row n (kas_rev p 0 m):=h.Kr (mirror_perm _ _ _ _);refine fU.bind (Bl aG (n-m) m (by omega) (by omega) fun ee bX bY gB _=>?_);refine q ee _ (by omega) bY aG (EU O aG bY fun i b2 af=>?_)
   by_cases z:i<m
   ·rw[Ln h a2 (k:=i-1) (by omega),Ln h a2 (k:=i) (by omega),if_pos (by omega),if_pos z,show m-1-(i-1)=m-1-i+1 by omega]
    by_cases y:m-1-i+1=1
    ·rw[y,show m-1-i=0 by omega];exact fz
    ·have:=d6 (m-1-i+1) (by omega) (by omega)
     rwa[Nat.add_sub_cancel]at this
   ·exact flip O aG b2 (by omega) (gB i (by omega) af)
theorem Bm{p:Array Nat}(h:Row n p){k:Nat}(az:k<n){Q:Nat->Prop}(q:∀l,l<=k->(∀i,i<l->lt (p.getD i 0) (p.getD k 0)=true)->(∀i,l<=i->i<k->lt (p.getD k 0) (p.getD i 0)=true)->Q l)(as:mw lt p k) :
  ∀(f l r:Nat),r-l<=f->l<=r->r<=k->(∀i,i<l->lt (p.getD i 0) (p.getD k 0)=true)->(∀i,r<=i->i<k->lt (p.getD k 0) (p.getD i 0)=true)->fU n lt (kas_place p k f l r) Q
 | 0,l,r,hf,ae,ag,a,b=>q l (by omega) a fun i c d=>b i (by omega) d
 |f+1,l,r,hf,ae,ag,a,b=>by
  unfold kas_place
  by_cases e:l≥r
  ·rw[if_pos e];exact q l (by omega) a fun i c d=>b i (by omega) d
  ·rw[if_neg e]
   have hm:(l+r) / 2<r:=by omega
   have aj:l<=(l+r) / 2:=by omega
   generalize(l+r) / 2=m at hm aj;refine⟨h.lt k az,h.lt m (by omega),?_⟩
   cases c:lt (p.getD k 0) (p.getD m 0)with
   |true=>
    refine Bm h az q as f l m (by omega) aj (by omega) a fun i fz cN=>?_
    by_cases z:i=m
    ·rw[z];exact c
    ·exact O.kK _ _ _ (h.lt k az) (h.lt m (by omega)) (h.lt i (by omega)) c (as m i (by omega) cN)
   |false=>
    refine Bm h az q as f (m+1) r (by omega) (by omega) ag (fun i fz=>?_) b;have c':=O.MU _ _ (h.lt k az) (h.lt m (by omega)) (h.ap k m az (by omega) (by omega)) c
    by_cases z:i=m
    ·rw[z];exact c'
    ·exact O.kK _ _ _ (h.lt i (by omega)) (h.lt m (by omega)) (h.lt k az) (as i m (by omega) (by omega)) c'
theorem H9{Q:Array Nat->Prop}(q:∀p,Row n p->mw lt p n->Q p):∀(f:Nat)(p:Array Nat)(k:Nat),Row n p->k+f=n->mw lt p k->fU n lt (kas_bin f p k) Q
 | 0,p,k,h,e,as=>q p h (by rw[<-e];exact as)|f+1,p,k,h,e,as=>by
  refine fU.bind (Bm O h (by omega) (fun l ae a b=>?_) as k 0 k (by omega) (aib _) (ahM _) (fun i z=>by omega) fun i z y=>by omega);have aG:Row n (bubble p k (k-l)):=h.Kr (bubble_perm _ _ _);have at':∀i,i<n->(bubble p k (k-l)).getD i 0=if i=l then p.getD k 0 else if l<i/\i<=k then p.getD (i-1) 0 else p.getD i 0:=fun i ay=>by
   have e:=getElem?_bubble (xs:=p) (src:=k) (by rw[h.ll];omega) (k-l) (by omega) i;have bO:∀(q:Array Nat)(i:Nat),q.getD i 0=(q[i]?).getD 0:=fun q i=>by simp[alI]
   rw[bO,bO,bO,bO,e,show k-(k-l)=l by omega]
   by_cases z:i=l
   ·rw[if_pos z,if_pos z]
   ·rw[if_neg z,if_neg z]
    by_cases y:l<i/\i<=k
    ·rw[if_pos y,if_pos y]
    ·rw[if_neg y,if_neg y]
  refine H9 q f _ (k+1) aG (by omega) fun i j ql aZ=>?_
  rw[at' i (by omega),at' j (by omega)]
  by_cases fb:i=l
  ·rw[if_pos fb,if_neg (by omega),if_pos (by omega)]
   exact b (j-1) (by omega) (by omega)
  ·rw[if_neg fb]
   by_cases d2:l<i/\i<=k
   ·rw[if_pos d2,if_neg (by omega),if_pos (by omega)]
    exact as (i-1) (j-1) (by omega) (by omega)
   ·rw[if_neg d2]
    by_cases kb:j=l
    ·rw[if_pos kb];exact a i (by omega)
    ·rw[if_neg kb]
     by_cases kR:l<j/\j<=k
     ·rw[if_pos kR]
      by_cases Ek:i=j-1
      ·exact absurd Ek (by omega)
      ·exact as i (j-1) (by omega) (by omega)
     ·rw[if_neg kR];exact as i j ql (by omega)
theorem Vh(aH:1<=n):fU n lt (kas_sort n) fun p=>Row n p/\mw lt p n:=by
 have h0:Row n (aj4 (aiz n)):=DA (by simp);refine fU.bind (Vf O h0 aH fun m p a1 a2 aG as=>?_);have qK:max m 1=m:=by omega
 show fU n lt (if m<n then kas_bin (n-max m 1) p (max m 1)else .ret p) _;rw[qK]
 by_cases e:m<n
 ·rw[if_pos e]
  exact H9 O (fun p h a=>⟨h,a⟩) _ _ _ aG (by omega) as
 ·rw[if_neg e]
  have:m=n:=by omega
  subst this;exact⟨aG,as⟩
end
section
variable{prog:ah1}{w:World}{A:ah6}{E:cu}{s:ahL}
abbrev jJ(h:Heap)(a:Addr)(vs:List Value):Heap:=((h.update a (aim fun _=>#[])).push (aiq "tuple" vs.toArray 0)).push (aiq "list" #[] 0)
theorem X7{h:Heap}(aa:b≠a)(e:h.get? b=some o):(jJ h a vs).get? b=some o:=
 ahI _ (ahI _ ((amu _ _ (aks aa)).trans e))
theorem abZ{vs:List Value}(short:vs.length<2):(arrOf (SortSt.mk' general' (vs.toArray.zip vs.toArray) #[] 7 none)).map (·.2)=aj4 ((aj4 (aiz vs.length)).toList.map fun i=>vs.getD i aiX):=by
 show(vs.toArray.zip vs.toArray).map (·.2)=_;rcases vs with _ | ⟨_,_ | ⟨_,_⟩⟩
 ·simp
 ·simp
 ·simp only[ahX]at short;omega
theorem ab7{a:Addr}{vs:List Value}{k:Nat}{zB:Fin->ahL->Prop}{lt:Nat->Nat->Bool}{κ:SortKind}(here:s.heap.get? a=some (aiq "list" vs.toArray k))(i8:vs.length<64)(O:Ord vs.length lt)
  (kind:2<=vs.length->∀Q:SortKind->ahL->Prop,Q κ { s with heap:=jJ s.heap a vs }->wpAny (model prog w) A (keyKind' vs.toArray) Q (fun _ _=>False) { s with heap:=jJ s.heap a vs })
  (ask:∀(i j:Nat)(C:Bool->ahL->Prop),i<vs.length->j<vs.length->C (lt i j) { s with heap:=jJ s.heap a vs }->kas_ask prog w A κ vs i j C { s with heap:=jJ s.heap a vs })
  (fin:∀p:Array Nat,Row vs.length p->mw lt p vs.length->zB (.done (.ret .none)) { s with heap:=sortedHeap s.heap a vs (aj4 (p.toList.map fun i=>vs.getD i aiX)) }) :
  wpAny (model prog w) A (alc.«list.sort» ⟨[.ref a],[]⟩) zB E s:=by
 have JK:=ahY here;have small:vs.toArray.size<=ahQ:=by rw[ahW,ah8];omega
 obtain⟨cI,emptied⟩:∃cI,(s.heap.update a (aim fun _=>#[])).get? a=some (aiq "list" #[] cI):=⟨_,ajP here fun _=>#[]⟩;have mid:(jJ s.heap a vs).get? a=some (aiq "list" #[] cI):=by
  unfold jJ;rw[ajU _ _ _ (by rw[al1,amd];exact ah5 (akZ JK)),ajU _ _ _ (by rw[amd];exact ah5 JK)];exact emptied
 rw[list_sort_plain];refine ahH (listItems_at here rfl (ahH (aka here rfl ?_ small (aib _))));refine ahH (aly emptied rfl (ahH (wpAny_newTuple ?_ small)));refine ahH (akF (ai3 ?_) (aib _));show wpAny (model prog w) A _ zB E { s with heap:=jJ s.heap a vs };dsimp only
 by_cases two:vs.toArray.size<2
 ·rw[if_pos two,if_pos two]
  have short:vs.length<2:=by rw[ahW]at two;exact two
  refine ahH (ahO ?_);rw[StateT.run_pure];refine ahH (ahO ?_);dsimp only;have R:Row vs.length (aj4 (aiz vs.length)):=DA (by simp);have same:=abZ short;rw[same];refine ahH (aly mid rfl (ahH (aka mid rfl ?_ (aib _) (by simp;rw[ah8];omega))));simp only[failedOf,bne_self_eq_false,akg,if_false];exact ahO (fin _ R fun i j ae ag=>by omega)
 ·rw[if_neg two,if_neg two]
  have Nl:2<=vs.length:=by rw[ahW]at two;omega
  refine ahH (aiv (kind Nl (fun Eo aM=>Eo=κ/\aM={ s with heap:=jJ s.heap a vs }) ⟨rfl,rfl⟩) (fun Eo aM ⟨aq,aD⟩=>?_) fun _ _ z=>z.elim);subst aq aD;have tree:(kas_sort vs.length).kasWp (kas_ask prog w A Eo vs) (fun p aM=>aM={ s with heap:=jJ s.heap a vs }/\Row vs.length p/\mw lt p vs.length) { s with heap:=jJ s.heap a vs }:=
   fU.wp (W:=fun aM=>aM={ s with heap:=jJ s.heap a vs }) (fun i j C aM ay aZ ws fs=>by subst ws;exact ask i j C ay aZ (fs _ rfl)) rfl ((Vh O (by omega)).imp fun p aI aM ws=>⟨ws,aI⟩)
  refine ahH (aiv (kat_run (Q:=fun st aM=>∃p:Array Nat,aM={ s with heap:=jJ s.heap a vs }/\(arrOf st).map (·.2)=aj4 (p.toList.map fun i=>vs.getD i aiX)/\failedOf st=none/\Row vs.length p/\mw lt p vs.length)
   rfl Nl i8 (fun p st aM _ aD cQ ⟨e8,mK,nJ⟩=>⟨p,e8,kat_snds rfl aD,cQ,mK,nJ⟩) tree) ?_ fun _ _ e=>e)
  rintro⟨⟨⟩,st⟩ aM ⟨p,rfl,out,ok,R,S⟩;dsimp only;rw[out];refine ahH (aly mid rfl (ahH (aka mid rfl ?_ (aib _) ?_)))
  ·rw[ok]
   simp only[bne_self_eq_false,akg,if_false];exact ahO (fin p R S)
  ·rw[ahW,ahJ,aiE,R.ll,ah8];omega
end
end aY
namespace aY
open PySem PySem.Spec aF
def f7(b:Bool)(h:Heap)(i l:Addr)(k:Nat):Prop:=match b with
 |true=>h.IsTupleIter i l k|false=>h.IsListIter i l k
def i3(b:Bool)(h:Heap)(l:Addr)(xs:Array Value):Prop:=match b with
 |true=>h.IsTuple l xs|false=>h.IsList l xs
theorem f7.extBut(x:f7 b h a l i)(aC:Heap.ExtBut c h h')(t9:a≠c):f7 b h' a l i:=by
 cases b with
 |true=>exact Heap.IsTupleIter.extBut x aC t9|false=>exact Heap.IsListIter.extBut x aC t9
theorem i3.extBut(x:i3 b h a xs)(aC:Heap.ExtBut c h h')(t9:a≠c):i3 b h' a xs:=by
 cases b with
 |true=>exact Heap.IsTuple.extBut x aC t9|false=>exact Heap.IsList.extBut x aC t9
theorem f7.obj{h:Heap}(x:f7 b h a l i):∃o vs,h.get? a=some o/\o.data=.fields vs:=by
 cases b with
 |true=>obtain⟨o,e,_,d⟩:=x;exact⟨o,_,e,d⟩
 |false=>obtain⟨o,e,_,d⟩:=x;exact⟨o,_,e,d⟩
theorem f7.at'{h h':Heap}(x:f7 b h a l i)(k:∀o,h.get? a=some o->h'.get? a=some o):f7 b h' a l i:=by
 cases b with
 |true=>obtain⟨o,e,r⟩:=x;exact⟨o,k o e,r⟩
 |false=>obtain⟨o,e,r⟩:=x;exact⟨o,k o e,r⟩
theorem i3.obj{h:Heap}(x:i3 b h a xs):∃o n,h.get? a=some o/\o.data=.seq xs n:=by
 cases b with
 |true=>obtain⟨o,e,_,n,d⟩:=x;exact⟨o,n,e,d⟩
 |false=>obtain⟨o,e,_,n,d⟩:=x;exact⟨o,n,e,d⟩
section
variable{prog:ah1}{w:World}{A:ah6}{E:cu}{s:ahL}
theorem CL{b:Bool}{it l:Addr}{i:Nat}{items:Array Value}{x:Value}{Q:cu}(hit:f7 b s.heap it l i)(aj:i3 b s.heap l items)(ah:items[i]? = some x)
  (iH:∀h',f7 b h' it l (i+1)->alh it s.heap h'->Q x { s with heap:=h' }):wpAny (model prog w) A (aiO (.ref it)) Q E s:=by
 cases b with
 |false=>exact wpAny_nextOf_list_item hit aj ah iH|true=>
  have hit:s.heap.IsTupleIter it l i:=hit;obtain⟨o,bc,aE,hd⟩:=id hit;obtain⟨ol,Bz,_,nl,uc⟩:=aj;unfold aiO;refine ahH (ajk (name:=ah3 "__next__") hit.typeIs ajR (aj2 ajR hit.typeIs alJ ?_ (alx _)));show wpAny _ _ (field (.ref it) 0 >>= _) _ _ s;refine ahH (ai9 bc hd (x:=.ref l) rfl ?_);show wpAny _ _ (if(aid l==aiX)=true then _ else _) _ _ s;rw[if_neg (show ¬((aid l==aiX)=true)from ahV)];show wpAny _ _ (field (.ref it) 1 >>= _) _ _ s;refine ahH (ai9 bc hd (x:=.int i 0) rfl ?_);show wpAny _ _ (akh (.ref l) >>= _) _ _ s;refine ahH (aiQ Bz uc ?_);simp only[alT,ah];refine ahH (wpAny_setField bc hd (by simp) (ahO ⟨x,rfl,ahO (iH _ ?_ (ai1 ..))⟩));exact⟨_,Heap.get?_update_self _ bc (Obj.isFreed_of_fields (Obj.data_mapFields hd _)),(Obj.cls_mapFields ..).trans aE,by rw[Obj.data_mapFields hd];simp[ajT]⟩
theorem Kk{b:Bool}{it l:Addr}{i:Nat}{items:Array Value}{Q:cu}(dX:A.handled=none)(hit:f7 b s.heap it l i)(aj:i3 b s.heap l items)(ah:items[i]? = none)
  (HR:∀h' e,Heap.ExtBut it s.heap h'->(∃o,h'.get? e=some o/\o.cls=.type "StopIteration")->E (.ref e) { s with heap:=h' }):wpAny (model prog w) A (aiO (.ref it)) Q E s:=by
 cases b with
 |false=>exact wpAny_nextOf_list_end dX hit aj ah HR|true=>
  have hit:s.heap.IsTupleIter it l i:=hit;obtain⟨o,bc,aE,hd⟩:=id hit;obtain⟨ol,Bz,_,nl,uc⟩:=aj;unfold aiO;refine ahH (ajk (name:=ah3 "__next__") hit.typeIs ajR (aj2 ajR hit.typeIs alJ ?_ (alx _)));show wpAny _ _ (field (.ref it) 0 >>= _) _ _ s;refine ahH (ai9 bc hd (x:=.ref l) rfl ?_);show wpAny _ _ (if(aid l==aiX)=true then _ else _) _ _ s;rw[if_neg (show ¬((aid l==aiX)=true)from ahV)];show wpAny _ _ (field (.ref it) 1 >>= _) _ _ s;refine ahH (ai9 bc hd (x:=.int i 0) rfl ?_);show wpAny _ _ (akh (.ref l) >>= _) _ _ s;refine ahH (aiQ Bz uc ?_);simp only[alT,ah];refine ahH (aln (ahH (wpAny_setField bc hd (by simp) ?_)));show wpAny _ _ (newExc (.type "StopIteration") [] >>= _) _ _ _;refine ahH ?_;simp only[newExc,newTuple];refine ahH (ajB ?_ (by size_fits));refine ahH (m:=firstArgMember _ _) (wpAny_of_eq (a:=aiX) (by first | rfl | (simp only[firstArgMember];rfl)) ?_);refine ajB ?_ (by size_fits);simp only[raiseNew];refine ahH (wpAny_handled ?_)
  first | rw[show A.in1.handled=none from dX] | rw[dX]
  refine ahH (ahO (wpAny_throw ?_));exact HR _ _ (((ai1 ..).extBut.push _).push _) ⟨_,ahU _ rfl,rfl⟩
end
section
variable{prog:ah1}{w:World}{A:ah6}{E:cu}{s:ahL}
theorem aff{bX bY:Bool}{z TI dI fh fA bP ct:Addr}{gH eF:Nat}{xs ys:Array Value}{x y a b:Value}{Q:Option Value->ahL->Prop}(D:ZipApart z TI dI fh fA bP ct)
  (hz:IsZip s.heap z TI dI .none) (ku:aj5 s.heap TI (.ref fh) (.ref fA)) (k6:aj5 s.heap dI a b)
  (ae:f7 bX s.heap fh bP gH) (ag:f7 bY s.heap fA ct eF) (k8:i3 bX s.heap bP xs) (hg:i3 bY s.heap ct ys) (ah:xs[gH]? = some x) (a':ys[eF]? = some y)
  (iH:∀h',IsZip h' z TI dI (ajT s.heap.objs.size)->aj5 h' dI x y->f7 bX h' fh bP (gH+1)->f7 bY h' fA ct (eF+1)->aj5 h' s.heap.objs.size x y->
   (∀c o,c≠z->c≠dI->c≠fh->c≠fA->s.heap.get? c=some o->h'.get? c=some o)->Q (some (.ref s.heap.objs.size)) { s with heap:=h' }) :
  wpAny (model prog w) A (akd (.ref z)) Q E s:=by
 have eX:s.TypeIs (.ref z) "zip":=⟨_,hz,rfl⟩;unfold akd;refine ahH (wpAny_attempt (ajk (name:=ah3 "__next__") eX alp (aj2 alp eX F.entry_zip_next ?_ (F.args_zip_next_1 _))));show wpAny _ _ (field (.ref z) 2 >>= _) _ _ _;refine ahH (ai9 hz rfl (x:=.bool false) rfl ?_);show wpAny _ _ (field (.ref z) 3 >>= _) _ _ _;refine ahH (ai9 hz rfl (x:=.ref TI) rfl ?_);refine ahH (aiQ ku rfl ?_);show wpAny _ _ (aji (.ref z) >>= _) _ _ _;refine ahH ?_;unfold aji;refine ahH (ai9 hz rfl (x:=.none) rfl (ahO ?_));simp only[if_true];refine ahH (aln ?_);refine ahH (ai9 hz rfl (x:=.ref dI) rfl ?_);refine ahH (ajK hz (by simp) fun kA o5 iL=>?_)
 replace o5:IsZip kA z TI dI .ellipsis:=o5
 refine ahH ?_;simp only[List.zipIdx_cons,List.zipIdx_nil,amo,List.forIn_nil];refine ahH (ahH (alR ?_));show wpAny _ _ (aiO (.ref fh) >>= _) _ _ _;refine ahH (CL (ae.extBut iL.extBut D.i1z) (k8.extBut iL.extBut D.l1z) ah fun l1 HP jG=>ahO ?_);have t7:aj5 l1 dI a b:=jG.extBut _ _ D.TOi1 (iL.extBut _ _ D.TOz k6);refine ahH (aiQ t7 rfl ?_);refine ahH (alq t7 fun nZ xm j2=>?_)
 replace xm:aj5 nZ dI x b:=xm
 refine ahH (ajo (ahO ?_));refine ahH (ahH (alR ?_));show wpAny _ _ (aiO (.ref fA) >>= _) _ _ _;refine ahH (CL (((ag.extBut iL.extBut D.i2z).extBut jG.extBut D.i12.symm).extBut j2.extBut D.TOi2.symm)
  (((hg.extBut iL.extBut D.l2z).extBut jG.extBut D.l2i1).extBut j2.extBut D.l2TO) a' fun uj TQ o3=>ahO ?_)
 have HV:aj5 uj dI x b:=o3.extBut _ _ D.TOi2 xm;refine ahH (aiQ HV rfl ?_);refine ahH (alq HV fun ir xn o4=>?_)
 replace xn:aj5 ir dI x y:=xn
 refine ahH (ajo (ahO (ahO ?_)));refine ahH (aiQ xn rfl ?_);refine ahH (wpAny_newTuple ?_);have hsz:ir.objs.size=s.heap.objs.size:=by rw[o4.1,o3.1,j2.1,jG.1,iL.1]
 have IA:IsZip ir z TI dI .ellipsis:=o4.extBut _ _ D.TOz.symm (o3.extBut _ _ D.i2z.symm (j2.extBut _ _ D.TOz.symm (jG.extBut _ _ D.i1z.symm o5)));have VK:∀c o,c≠z->c≠dI->c≠fh->c≠fA->s.heap.get? c=some o->ir.get? c=some o:=fun c o b2 af i6 tC e=>
  o4.extBut _ _ af (o3.extBut _ _ tC (j2.extBut _ _ af (jG.extBut _ _ i6 (iL.extBut _ _ b2 e))))
 have TO:f7 bX ir fh bP (gH+1):=((HP.extBut j2.extBut D.TOi1.symm).extBut o3.extBut D.i12).extBut o4.extBut D.TOi1.symm;have TR:f7 bY ir fA ct (eF+1):=TQ.extBut o4.extBut D.TOi2.symm;have Iw:z<ir.objs.size:=ahY IA;show wpAny _ _ (akV (.ref z) (.ref ir.objs.size) >>= _) _ _ _;refine ahH ?_;unfold akV;have Wb:IsZip (ir.push { cls:=.type "tuple",data:=.seq #[x,y] }) z TI dI .ellipsis:=ahI _ IA;refine ahH (ajK Wb (by simp) fun We BI Iq=>?_)
 replace BI:IsZip We z TI dI (ajT ir.objs.size):=BI
 refine ajK BI (by simp) fun xG xF Ir=>?_
 replace xF:IsZip xG z TI dI (ajT ir.objs.size):=xF
 have up:∀c o,c≠z->ir.get? c=some o->xG.get? c=some o:=fun c o b2 e=>Ir.extBut _ _ b2 (Iq.extBut _ _ b2 (ahI _ e))
 have HW:aj5 xG ir.objs.size x y:=Ir.extBut _ _ (Nat.ne_of_gt Iw) (Iq.extBut _ _ (Nat.ne_of_gt Iw) (ahU _ rfl));rw[hsz]at xF HW;refine ahO ⟨_,rfl,?_⟩;show wpAny _ _ (pure (some (aid ir.objs.size))) _ _ _;rw[hsz];exact ahO (iH xG xF (up _ _ D.TOz xn) (TO.at' fun o e=>up _ o D.i1z e) (TR.at' fun o e=>up _ o D.i2z e) HW fun c o b2 af i6 tC e=>up c o b2 (VK c o b2 af i6 tC e))
theorem afe{bX bY:Bool}{z TI dI fh fA bP ct:Addr}{gH eF:Nat}{xs ys:Array Value}{a b:Value}{Q:Option Value->ahL->Prop}(dX:A.handled=none)(D:ZipApart z TI dI fh fA bP ct)
  (hz:IsZip s.heap z TI dI .none) (ku:aj5 s.heap TI (.ref fh) (.ref fA)) (k6:aj5 s.heap dI a b)
  (ae:f7 bX s.heap fh bP gH) (ag:f7 bY s.heap fA ct eF) (k8:i3 bX s.heap bP xs) (hg:i3 bY s.heap ct ys) (Vw:xs[gH]? = none\/ys[eF]? = none)
  (iH:∀h',(∀c o,c≠z->c≠dI->c≠fh->c≠fA->s.heap.get? c=some o->h'.get? c=some o)->Q none { s with heap:=h' }):wpAny (model prog w) A (akd (.ref z)) Q E s:=by
 have eX:s.TypeIs (.ref z) "zip":=⟨_,hz,rfl⟩;have fin:∀h' e,(∀c o,c≠z->c≠dI->c≠fh->c≠fA->s.heap.get? c=some o->h'.get? c=some o)->(∃o,h'.get? e=some o/\o.cls=.type "StopIteration")->
   wpAny (model prog w) A (do
    if <-isInstance (.ref e) (.type "StopIteration")then pure none else throw (.ref e)) Q E { s with heap:=h' }:=fun h' e az aX=>by
  obtain⟨o,bc,aE⟩:=aX;refine ahH (wpAny_isInstance (T:="StopIteration") (b:=true) ⟨o,bc,aE⟩ isSubtype_stop ?_);exact ahO (iH _ az)
 unfold akd;refine ahH (wpAny_attempt (ajk (name:=ah3 "__next__") eX alp (aj2 alp eX F.entry_zip_next ?_ (F.args_zip_next_1 _))));show wpAny _ _ (field (.ref z) 2 >>= _) _ _ _;refine ahH (ai9 hz rfl (x:=.bool false) rfl ?_);show wpAny _ _ (field (.ref z) 3 >>= _) _ _ _;refine ahH (ai9 hz rfl (x:=.ref TI) rfl ?_);refine ahH (aiQ ku rfl ?_);show wpAny _ _ (aji (.ref z) >>= _) _ _ _;refine ahH ?_;unfold aji;refine ahH (ai9 hz rfl (x:=.none) rfl (ahO ?_));simp only[if_true];refine ahH (aln ?_);refine ahH (ai9 hz rfl (x:=.ref dI) rfl ?_);refine ahH (ajK hz (by simp) fun kA o5 iL=>?_)
 replace o5:IsZip kA z TI dI .ellipsis:=o5
 refine ahH ?_;simp only[List.zipIdx_cons,List.zipIdx_nil,amo,List.forIn_nil];refine ahH (ahH (alR ?_));show wpAny _ _ (aiO (.ref fh) >>= _) _ _ _
 cases ah:xs[gH]? with
 |none=>
  refine ahH (Kk dX (ae.extBut iL.extBut D.i1z) (k8.extBut iL.extBut D.l1z) ah fun l1 e jG he=>?_);obtain⟨uY,qn,ua⟩:=he;have Iy:IsZip l1 z TI dI .ellipsis:=jG _ _ D.i1z.symm o5;have Bp:e≠z:=fun x=>by subst x;rw[Iy]at qn;cases qn;simp at ua
  exact ajK Iy (by simp) fun nZ _ j2=>fin nZ e (fun c o b2 _ i6 _ x=>j2.extBut _ _ b2 (jG _ _ i6 (iL.extBut _ _ b2 x))) ⟨uY,j2.extBut _ _ Bp qn,ua⟩
 |some x=>
  have a':ys[eF]? = none:=by rcases Vw with h | h;rw[ah]at h;cases h;exact h
  refine ahH (CL (ae.extBut iL.extBut D.i1z) (k8.extBut iL.extBut D.l1z) ah fun l1 HP jG=>ahO ?_);have t7:aj5 l1 dI a b:=jG.extBut _ _ D.TOi1 (iL.extBut _ _ D.TOz k6);refine ahH (aiQ t7 rfl ?_);refine ahH (alq t7 fun nZ xm j2=>?_);refine ahH (ajo (ahO ?_));refine ahH (ahH (alR ?_));show wpAny _ _ (aiO (.ref fA) >>= _) _ _ _;refine ahH (Kk dX (((ag.extBut iL.extBut D.i2z).extBut jG.extBut D.i12.symm).extBut j2.extBut D.TOi2.symm)
   (((hg.extBut iL.extBut D.l2z).extBut jG.extBut D.l2i1).extBut j2.extBut D.l2TO) a' fun uj e o3 he=>?_)
  obtain⟨uY,qn,ua⟩:=he;have Iz:IsZip uj z TI dI .ellipsis:=o3 _ _ D.i2z.symm (j2.extBut _ _ D.TOz.symm (jG.extBut _ _ D.i1z.symm o5));have Bp:e≠z:=fun x=>by subst x;rw[Iz]at qn;cases qn;simp at ua
  exact ajK Iz (by simp) fun ir _ o4=>fin ir e (fun c o b2 af i6 tC x=>o4.extBut _ _ b2 (o3 _ _ tC (j2.extBut _ _ af (jG.extBut _ _ i6 (iL.extBut _ _ b2 x))))) ⟨uY,o4.extBut _ _ Bp qn,ua⟩
end
section
variable{X:aQ}{pinZ:cP}{σ:St}{H:av}{s:ahL}{h':Heap}
theorem Inv.y6{t':Nat}{ch:List Addr}(I:Inv X pinZ σ H s)(k:∀b o,b∉ch->s.heap.get? b=some o->h'.get? b=some o)(hf:∀b∈ch,gk X pinZ H b):Inv X pinZ σ H { s with heap:=h',toks:=t' }:=by
 have uU:∀b u,H b=some u->b∉ch:=fun b u e z=>by rw[(hf b z).1]at e;cases e
 refine I.step (g':=s.gens) (d':=s.drawn) (ch:=ch) (fun b aa=>?_) (fun b o _ _ aE e _=>k b o aE e) (fun b o _ _ aE e _=>⟨o.slots,k b o aE e⟩) (fun _ _ _ _ n=>n)
  (fun b o aE e=>⟨o,k b o aE e⟩) (fun _ _ e=>e) (fun _ _ _ e=>e) (fun b ps e=>⟨#[],by rw[e];simp⟩) (fun m hm=>?_) (fun b u e=>?_) I.bare
 ·obtain⟨_,f1,_,gC,f4,gD⟩:=hf b aa
  exact⟨gC,f1,f4,gD⟩
 ·obtain⟨o,ax,cI,bc,r⟩:=hm
  exact⟨o,ax,cI,k _ o (fun z=>(hf _ z).2.1 rfl) bc,r⟩
 ·refine(I.bF b u e).q3 (fun c v aE q=>k c v ?_ q) (fun _ q=>q) fun _ _ q=>q
  rcases aE with z | z
  ·rw[z];exact uU b u e
  ·exact uU c _ z
end
def hS(b:Bool)(K:aP)(H:av)(a:Addr)(xs:List V):Prop:=match b with
 |true=>dp K H a xs|false=>c3 K H a xs
theorem Inv.c9{s:ahL}(I:Inv X pinZ σ H s)(h:hS b X.K H a xs):∃its:List Value,Vals xs its/\i3 b s.heap a its.toArray:=by
 cases b with
 |true=>obtain⟨its,r,p,_⟩:=I.tuple h;exact⟨its,r,p⟩
 |false=>obtain⟨its,r,p,_⟩:=I.list h;exact⟨its,r,p.isList⟩
theorem Inv.MF(I:Inv X pinZ σ H s)(h:hS b X.K H a xs)(h':hS b X.K H a ys):xs=ys:=by
 cases b with
 |true=>exact I.M7 h h'|false=>exact I.Cr h h'
def EG(K:aP)(bX bY:Bool)(bP ct:Addr):hM:=
  ⟨fun i H=>(∃xs x,hS bX K H bP xs/\xs[i]? = some x)/\∃ys y,hS bY K H ct ys/\ys[i]? = some y,
   fun i H x H'=>∃u v T,x=.ref T/\H T=none/\H'=upd H T (.tup [u,v])/\(∀xs,hS bX K H bP xs->xs[i]? = some u)/\∀ys,hS bY K H ct ys->ys[i]? = some v,
   fun i H=>∃xs ys,hS bX K H bP xs/\hS bY K H ct ys/\(xs.length<=i\/ys.length<=i)⟩
theorem adb{eG:Nat}(bX bY:Bool){z TI dI fh fA bP ct:Addr}(D:ZipApart z TI dI fh fA bP ct):Turn P w K (.Tuple elts eG dq) (EG K bX bY bP ct) [z,TI,dI,fh,fA] z
  (fun i h=>IsZip h z TI dI .none/\aj5 h TI (.ref fh) (.ref fA)/\(∃a b,aj5 h dI a b)/\f7 bX h fh bP i/\f7 bY h fA ct i) where
 mem:=by simp
 obj:=fun i h st b aa=>by
  obtain⟨hz,ku,⟨x,y,k6⟩,ae,ag⟩:=st;rcases ahP.mp aa with rfl | aa
  ·exact⟨_,hz,fun v z=>by cases z⟩
  rcases ahP.mp aa with rfl | aa
  ·exact⟨_,ku,fun v z=>by cases z⟩
  rcases ahP.mp aa with rfl | aa
  ·exact⟨_,k6,fun v z=>by cases z⟩
  rcases ahP.mp aa with rfl | aa
  ·obtain⟨o,vs,e,d⟩:=ae.obj;exact⟨o,e,fun v z=>by rw[d]at z;cases z⟩
  rcases ahP.mp aa with rfl | aa
  ·obtain⟨o,vs,e,d⟩:=ag.obj;exact⟨o,e,fun v z=>by rw[d]at z;cases z⟩
  cases aa
 keep:=fun i h h' ⟨hz,ku,⟨x,y,k6⟩,ae,ag⟩ k=>⟨k z (by simp) _ hz,k TI (by simp) _ ku,⟨x,y,k dI (by simp) _ k6⟩,ae.at' fun o e=>k fh (by simp) o e,ag.at' fun o e=>k fA (by simp) o e⟩
 item:=by
  rintro X dM hw gf aE i pinZ s σ H E I hf ⟨hz,ku,⟨wg,jV,k6⟩,ae,ag⟩ ⟨⟨xs,x,a4,ah⟩,⟨ys,y,aG,a'⟩⟩;subst dM hw gf;obtain⟨its,bI,p⟩:=Inv.c9 I a4;obtain⟨IW,je,q⟩:=Inv.c9 I aG;obtain⟨u,cb,dD⟩:=bI.get ah;obtain⟨v,bz,aaB⟩:=je.get a';have Vx:∀b∈[z,dI,fh,fA],b∈[z,TI,dI,fh,fA]:=fun b aa=>by simp at aa ⊢;rcases aa with h | h | h | h<;>simp[h]
  refine aff D hz ku k6 ae ag p q (x:=u) (y:=v) (by simpa using cb) (by simpa using bz) fun h' a1 a2 d6 gU jv az=>⟨_,rfl,wpAny_letOwnedTupleGo_zip a1 fun Ba V' o2=>?_⟩
  have aH:=I.bF.fresh (ahM s.heap.objs.size);have x7:=ahY hz;have x4:=ahY k6;have qF:fh<s.heap.objs.size:=by obtain⟨_,_,e,_⟩:=ae.obj;exact ahY e
  have qG:fA<s.heap.objs.size:=by obtain⟨_,_,e,_⟩:=ag.obj;exact ahY e
  have hg:Vals [x,y] [u,v]:=.cons dD (.cons aaB .nil);have a8:Inv X pinZ σ (upd H s.heap.objs.size (.tup [x,y])) { s with heap:=s.heap.push { cls:=.type "tuple",data:=.seq #[u,v] } }:=
   I.laid (t':=s.toks) (fun b u e=>ahI _ e) (ahM _) ⟨by rw[ah8];show 2<=_;decide,[u,v],hg,⟨_,ahU _ rfl,rfl,_,rfl⟩⟩
  have bM:Inv X pinZ σ (upd H s.heap.objs.size (.tup [x,y])) { s with heap:=Ba }:=by
   refine Inv.y6 (s:={ s with heap:=s.heap.push { cls:=.type "tuple",data:=.seq #[u,v] } }) (ch:=[z,dI,fh,fA]) (t':=s.toks) a8 (fun b o aa e=>?_) fun b aa=>?_
   ·have CR:b≠z:=fun q=>aa (by simp[q])
    refine o2.extBut _ _ CR ?_;rcases Heap.get?_push_cases e with⟨rfl,rfl⟩ | e
    ·exact jv
    ·exact az b o CR (fun q=>aa (by simp[q])) (fun q=>aa (by simp[q])) (fun q=>aa (by simp[q])) e
   ·obtain⟨f0,f⟩:=hf b (Vx b aa)
    refine⟨?_,f⟩;rw[cX]
    ·exact f0
    ·rintro rfl
     simp at aa;rcases aa with h | h | h | h
     ·rw[<-h]at x7;exact aii _ x7
     ·rw[<-h]at x4;exact aii _ x4
     ·rw[<-h]at qF;exact aii _ qF
     ·rw[<-h]at qG;exact aii _ qG
  refine⟨.ref s.heap.objs.size,_,bM,rfl,⟨x,y,_,rfl,aH,rfl,fun s7 h'=>by rw[Inv.MF I h' a4];exact ah,fun aeE h'=>by rw[Inv.MF I h' aG];exact a'⟩,
   ⟨V',o2.extBut _ _ D.TIz (az _ _ D.TIz D.TITO D.TIi1 D.TIi2 ku),⟨_,_,o2.extBut _ _ D.TOz a2⟩,d6.extBut o2.extBut D.i1z,gU.extBut o2.extBut D.i2z⟩,fun b aa=>?_⟩
  rw[cX]
  ·exact(hf b aa).1
  ·rintro rfl
   have ltI:=ahY ku;simp at aa;rcases aa with h | h | h | h | h
   ·rw[<-h]at x7;exact aii _ x7
   ·rw[<-h]at ltI;exact aii _ ltI
   ·rw[<-h]at x4;exact aii _ x4
   ·rw[<-h]at qF;exact aii _ qF
   ·rw[<-h]at qG;exact aii _ qG
 done:=by
  rintro X dM hw gf aE i pinZ s σ H E I hf ⟨hz,ku,⟨wg,jV,k6⟩,ae,ag⟩ ⟨xs,ys,a4,aG,aj⟩;subst dM hw gf;obtain⟨its,bI,p⟩:=Inv.c9 I a4;obtain⟨IW,je,q⟩:=Inv.c9 I aG;have aq:=bI.length;have aD:=je.length;refine afe (I.ok.hd aE) D hz ku k6 ae ag p q ?_ fun h' az=>⟨rfl,?_⟩
  ·rcases aj with aj | aj
   ·exact .inl (by simp;omega)
   ·exact .inr (by simp;omega)
  ·refine Inv.y6 (ch:=[z,dI,fh,fA]) (t':=s.toks) I (fun b o aa e=>az b o (fun q=>aa (by simp[q])) (fun q=>aa (by simp[q])) (fun q=>aa (by simp[q])) (fun q=>aa (by simp[q])) e) fun b aa=>hf b ?_
   simp at aa ⊢;rcases aa with h | h | h | h<;>simp[h]
 self:=fun _ _ _ _ _ ⟨hz,_⟩ h=>wpAny_pyIter_zip hz h
def xM(b:Bool)(l:Addr):Obj:=match b with
 |true=>{ cls:=.type "tuple_iterator",data:=.fields #[.ref l,.int 0 0] }
 |false=>{ cls:=.type "list_iterator",data:=.fields #[.ref l,.int 0 0] }
abbrev zk(bX:Bool)(h:Heap)(bP:Addr):Heap:=h.push (xM bX bP)
abbrev zl(bX bY:Bool)(h:Heap)(bP ct:Addr):Heap:=(zk bX h bP).push (xM bY ct)
abbrev zm(bX bY:Bool)(h:Heap)(bP ct:Addr):Heap:=(zl bX bY h bP ct).push { cls:=.type "tuple",data:=.seq #[.ref h.objs.size,.ref (zk bX h bP).objs.size] }
abbrev zo(bX bY:Bool)(h:Heap)(bP ct:Addr):Heap:=(zm bX bY h bP ct).push { cls:=.type "tuple",data:=.seq #[.none,.none] }
abbrev s9(bX bY:Bool)(h:Heap)(bP ct:Addr):Heap:=(zo bX bY h bP ct).push { cls:=.type "zip",data:=.fields #[.none,.bool false,.bool false,.ref (zl bX bY h bP ct).objs.size,.ref (zm bX bY h bP ct).objs.size] }
theorem X4(bX bY:Bool)(bP ct:Addr)(xs ys:Array Value) :
  Meets (alc.«zip.__new__» ⟨[.type "zip",.ref bP,.ref ct],[]⟩) (fun _ R s=>i3 bX s.heap bP xs/\i3 bY s.heap ct ys/\
   R (.ok (.ret (.ref (zo bX bY s.heap bP ct).objs.size))) { s with heap:=s9 bX bY s.heap bP ct }):=by
 cases bX with
 |false=>
  cases bY with
  |false=>exact meets_zip_new bP ct xs ys|true=>
   refine .of_wp fun prog w A R s h=>?_
   obtain⟨aI,g,d,tk,os⟩:=s;obtain⟨k8,hg,h⟩:=h;have Ip:=sub_zip;have t5:Heap.IsList (ak4 ⟨aI,g,d,tk,os⟩) bP xs:=k8;have t6:ame (ak4 ⟨aI.push { cls:=.type "list_iterator",data:=.fields #[.ref bP,.int 0 0] },g,d,tk,os⟩) ct ys:=amR hg _
   wp_walk using ajA t5,ake t6
   exact⟨_,rfl,h⟩
 |true=>
  cases bY with
  |false=>
   refine .of_wp fun prog w A R s h=>?_
   obtain⟨aI,g,d,tk,os⟩:=s;obtain⟨k8,hg,h⟩:=h;have Ip:=sub_zip;have t5:ame (ak4 ⟨aI,g,d,tk,os⟩) bP xs:=k8;have t6:Heap.IsList (ak4 ⟨aI.push { cls:=.type "tuple_iterator",data:=.fields #[.ref bP,.int 0 0] },g,d,tk,os⟩) ct ys:=Heap.IsList.push hg _
   wp_walk using ake t5,ajA t6
   exact⟨_,rfl,h⟩
  |true=>
   refine .of_wp fun prog w A R s h=>?_
   obtain⟨aI,g,d,tk,os⟩:=s;obtain⟨k8,hg,h⟩:=h;have Ip:=sub_zip;have t5:ame (ak4 ⟨aI,g,d,tk,os⟩) bP xs:=k8;have t6:ame (ak4 ⟨aI.push { cls:=.type "tuple_iterator",data:=.fields #[.ref bP,.int 0 0] },g,d,tk,os⟩) ct ys:=amR hg _
   wp_walk using ake t5,ake t6
   exact⟨_,rfl,h⟩
theorem f7.new{h:Heap}(e:h.get? a=some (xM b l)):f7 b h a l 0:=by
 cases b with
 |true=>exact⟨_,e,rfl,rfl⟩|false=>exact⟨_,e,rfl,rfl⟩
section
variable{prog:ah1}{w:World}{A:ah6}{E:cu}{s:ahL}
theorem QY{bX bY:Bool}{bP ct:Addr}{xs ys:Array Value}{Q:cu}(k8:i3 bX s.heap bP xs)(hg:i3 bY s.heap ct ys)
  (h:∀h',IsZip h' (s.heap.objs.size+4) (s.heap.objs.size+2) (s.heap.objs.size+3) .none->aj5 h' (s.heap.objs.size+2) (.ref s.heap.objs.size) (.ref (s.heap.objs.size+1))->
   aj5 h' (s.heap.objs.size+3) .none .none->f7 bX h' s.heap.objs.size bP 0->f7 bY h' (s.heap.objs.size+1) ct 0->
   (∀c o,s.heap.get? c=some o->h'.get? c=some o)->Q (.ref (s.heap.objs.size+4)) { s with heap:=h' }) :
  wpAny (model prog w) A (call (.type "zip") [.ref bP,.ref ct]) Q E s:=by
 refine callType_new F.called_zip (by decide) (F.typeCall_zip_2 _ _) (F.newCall_zip_2 _ _) (fun obj=>F.args_object_init_3 obj _ _) F.entry_zip_new (X4 bX bY bP ct xs ys) ⟨k8,hg,?_⟩;have fb:(zk bX s.heap bP).objs.size=s.heap.objs.size+1:=ajY ..;have d2:(zl bX bY s.heap bP ct).objs.size=s.heap.objs.size+2:=by rw[ajY,fb]
 have kb:(zm bX bY s.heap bP ct).objs.size=s.heap.objs.size+3:=by rw[ajY,d2]
 have kR:(zo bX bY s.heap bP ct).objs.size=s.heap.objs.size+4:=by rw[ajY,kb]
 have f1:∀b l,(xM b l).isFreed=false:=fun b l=>by cases b<;>rfl
 have A3:(s9 bX bY s.heap bP ct).get? (zo bX bY s.heap bP ct).objs.size=some _:=ahU _ rfl;have mO:(s9 bX bY s.heap bP ct).get? (zm bX bY s.heap bP ct).objs.size=some _:=ahI _ (ahU _ rfl);have g3:(s9 bX bY s.heap bP ct).get? (zl bX bY s.heap bP ct).objs.size=some _:=ahI _ (ahI _ (ahU _ rfl));have g2:(s9 bX bY s.heap bP ct).get? (zk bX s.heap bP).objs.size=some _:=ahI _ (ahI _ (ahI _ (ahU _ (f1 _ _))));have g1:(s9 bX bY s.heap bP ct).get? s.heap.objs.size=some _:=ahI _ (ahI _ (ahI _ (ahI _ (ahU _ (f1 _ _)))));show _/\_;rw[d2,kb,kR]at A3;rw[fb,d2]at g3;rw[kb]at mO;rw[fb]at g2;rw[kR];exact⟨⟨_,A3,rfl⟩,h _ A3 g3 mO (.new g1) (.new g2) fun c o x=>
  ahI _ (ahI _ (ahI _ (ahI _ (ahI _ x))))⟩
end
def xH(K:aP)(b0:fW):TI:=fun σ H R=>b0 σ H fun vs H1=>∃bX bY bP ct,vs=[.ref bP,.ref ct]/\(∃xs,hS bX K H1 bP xs)/\(∃ys,hS bY K H1 ct ys)/\R (EG K bX bY bP ct) H1
theorem KW{X:aQ}{elts:List Expr}{eG:Nat}{dq:Pos}{p pos:Pos}(aS:d3 X "zip")(hm:X.mg "zip"=none)(ao:e5 X [a,b] b0)(aC:ahK [a,b] X.env=[(false,eval a X.env),(false,eval b X.env)]:=by rfl)(kz:ahK [b] X.env=[(false,eval b X.env)]:=by rfl) :
  jU X (.Tuple elts eG dq) (.Call (.Name "zip" p) [a,b] [] pos) (xH X.K b0):=by
 intro pinZ s σ H R I h;refine amP (pb I aS hm PyProof.Rows.boot_zip (ajI (bR (ao pos pinZ s σ H _ I h) fun us s1 ⟨vs,H1,a8,bu,ba⟩=>?_) (by rw[aC,kz]) (by rw[kz];rfl)));obtain⟨bX,bY,bP,ct,e,⟨xs,ah⟩,⟨ys,a'⟩,q⟩:=ba;subst e
 cases bu with
 |cons r bo=>
  cases bo with
  |cons bL bo=>
   cases bo;cases r;cases bL;obtain⟨its,bI,p1⟩:=Inv.c9 a8 ah;obtain⟨IW,je,du⟩:=Inv.c9 a8 a';have qF:bP<s1.heap.objs.size:=by obtain⟨_,_,e,_⟩:=p1.obj;exact ahY e
   have qG:ct<s1.heap.objs.size:=by obtain⟨_,_,e,_⟩:=du.obj;exact ahY e
   refine QY p1 du fun h' a1 a2 d6 gU jv az=>?_
   refine wpAny_pyIter_zip (s:={ s1 with heap:=h' }) a1 ?_;have D:ZipApart (s1.heap.objs.size+4) (s1.heap.objs.size+2) (s1.heap.objs.size+3) s1.heap.objs.size (s1.heap.objs.size+1) bP ct:=by
    have up:∀{l:Addr}(k:Nat),l<s1.heap.objs.size->l≠s1.heap.objs.size+k:=fun k h=>ah5 (aio h (aj6 _ _))
    have qD:bP≠s1.heap.objs.size:=ah5 qF;have Jk:ct≠s1.heap.objs.size:=ah5 qG;have lq:=fun k=>up k qF
    have hH:=fun k=>up k qG
    generalize s1.heap.objs.size=n at qD Jk lq hH ⊢;constructor<;>first | exact lq 4 | exact lq 3 | exact qD | exact lq 1 | exact hH 4 | exact hH 3 | exact Jk | exact hH 1 | (show(_:Nat)≠_;omega)
   refine⟨s1.heap.objs.size+4,[s1.heap.objs.size+4,s1.heap.objs.size+2,s1.heap.objs.size+3,s1.heap.objs.size,s1.heap.objs.size+1],_,_,H1,rfl,a8.kept (t':=s1.toks) az,adb bX bY D,⟨a1,a2,⟨_,_,d6⟩,gU,jv⟩,fun c aE=>?_,q⟩;have le:s1.heap.objs.size<=c:=by
    simp at aE;rcases aE with rfl | rfl | rfl | rfl | rfl
    ·exact aj6 _ _
    ·exact aj6 _ _
    ·exact aj6 _ _
    ·exact ahM _
    ·exact aj6 _ _
   exact a8.nK le (a8.bF.fresh le)
end aY
namespace aY
open PySem PySem.Spec aF
variable[aF.a6]
def R.walk:R->Option (List D)
 |.v (.tup xs)=>some xs|.v (.lst xs)=>some xs|.fr xs=>some xs|.b1 xs=>some xs|_=>none
def iY(xs ys:List D):List D:=(xs.zip ys).map fun p=>.tup [p.1,p.2]
def mE(b:Bool)(K:aP)(O:a3)(H:av)(a:Addr)(ys:List V):Prop:=match b with
 |true=>dp K H a ys|false=>hO K O H a ys
theorem mE.c9{O:a3}(h:mE b K O H a ys):hS b K H a ys:=by
 cases b with
 |true=>exact h|false=>exact hO.c9 h
theorem mE.aB{O ai:a3}(g:dP O ai H H')(h:mE b K O H a ys):mE b K ai H' a ys:=by
 cases b with
 |true=>exact g.vu h|false=>exact g.JH h
theorem y9{O:a3}{r:R}{v:V}(h:ew K mg O H r v)(n:jr H₀ r v)(e:r.walk=some xs):∃b a ys,v=.ref a/\mE b K (bW H₀ O) H a ys/\a_ K mg (bW H₀ O) H xs ys:=by
 unfold R.walk at e;split at e
 ·cases e;obtain⟨a,ys,q,l,r⟩:=h;exact⟨true,a,ys,q,l,r.da (il _ _)⟩
 ·cases e
  obtain⟨a,ys,q,l,r⟩:=h;exact⟨false,a,ys,q,.inl ⟨.inl l.1,.inl ((il H₀ O).fr a l.2)⟩,r.da (il _ _)⟩
 ·cases e
  obtain⟨a,ys,rfl,l,t,r⟩:=h;exact⟨false,a,ys,rfl,.inl ⟨.inl l,.inl (rP (n a rfl) t)⟩,r.da (il _ _)⟩
 ·cases e
  obtain⟨a,ys,q,l,r⟩:=h;refine⟨false,a,ys,q,?_,r.da (il _ _)⟩;rcases l with⟨l,f⟩ | l
  ·refine .inl ⟨l,?_⟩
   rcases f with f | f
   ·exact .inl ((il H₀ O).fr a f)
   ·exact .inr (by rw[qe (by rw[f];intro z;cases z)];exact f)
  ·exact .inr l
 ·cases e
def lp(is:List Nat)(b:a0):D->a0:=fun d σ=>match d with
 |.tup ax=>if ax.length=is.length then b (ix is ax σ)else bad|_=>bad
def s8:List R->Option (List D)
 |[x,y]=>match x.walk,y.walk with
  |some xs,some ys=>some (iY xs ys)|_,_=>none
 |_=>none
@[simp] def rB(is:List Nat)(ms:cL)(b:a0)(σ:aO):M fm:=do
 let rs <-ms σ
 match s8 rs with
 |some ds=>gc (lp is b) ds σ|none=>bad
theorem afd(h:s8 rs=some ds):∃x y xs ys,rs=[x,y]/\x.walk=some xs/\y.walk=some ys/\ds=iY xs ys:=by
 unfold s8 at h;split at h
 ·rename_i x y
  split at h
  ·rename_i xs ys aq aD
   cases h;exact⟨x,y,xs,ys,rfl,aq,aD,rfl⟩
  ·cases h
 ·cases h
theorem Em{xs ys:List D}{k:Nat}{d:D}{ds:List D}(e:(iY xs ys).drop k=d::ds):∃x y,xs[k]? = some x/\ys[k]? = some y/\d=.tup [x,y]/\(iY xs ys).drop (k+1)=ds:=by
 have aq:(iY xs ys)[k]? = some d:=by
  have:=congrArg (·[0]?) e;simpa using this
 unfold iY at aq;rw[aia]at aq
 cases lM:(xs.zip ys)[k]? with
 |none=>rw[lM]at aq;cases aq
 |some p=>
  rw[lM]at aq;cases aq;obtain⟨a,b⟩:=akN.mp lM;refine⟨p.1,p.2,a,b,rfl,?_⟩;have:=congrArg (alE 1) e;simpa[aky]using this
theorem afb{xs ys:List D}{k:Nat}(e:(iY xs ys).drop k=[]):xs.length<=k\/ys.length<=k:=by
 have:=congrArg ai8 e;unfold iY at this;simp only[aiA,ahJ,alo,aiy]at this;omega
theorem Tj{is:List Nat}:∀D ak H,jj K mg (rB is ms b) D ak H->pH (xH K (mh K mg ms)) (oW K is.length (ht is)) (jj K mg b) D ak H:=by
 rintro D ak H ⟨O,σ,S,a7,au,st,h,q⟩;obtain⟨rs,S1,ae,h⟩:=M.inv h
 cases lM:s8 rs with
 |none=>rw[lM]at h;cases h
 |some ds=>
  ·rw[lM]at h
   obtain⟨x,y,xs,ys,rfl,ex,e9,rfl⟩:=afd lM;refine⟨O,σ,S,_,S1,st,ae,fun aK vs H1 g1 aU bo nn=>?_⟩;obtain⟨v1,bu,rfl,a5,v2,b4,rfl,bt,re⟩:=bo;cases re;obtain⟨bX,bP,us,rfl,s1,a1⟩:=y9 (H₀:=H) a5 nn.1 ex;obtain⟨bY,ct,ws,rfl,s2,a2⟩:=y9 (H₀:=H) bt nn.2.1 e9;have oj:=aU.bW H;refine⟨bX,bY,bP,ct,rfl,⟨us,s1.c9⟩,⟨ws,s2.c9⟩,?_⟩;refine⟨fun k m cD H'=>m=(iY xs ys).length-k/\∃ai σ' fI,b_ K mg ai σ' fI cD H'/\dP (bW H aK) ai H1 H'/\ek σ σ' ak cD/\(gc (lp is b) ((iY xs ys).drop k) σ').run fI=.ok a7 au,⟨_,rfl,_,σ,S1,oj,dP.refl _ _,ek.refl _ _,h⟩,?_⟩;rintro k m cD H' ⟨rfl,ai,σ',fI,b3,g',kp,h⟩;have qW:=mE.aB g' s1;have DH:=mE.aB g' s2
   cases e:(iY xs ys).drop k with
   |nil=>
    rw[e]at h;cases h;refine .inl ⟨⟨us,ws,qW.c9,DH.c9,?_⟩,q ai cD H' (g1.bW.aB.trans g') b3 kp⟩;rw[a1.len,a2.len];exact afb e
   |cons d lK=>
    obtain⟨bV,Hb,aq,aD,rfl,cf⟩:=Em e;obtain⟨u,hc,dD⟩:=(a_.aB g' a1).get aq;obtain⟨v,ev,bI⟩:=(a_.aB g' a2).get aD;have e_:k<(iY xs ys).length:=by
     have:=congrArg ai8 e;rw[aiA,ahX]at this;omega
    rw[e]at h;obtain⟨f1,bj,ag,h⟩:=M.inv h;unfold lp at ag;dsimp only at ag
    by_cases c:[bV,Hb].length=is.length
    ·rw[if_pos c]at ag
     refine .inr ⟨⟨⟨us,u,qW.c9,hc⟩,⟨ws,v,DH.c9,ev⟩⟩,fun fl aJ=>∃bf c6 bj,b_ K mg bf c6 bj fl aJ/\dP (bW H aK) bf H1 aJ/\ek σ c6 ak fl/\(gc (lp is b) ((iY xs ys).drop (k+1)) c6).run bj=.ok a7 au,?_,fun x aJ ib=>?_⟩
     ·rintro fl aJ ⟨bf,c6,bj,fb,d2,kb,kR⟩
      exact⟨_,by omega,rfl,bf,c6,bj,fb,d2,kb,kR⟩
     ·obtain⟨u',e2,T,rfl,eX,rfl,r1,jH⟩:=ib
      have vc:=r1 us qW.c9;rw[hc]at vc;cases vc;have l_:=jH ws DH.c9;rw[ev]at l_;cases l_;have fM:Go ai ai H' (upd H' T (.tup [u,v])):=Go.eJ eX;refine⟨T,[u,v],rfl,dp.of de,by rw[<-c];rfl,vD (ds:=[bV,Hb]) (b3.eJ eX) ⟨u,[v],rfl,dD.go fM,v,[],rfl,bI.go fM,rfl⟩ c fun jm jN br=>?_⟩;refine⟨ai,_,fI,f1,bj,jN,ag,?_⟩
      cases f1 with
      | bq c6=>exact fun bf fl aJ g2 cv eF=>⟨bf,c6,bj,cv,g'.trans (fM.aB.trans g2),kp.trans (br.trans eF),by rw[cf];exact h⟩
      | b' c6=>exact fun bf fl aJ g2 cv eF=>⟨bf,c6,bj,cv,g'.trans (fM.aB.trans g2),kp.trans (br.trans eF),by rw[cf];exact h⟩
      |eP c6=>cases h;exact fun bf fl aJ g2 cv eF=>q bf fl aJ (g1.bW.aB.trans (g'.trans (fM.aB.trans g2))) cv (kp.trans (br.trans eF))
      |cS r=>cases h;exact fun bf v aJ g2 cN aD b4=>q bf v aJ (g1.bW.aB.trans (g'.trans (fM.aB.trans g2))) cN aD b4
    ·rw[if_neg c]at ag;cases ag
theorem Rj{X:aQ}{pos dq:Pos}{is:List Nat}{ax:List Expr}{k:Nat}{p cM:Pos}{a eU:Expr}{ms:cL}{body:List Stmt}{b:a0}(aI:akA (model X.prog X.w) X.A X.env X.dA)(aE:X.calm=true)(kx:d3 X "zip")(hm:X.mg "zip"=none)(ao:vR X [a,eU] ms)(aS:jT X ax (ht is))(aa:pR X body b)
  (aH:(ah4 ax X.env).length=is.length:=by rfl) (eE:(ah4 ax X.env).findIdx? (·.1)=none:=by rfl)
  (aC:∀x,aip (.Call (.Name "zip" p) [a,eU] [] cM) X.env x=pure x:=by intro _;rfl) (ky:ahK [a,eU] X.env=[(false,eval a X.env),(false,eval eU X.env)]:=by rfl) (kz:ahK [eU] X.env=[(false,eval eU X.env)]:=by rfl) :
  zt X (.For (.Tuple ax k dq) (.Call (.Name "zip" p) [a,eU] [] cM) body [] pos) (rB is ms b):=
 gh (sD aI aE (KW kx hm ao ky kz) (qT aE aS aH eE) aa aC) Tj
section
variable{X:aQ}
abbrev r3:List String:=["int","bool","tuple","list","str"]
def Lb(K:aP):List V->av->cZ->Prop:=fun xs H Q=>∃x a fu dv t,xs=[x,.ref a]/\dp K H a [.ty fu,.ty dv]/\lB K H x t/\fu∈r3/\dv∈r3/\Q (.aA (iM t fu||iM t dv)) H
omit [aF.a6]in
theorem QS(kt:tf X.K):iZ X (.builtin "isinstance") (Lb X.K):=by
 intro pinZ s σ H xs us Q I bI h;obtain⟨x,a,fu,dv,t,rfl,c9,ty,VS,rZ,q⟩:=h;obtain⟨u,eL,rfl,bu,b4⟩:=vals2 bI;cases(show eL=aid a from b4);obtain⟨its,DB,⟨o,bc,aE,n,hd⟩,_⟩:=I.tuple c9;obtain⟨lq,hH,rfl,ba,bU⟩:=vals2 DB;cases(show lq=akW fu from ba);cases(show hH=akW dv from bU);obtain⟨dw,c1,ahp,fj⟩:=o;cases aE;cases hd;have e:W.kitAny X.K (.type t) [.type fu,.type dv]=some (iM t fu||iM t dv):=by
  have aq:W.kitOne X.K (.type t) (.type fu)=some (iM t fu):=kt.ff t ty.mem fu VS;have aD:W.kitOne X.K (.type t) (.type dv)=some (iM t dv):=kt.ff t ty.mem dv rZ;unfold W.kitAny;rw[aq]
  cases iM t fu with
  |true=>rfl|false=>
   show W.kitAny X.K (.type t) [.type dv]=_;unfold W.kitAny;rw[aD];cases iM t dv<;>rfl
 have fin:∀tk,g7 X pinZ σ Q (.bool (iM t fu||iM t dv)) { s with toks:=tk }:=fun tk=>⟨.aA _,H,I.tok tk,rfl,q⟩
 cases ty with
 |aW=>cases(show u=aiX from bu);exact alK W.kitx_none I.eZ aja bc e (fun z=>nomatch z) fin
 |aA y=>cases(show u=akb y from bu);exact alK W.kitx_bool I.eZ aja bc e (fun z=>nomatch z) fin
 |int i=>obtain⟨t,q⟩:=(show ∃t,u=ala i t from bu);cases q;exact alK W.kitx_int I.eZ aja bc e (fun z=>nomatch z) fin
 |str y=>obtain⟨t,q⟩:=(show ∃t,u=alz y t from bu);cases q;exact alK W.kitx_str I.eZ aja bc e (fun z=>nomatch z) fin
 |@lst a xs gb=>
  cases(show u=aid a from bu);obtain⟨its,_,⟨o,e0,ae,ag,_⟩,_⟩:=I.list gb;exact alK W.kitx_list I.eZ ⟨o,ae,ag⟩ bc e (fun z=>nomatch z) fin
 |@tup a xs gb=>
  cases(show u=aid a from bu);obtain⟨its,_,⟨o,ae,ag,_⟩,_⟩:=I.tuple gb;exact alK W.kitx_tuple I.eZ ⟨o,ae,ag⟩ bc e (fun z=>nomatch z) fin
end
def tP:List R->M R
 |[x,.v (.tup [.ty fu,.ty dv])]=>match x.kind with
  |some t=>if fu∈r3/\dv∈r3 then pure (.v (.aA (iM t fu||iM t dv)))else bad|none=>bad
 |_=>bad
theorem WS:jo K mg (Lb K) tP:=fun O σ S ak H vs rs bL au Q st aG h q=>by
 unfold tP at h;split at h
 ·rename_i x fu dv
  obtain⟨v,u,rfl,ah,a'⟩:=Dx aG;obtain⟨a,ys,rfl,c9,zh,bu,rfl,aq,zi,b4,rfl,aD,cQ⟩:=a';cases cQ;cases(show zh=.ty fu from aq);cases(show zi=.ty dv from aD);split at h
  ·rename_i t e
   by_cases aH:fu∈r3/\dv∈r3
   ·rw[if_pos aH]at h
    cases h;exact⟨v,a,fu,dv,t,rfl,c9,R.Je ah e,aH.1,aH.2,q O _ H (Go.refl _ _) st rfl trivial⟩
   ·rw[if_neg aH]at h;cases h
  ·cases h
 ·cases h
end aY
namespace aY
open PySem PySem.Spec aF PyProof.Rows
variable[aF.a6]
def qz(t:aO->M Bool)(el:bl)(σ:aO):List (D×D)->M (List D)
 |[]=>pure []|d::ds=>do
  let b <-t ((σ.set 0 (.val d.1)).set 1 (.val d.2))
  if b=true then do
   let r <-el ((σ.set 0 (.val d.1)).set 1 (.val d.2))
   let x <-r.dat
   let xs <-qz t el σ ds
   pure (x::xs)
  else qz t el σ ds
def vM:List R->Option (List (D×D))
 |[x,y]=>match x.walk,y.walk with
  |some xs,some ys=>some (xs.zip ys)|_,_=>none
 |_=>none
@[simp] def tD(cap:List Nat)(ms:cL)(t:aO->M Bool)(el:bl)(σ:aO):M R:=do
 let rs <-ms σ
 match vM rs with
 |some ds=>do
  hr (ds.length<ahQ)
  let xs <-qz t el (hU 2 cap σ) ds
  pure (.fr xs)
 |none=>bad
theorem afc(h:vM rs=some ds):∃x y xs ys,rs=[x,y]/\x.walk=some xs/\y.walk=some ys/\ds=xs.zip ys:=by
 unfold vM at h;split at h
 ·rename_i x y
  split at h
  ·rename_i xs ys aq aD
   cases h;exact⟨x,y,xs,ys,rfl,aq,aD,rfl⟩
  ·cases h
 ·cases h
theorem hS.same{b:Bool}{K:aP}{H H':av}(s:en H H'){a:Addr}{ys:List V}(h:hS b K H a ys):hS b K H' a ys:=by
 cases b with
 |true=>exact s.vo h|false=>exact s.seq h
omit [aF.a6]in
theorem IZ{t:aO->M Bool}(σ:aO):∀ds,qz t el σ ds=k' (fun d=>some ((σ.set 0 (.val d.1)).set 1 (.val d.2))) t el ds
 |[]=>rfl| d::ds=>by unfold qz k';rw[IZ σ ds]
theorem Rd{K:aP}{mg:bk}{cap:List Nat}{ms:cL}{t:aO->M Bool}{el:bl}:∀ak H Q,e' K mg (tD cap ms t el) ak H Q->sN 2 cap (xH K (mh K mg ms)) (oW K 2 (ht [0,1])) (kL K mg t) (e' K mg el) ak H Q:=by
 rintro ak H Q ⟨O,σ,S,r,au,st,h,q⟩;obtain⟨rs,S1,ae,h⟩:=M.inv h
 cases lM:vM rs with
 |none=>rw[lM]at h;cases h
 |some ds=>
  rw[lM]at h;obtain⟨_,bj,ag,h⟩:=M.inv h;obtain⟨hlen,rfl⟩:=p5 ag;obtain⟨xs,hR,bK,h⟩:=M.inv h;cases h;obtain⟨x,y,ahE,NR,rfl,ex,e9,rfl⟩:=afc lM;rw[IZ]at bK;refine⟨O,σ,S,_,S1,st,ae,fun aK vs H1 g1 aU bo nn=>?_⟩;obtain⟨v1,bu,rfl,a5,v2,b4,rfl,bt,re⟩:=bo;cases re;obtain⟨bX,bP,us,rfl,s1,a1⟩:=y9 (H₀:=H) a5 nn.1 ex;obtain⟨bY,ct,ws,rfl,s2,a2⟩:=y9 (H₀:=H) bt nn.2.1 e9;refine⟨bX,bY,bP,ct,rfl,⟨us,s1.c9⟩,⟨ws,s2.c9⟩,Am (aU.bW H) hlen (fun H' s=>⟨us,ws,hS.same s s1.c9,hS.same s s2.c9,?_⟩) (fun k d nt ai H' dK cI g' b3=>?_) bK fun ai v H' g b3 bo nn=>q ai v H' (g1.bW.trans g) b3 bo (nn.back g1.same)⟩
  ·rw[alo,a1.len,a2.len];omega
  ·cases cI
   obtain⟨aq,aD⟩:=akN.mp dK;obtain⟨u,hc,dD⟩:=(a_.go g' (a1.da (k2 _))).get aq;obtain⟨v,ev,bI⟩:=(a_.go g' (a2.da (k2 _))).get aD;have ba:=hS.same g'.same s1.c9;have bU:=hS.same g'.same s2.c9;refine⟨⟨⟨us,u,ba,hc⟩,⟨ws,v,bU,ev⟩⟩,fun x aJ R ib dB=>?_⟩;obtain⟨u',e2,T,rfl,eX,rfl,r1,jH⟩:=ib;have vc:=r1 us ba;rw[hc]at vc;cases vc;have l_:=jH ws bU;rw[ev]at l_;cases l_;have fM:Go ai ai H' (upd H' T (.tup [u,v])):=Go.eJ eX;exact⟨T,[u,v],rfl,dp.of de,rfl,u,[v],rfl,v,[],rfl,rfl,dB _ _ fM (((b3.eJ eX).val (dD.go fM)).val (bI.go fM)) (((my.refl _).set rfl).set rfl)⟩
section
variable{X:aQ}{scope esc:Scope}{EN N:List Str}{cap:List Nat}{elt a eU:Expr}{ifs:List Expr}{pos dq p cM p1 du:Pos}{x y:Str}{t:aO->M Bool}{el:bl}{ms:cL}{k:Nat}
theorem Q2(S:kS esc scope EN N 2 cap)(kx:d3 X "zip")(hm:X.mg "zip"=none)(ao:vR X [a,eU] ms)(ah:N[0]? = some x)(a':N[1]? = some y)
  (iJ:∀C aL s H,Loc (cm X scope N C aL s H).env.scope x/\(cm X scope N C aL s H).env.scope.names.lookup x=some .local) (qm:∀C aL s H,Loc (cm X scope N C aL s H).env.scope y/\(cm X scope N C aL s H).env.scope.names.lookup y=some .local)
  (bG:∀C aL s H,zr (cm X scope N C aL s H) ifs t) (hY:∀C aL s H,hn (cm X scope N C aL s H) elt el)
  (he:X.env.scope=esc:=by rfl) (hN:X.N=EN:=by rfl) (aE:X.calm=true:=by rfl) (aC:∀x,aip (.Call (.Name "zip" p) [a,eU] [] cM) X.env x=pure x:=by intro _;rfl)
  (ky:ahK [a,eU] X.env=[(false,eval a X.env),(false,eval eU X.env)]:=by rfl) (kz:ahK [eU] X.env=[(false,eval eU X.env)]:=by rfl)
  (lX:∀C aL s H,(ah4 [.Name x p1,.Name y du] (cm X scope N C aL s H).env).length=2/\(ah4 [.Name x p1,.Name y du] (cm X scope N C aL s H).env).findIdx? (·.1)=none/\
   (ah4 [.Name x p1,.Name y du] (cm X scope N C aL s H).env).map (·.2)=akc (.Name x p1) (cm X scope N C aL s H).env::(ah4 [.Name y du] (cm X scope N C aL s H).env).map (·.2)/\
   (ah4 [.Name y du] (cm X scope N C aL s H).env).map (·.2)=akc (.Name y du) (cm X scope N C aL s H).env::(ah4 [] (cm X scope N C aL s H).env).map (·.2):=by intros;exact⟨rfl,rfl,rfl,rfl⟩) :
  hn X (.ListComp elt [⟨.Tuple [.Name x p1,.Name y du] k dq,.Call (.Name "zip" p) [a,eU] [] cM,ifs,0⟩] scope pos) (tD cap ms t el):=
 eh (De (wi:=xH X.K (mh X.K X.mg ms)) (g:=oW X.K 2 (ht [0,1])) (tt:=kL X.K X.mg t) (te:=e' X.K X.mg el) S (KW kx hm ao ky kz)
  (fun C aL s H=>qT aE (u9 S.eI ah (iJ C aL s H).1 (u9 S.eI a' (qm C aL s H).1 Dg (lX C aL s H).2.2.2 (.inr (qm C aL s H).2)) (lX C aL s H).2.2.1 (.inr (iJ C aL s H).2)) (lX C aL s H).1 (lX C aL s H).2.1) bG hY he hN aE aC) Rd
end
end aY
namespace aY
open PySem PySem.Spec aF PyProof.Rows
theorem QH:aiC "max"=some (.builtin "max"):=by decide +kernel
theorem kmk_max_key(a v:Value):argsOk "max" ⟨[a],[(ah3 "key",v)]⟩:=by unfold argsOk;kernel_rfl
def l4(mf:bD)(d:D):Option (List Int):=match(mf [d]).run []with
 |.ok (.v (.tup br)) []=>nums br|_=>none
def j5(mf:bD)(b:D)(fY:List Int):List D->Option D
 |[]=>some b|d::ds=>match l4 mf d with
  |some dz=>if gI dz fY=true then j5 mf d dz ds else j5 mf b fY ds|none=>none
def uL(mf:bD):List D->Option D
 |d::ds=>match l4 mf d with
  |some k=>j5 mf d k ds|none=>none
 |[]=>none
def w8(mf:bD)(x:R):M R:=match x.eH with
 |some ds=>match uL mf ds with
  |some r=>if ds.length<64 then pure (.v r)else bad|none=>bad
 |none=>bad
@[simp] def wK(mf:bD)(cT:bl)(σ:aO):M R:=do
 let x <-cT σ
 w8 mf x
theorem I'{mf:bD}{k:List Int}(h:l4 mf d=some k):∃br,(mf [d]).run []=.ok (.v (.tup br)) []/\nums br=some k:=by
 unfold l4 at h;split at h
 ·rename_i br e;exact⟨br,e,h⟩
 ·cases h
variable[aF.a6]
section
variable{X:aQ}{pinZ:cP}{σ:aF.St}{H:av}{s:ahL}{G:av->Prop}{mf:bD}{f S it l:Addr}{k:Nat}{O:a3}
theorem next_item{xs:List V}{v:V}{E:cu}{A:ah6}(I:Inv X pinZ σ H1 s)(cq:c3 X.K H1 l xs)(bz:xs[j]? = some v)(aL:gk X pinZ H1 it)(hit:s.heap.IsListIter it l j)(dX:A.handled=none) :
  wpAny (model X.prog X.w) A (akd (.ref it)) (fun r s1=>∃u,r=some u/\RelV v u/\Inv X pinZ σ H1 s1/\s1.heap.IsListIter it l (j+1)) E s:=by
 obtain⟨us,bI,pl,_⟩:=I.list cq;have aj:s.heap.IsList l us.toArray:=pl.isList;have gG:l≠it:=by
  rintro rfl;obtain⟨o,e,c,_⟩:=hit;obtain⟨o',cf,c',_⟩:=aj;rw[e]at cf;cases cf;rw[c]at c';injection c' with z;exact absurd z (by decide)
 obtain⟨u,cb,dD⟩:=bI.get bz;have W:=amC (prog:=X.prog) (w:=X.w) (A:=A) dX it l gG us.toArray;refine W.item j s _ _ (by have:=(ahN.mp cb).1;simpa using this) ⟨hit,aj⟩ fun u' h' DW dM V4 nW=>?_
 have e:some u'=some u:=by rw[<-cb];simpa using dM.symm
 cases e;obtain⟨f0,f1,f2,gC,f4,gD⟩:=aL;exact⟨u,rfl,dD,I.turned (t':=DW) (fun b o aa e=>nW b o (by simpa using aa) e) f0 f1 gC f4 gD,V4.1⟩
theorem Kj{xs:List V}{E:cu}{A:ah6}(I:Inv X pinZ σ H1 s)(cq:c3 X.K H1 l xs)(bz:j=xs.length)(aL:gk X pinZ H1 it)(hit:s.heap.IsListIter it l j)(dX:A.handled=none) :
  wpAny (model X.prog X.w) A (akd (.ref it)) (fun r s1=>r=none/\Inv X pinZ σ H1 s1) E s:=by
 obtain⟨us,bI,pl,_⟩:=I.list cq;have aj:s.heap.IsList l us.toArray:=pl.isList;have gG:l≠it:=by
  rintro rfl;obtain⟨o,e,c,_⟩:=hit;obtain⟨o',cf,c',_⟩:=aj;rw[e]at cf;cases cf;rw[c]at c';injection c' with z;exact absurd z (by decide)
 have W:=amC (prog:=X.prog) (w:=X.w) (A:=A) dX it l gG us.toArray;have AF:j=us.toArray.size:=by rw[ahW,bz,bI.length]
 rw[AF]at hit;refine W.done s _ _ ⟨hit,aj⟩ fun h' DW nW=>?_
 obtain⟨f0,f1,f2,gC,f4,gD⟩:=aL;exact⟨rfl,I.turned (t':=DW) (fun b o aa e=>nW b o (by simpa using aa) e) f0 f1 gC f4 gD⟩
theorem Jb{aK:a3}{v:V}{A:ah6}(fs:ny X k f G mf)(aG:cB k A.in1)(dU:kV X.prog X.w X.K X.mg X.base A.in1 X.stack s H1)(I:Inv X pinZ σ H1 s)(fz:cV aK H1)(oF:G H1)(cW:Rep X.K X.mg aK H1 d v)(dD:RelV v u)(hd:(mf [d]).run []=.ok (.v i') [])(aL:gk X pinZ H1 it)(hit:s.heap.IsListIter it l j) :
  wpAny (model X.prog X.w) A.in1 (call (.ref f) [u]) (fun u' s2=>∃(bf:a3)(aJ:av)(e2:V),Inv X pinZ σ aJ s2/\Go aK bf H1 aJ/\cV bf aJ/\G aJ/\Rep X.K X.mg bf aJ i' e2/\RelV e2 u'/\gk X pinZ aJ it/\s2.heap.IsListIter it l j) (fun _ _=>False) s:=by
 obtain⟨uZ,w4,ci,wY⟩:=hit;have Oc:Inv X (pinZ++qU [it] s.heap) σ H1 s:=I.pinned (fun b aa=>by rw[aij.mp aa];exact aL) fun b aa=>by
  rw[aij.mp aa];exact⟨uZ,w4,fun v z=>by rw[wY]at z;cases z⟩
 refine wpAny_call (aj0 (fs.2.2 A.in1 s H1 u v (fun e2 H'=>∃ai,Go aK ai H1 H'/\cV ai H'/\Rep X.K X.mg ai H' i' e2) aG dU oF dD ?_) fun r s2 a4=>?_)
 ·refine⟨aK,[d],.v i',[],fz,f9.nil,⟨v,[],rfl,?_,rfl⟩,hd,fun ai e2 H' g cE bo _=>⟨ai,g,cE,bo⟩⟩
  cases d<;>first | exact cW | exact air cW | skip
  obtain⟨x,zs,q,l,r⟩:=cW;exact⟨x,zs,q,l.c9,r⟩
 ·cases r with
  |error e=>exact air a4|ok a7=>
   cases a7 with
   |ret u'=>
    obtain⟨e2,aJ,bM,bI,bf,g2,cN,b4⟩:=Oc.after a4;have pin:=bM.pin (it,uZ) (aiD _ (aiD _ (by unfold qU;simp[w4])));exact⟨bf,aJ,e2,bM.vE,g2,cN,fs.1 _ _ g2.same oF,b4,bI,⟨pin.2.1,aL.2⟩,⟨uZ,pin.1,ci,wY⟩⟩
   |next=>exact air a4
   |brk=>exact air a4|cont=>exact air a4
structure NZ(X:aQ)(pinZ:cP)(σ:aF.St)(G:av->Prop)(O:a3)(H:av)(S it l:Addr)(j:Nat)(d:D)(fY:List Int)(aM:ahL):Prop where
 ex:∃ai H' v kv,Inv X pinZ σ H' aM/\Go O ai H H'/\cV ai H'/\G H'/\H' S=some (.lst [v,kv])/\Rep X.K X.mg ai H' d v/\Rep X.K X.mg ai H' (.tup (fY.map D.int)) kv/\ai S=.di/\gk X pinZ H' it/\aM.heap.IsListIter it l j
def v7(X:aQ)(pinZ:cP)(σ:aF.St)(O:a3)(H:av)(res:D)(u:Value)(aM:ahL):Prop:=
 ∃ai H' v,Inv X pinZ σ H' aM/\Go O ai H H'/\cV ai H'/\Rep X.K X.mg ai H' res v/\RelV v u
theorem Lj{K:aP}{mg:bk}{O:a3}{H:av}{br:List D}{fY:List Int}{v:V}(r:Rep K mg O H (.tup br) v)(e:nums br=some fY):Rep K mg O H (.tup (fY.map D.int)) v:=by
 obtain⟨a,ys,rfl,c9,bh⟩:=r;have:=sq bh e;subst this;exact⟨a,_,rfl,c9,yM fY⟩
theorem Lk{K:aP}{mg:bk}{O:a3}{H:av}{fY:List Int}{v:V}(r:Rep K mg O H (.tup (fY.map D.int)) v):∃a,v=.ref a/\dp K H a (fY.map V.int):=by
 obtain⟨a,ys,rfl,c9,bh⟩:=r;have:∀(fY:List Int)(ys:List V),a_ K mg O H (fY.map D.int) ys->ys=fY.map V.int:=by
  intro fY
  induction fY with
  |nil=>intro ys h;exact h|cons a t a9=>
   intro ys h;obtain⟨y,r,rfl,ae,ag⟩:=h;rw[show y=V.int a from ae,a9 _ ag];rfl
 rw[this fY ys bh]at c9;exact⟨a,rfl,c9⟩
theorem vals2{v kv:V}(h:Vals [v,kv] its):∃u kC,its=[u,kC]/\RelV v u/\RelV kv kC:=by
 cases h with
 |cons bu b4=>cases b4 with
  |cons oe ng=>cases ng;exact⟨_,_,rfl,bu,oe⟩
theorem wC{H1:av}{its:List Value}{v kv:V}(I:Inv X pinZ σ H1 s)(cq:H1 S=some (.lst zs))(gF:s.heap.get? S=some (aiq "list" its.toArray z'))(bI:RelV v u)(jd:RelV kv kC) :
  Inv X pinZ σ (upd H1 S (.lst [v,kv])) { s with heap:=s.heap.update S (aim fun _=>#[u,kC]) }:=by
 have s1:=ai1 s.heap S (aim fun _=>#[u,kC]);obtain⟨af,gE⟩:∃af,(s.heap.update S (aim fun _=>#[u,kC])).get? S=some (aiq "list" #[u,kC] af):=⟨_,ajP gF fun _=>#[u,kC]⟩;refine I.write (x:=S) (e:=S) (t':=s.toks) (by rw[cq];trivial) (.inl rfl) (fun b o aa e=>(s1.2 b aa).trans e) ⟨_,gE⟩ ⟨by rw[ah8];simp,[u,kC],af,.cons bI (.cons jd .nil),gE⟩
theorem Gh{H1:av}{its:List Value}(I:Inv X pinZ σ H1 s)(cq:H1 S=some (.lst zs))(gF:s.heap.get? S=some (aiq "list" its.toArray z')) :
  Inv X pinZ σ (upd H1 S (.lst [])) { s with heap:=s.heap.update S (aim fun _=>#[]) }:=by
 have s1:=ai1 s.heap S (aim fun _=>(#[]:Array Value));obtain⟨af,gE⟩:∃af,(s.heap.update S (aim fun _=>(#[]:Array Value))).get? S=some (aiq "list" #[] af):=⟨_,ajP gF fun _=>#[]⟩;refine I.write (x:=S) (e:=S) (t':=s.toks) (by rw[cq];trivial) (.inl rfl) (fun b o aa e=>(s1.2 b aa).trans e) ⟨_,gE⟩ ⟨aib _,[],af,.nil,gE⟩
theorem xN{h:Heap}(gG:S≠it)(hit:h.IsListIter it l j):(h.update S g).IsListIter it l j:=by
 obtain⟨uZ,w4,ci,wY⟩:=hit;exact⟨uZ,((ai1 h S g).2 it gG.symm).trans w4,ci,wY⟩
theorem xc(gG:S≠it)(aL:gk X pinZ H1 it):gk X pinZ (upd H1 S o) it:=⟨by rw[cX gG.symm];exact aL.1,aL.2⟩
theorem X3{res:D}(fs:ny X k f G mf)(aG:cB (k+1) X.A)(uh:H S=none)(jD:S≠it)(bh:a_ X.K X.mg O H ds xs)(aj:c3 X.K H l xs) :
  ∀(r:List D)(j:Nat)(d:D)(fY:List Int)(aM:ahL),ds.drop j=r->NZ X pinZ σ G O H S it l j d fY aM->j<=ds.length->j5 mf d fY r=some res->
   akv (model X.prog X.w) X.A (.builtin "max.loop" ⟨[.ref it,.ref f,.ref S],[]⟩) (fun r aM=>∃u,r=.ok (.ret u)/\v7 X pinZ σ O H res u aM) aM:=by
 have lV:(toString "max"++toString ".loop":String)="max.loop":=by decide
 have dX:X.A.in1.handled=none:=aG.in1.hd;have XS:=bh.len;intro r
 induction r with
 |nil=>
  intro j d fY aM nS B aZ aS;cases aS;obtain⟨aK,H1,v,kv,a8,g1,fz,oF,cq,cW,jd,od,aL,hit⟩:=B.ex;obtain⟨hsz,its,n,vals,gF⟩:=a8.bF S _ cq;obtain⟨u,kC,rfl,dD,ve⟩:=vals2 vals;have nV:j=xs.length:=by
   have:=congrArg ai8 nS;rw[aiA,aiy]at this;omega
  refine aki ajp ?_;rw[ajx ain _];show wpAny _ X.A.in1 (akh (.ref S) >>= _) _ _ _;refine ahH (aiQ gF rfl ?_);show wpAny _ X.A.in1 (tryCatch (akd (.ref it)) _ >>= _) _ _ _;refine ahH (ajj (aiv (Kj (E:=fun _ _=>False) a8 (g1.same.seq aj) nV aL hit dX) (fun r s1 a4=>?_) fun _ _ dk=>dk.elim));obtain⟨rfl,bM⟩:=a4;obtain⟨_,k_,dv,D6,uf⟩:=bM.bF S _ cq;show wpAny _ X.A.in1 (updateSeq S (fun _=>#[]) >>= _) _ _ _;refine ahH ?_;refine akj uf rfl (hz:=by rw[ahW,<-D6.length,ah8];simp) (ahH (ajo (ahO ?_)));exact⟨u,rfl,aK,_,v,Gh bM cq uf,⟨ou uh g1.same cq _,g1.own,g1.bC⟩,fz.d1 cq,cW.d1 (by rw[od];intro z;cases z) cq,dD⟩
 |cons cN r a9=>
  intro j d fY aM nS B aZ aS;unfold j5 at aS
  cases hb:l4 mf cN with
  |none=>rw[hb]at aS;cases aS
  |some dz=>
   rw[hb]at aS
   replace aS:(if gI dz fY=true then j5 mf cN dz r else j5 mf d fY r)=some res:=aS
   obtain⟨br,hm,aH⟩:=I' hb;obtain⟨aK,H1,v,kv,a8,g1,fz,oF,cq,cW,jd,od,aL,hit⟩:=B.ex;obtain⟨hsz,its,n,vals,gF⟩:=a8.bF S _ cq;obtain⟨u,kC,rfl,dD,ve⟩:=vals2 vals;have hd2:ds[j]? = some cN:=by
    have:=congrArg (·[0]?) nS;simpa using this
   have ud:ds.drop (j+1)=r:=by
    have:=congrArg (alE 1) nS;simpa[aky]using this
   have nV:j+1<=ds.length:=(ahN.mp hd2).1;obtain⟨v2,BE,vd⟩:=bh.get hd2;refine aki ajp ?_;rw[ajx ain _];show wpAny _ X.A.in1 (akh (.ref S) >>= _) _ _ _;refine ahH (aiQ gF rfl ?_);show wpAny _ X.A.in1 (tryCatch (akd (.ref it)) _ >>= _) _ _ _;refine ahH (ajj (aiv (next_item (E:=fun _ _=>False) a8 (g1.same.seq aj) BE aL hit dX) (fun r s1 a4=>?_) fun _ _ dk=>dk.elim));obtain⟨hH,rfl,ma,bM,o1⟩:=a4;show wpAny _ X.A.in1 (tryCatch (ajz [hH] (call (.ref f) [hH])) _ >>= _) _ _ _;refine ahH (ajj (ai3 (aiv (Jb fs aG.in1 bM.tL.in1 bM fz oF (vd.go g1) ma hm aL o1) (fun Nr s3 a4=>?_) fun _ _ dk=>dk.elim)));obtain⟨eu,cG,Ji,dr,g3,mJ,vW,Dy,Dz,xb,xv⟩:=a4;have i9:=g3.same.at' _ _ cq;have nc:eu S=.di:=(g3.own S (by rw[cq];intro z;cases z)).trans od;obtain⟨_,BS,CH,vals3,lS⟩:=dr.bF S _ i9;have yN:=Lj Dy aH;obtain⟨d6,rfl,ace⟩:=Lk yN;obtain⟨a1,rfl,acd⟩:=Lk (jd.go g3);cases Dz;cases ve;obtain⟨t3,Wf,Zf,_⟩:=dr.tuple ace;obtain⟨t1,fh,p1,_⟩:=dr.tuple acd;show wpAny _ X.A.in1 (tryCatch (ajz [hH,.ref d6] (akG .Gt (.ref d6) (.ref a1) >>= _)) _ >>= _) _ _ _;refine ahH (ajj (ai3 (ahH ((HO Zf p1 (intsAre_of Wf) (intsAre_of fh) aG.in1.adg ?_)))));refine ahH (ai3 (ai2 ?_));refine ahH (ajo (ahO ?_))
   by_cases aa:gI dz fY=true
   ·rw[if_pos aa]at aS
    simp only[aa,if_true];refine ahH ?_;refine akj lS rfl (hz:=by rw[ahW,<-vals3.length,ah8];simp) (ahH (ajo ?_));rw[lV];refine ahO ⟨ajS ain _,a9 (j+1) cN dz _ ud ?_ nV aS⟩;exact⟨eu,_,v2,.ref d6,wC (v:=v2) (kv:=.ref d6) dr i9 lS ma (show RelV (.ref d6) (.ref d6)from rfl),⟨ou uh (g1.trans g3).same i9 _,(g1.trans g3).own,(g1.trans g3).bC⟩,mJ.d1 i9,fs.2.1 _ _ _ _ i9 vW,de,(vd.go (g1.trans g3)).d1 (by rw[nc];intro z;cases z) i9,yN.d1 (by rw[nc];intro z;cases z) i9,nc,xc jD xb,xN jD xv⟩
   ·rw[if_neg aa]at aS
    simp only[aa,if_false];refine ahH (ajo ?_);rw[lV];refine ahO ⟨ajS ain _,a9 (j+1) d fY _ ud ?_ nV aS⟩;exact⟨eu,cG,v,.ref a1,dr,g1.trans g3,mJ,vW,i9,cW.go g3,jd.go g3,nc,xb,xv⟩
theorem X2{E:cu}(I:Inv X pinZ σ H s)(cE:cV O H)(bh:a_ X.K X.mg O H ds xs)(aj:c3 X.K H l xs)(fs:ny X k f G mf)(tU:G H)(aG:cB (k+1) X.A)(hm:uL mf ds=some res) :
  wpAny (model X.prog X.w) X.A (call (.builtin "max") [.ref l] [(ah3 "key",.ref f)]) (v7 X pinZ σ O H res) E s:=by
 have lV:(toString "max"++toString ".loop":String)="max.loop":=by decide
 have dX:X.A.in1.handled=none:=aG.in1.hd
 cases ds with
 |nil=>cases hm
 |cons d ds=>
  replace hm:(match l4 mf d with | some k=>j5 mf d k ds | none=>none)=some res:=hm
  cases hb:l4 mf d with
  |none=>rw[hb]at hm;cases hm
  |some dz=>
   rw[hb]at hm;obtain⟨br,az,aH⟩:=I' hb;obtain⟨us,bI,pl,_⟩:=I.list aj;have ft:s.heap.IsList l us.toArray:=pl.isList;refine kmk_tree PySem.F.kind_max PySem.F.plain_max PySem.F.entry_max (kmk_max_key _ _) ?_;show wpAny _ X.A.in1 (ajL "max" ["key","default"] 0 ⟨[],[(ah3 "key",.ref f)]⟩ >>= _) _ _ s;refine ahH (wpAny_of_eq (show ajL "max" ["key","default"] 0 ⟨[],[(ah3 "key",.ref f)]⟩=pure [some (.ref f),none]from rfl) ?_);refine ahH (ahO ?_);refine ahH (ajA ft ?_);refine ahH (akF ?_ (aib _));rw[lV];have a8:Inv X pinZ σ H { s with heap:=s.heap.push { cls:=.type "list_iterator",data:=.fields #[.ref l,.int 0 0] } }:=I.kept (t':=s.toks) fun b o e=>ahI _ e
   have mQ:(s.heap.push { cls:=.type "list_iterator",data:=.fields #[.ref l,.int 0 0] }).get? s.heap.objs.size=some { cls:=.type "list_iterator",data:=.fields #[.ref l,.int 0 0] }:=ahU _ rfl;have hsz:(s.heap.push { cls:=.type "list_iterator",data:=.fields #[.ref l,.int 0 0] }).objs.size=s.heap.objs.size+1:=al1 ..;generalize VD:s.heap.push { cls:=.type "list_iterator",data:=.fields #[.ref l,.int 0 0] }=ae at *;have nL:H ae.objs.size=none:=a8.bF.fresh (ahM _);have jD:ae.objs.size≠s.heap.objs.size:=by rw[hsz];omega
   have bM:Inv X pinZ σ (upd H ae.objs.size (.lst [])) { s with heap:=ae.push (aiq "list" #[] 0) }:=
    a8.laid (t':=s.toks) (fun b o e=>ahI _ e) (ahM _) ⟨aib _,[],0,.nil,ahU _ rfl⟩
   have aL:gk X pinZ (upd H ae.objs.size (.lst [])) s.heap.objs.size:=I.nK (ahM _) (by rw[cX jD.symm];exact I.bF.fresh (ahM _));have hit:(ae.push (aiq "list" #[] 0)).IsListIter s.heap.objs.size l 0:=⟨_,ahI _ mQ,rfl,rfl⟩;have go2:Go O (fC O ae.objs.size .di) H (upd H ae.objs.size (.lst [])):=Go.new nL;have Av:cV (fC O ae.objs.size .di) (upd H ae.objs.size (.lst [])):=cE.new nL;have pB:fC O ae.objs.size .di ae.objs.size=.di:=nk;have qg:upd H ae.objs.size (.lst []) ae.objs.size=some (.lst []):=de;have gF:(ae.push (aiq "list" #[] 0)).get? ae.objs.size=some (aiq "list" #[] 0):=ahU _ rfl;refine ahO ⟨ajS ain _,?_⟩;generalize ae.push (aiq "list" #[] 0)=ag at *;generalize ae.objs.size=S at *;generalize s.heap.objs.size=it at *;generalize fC O S .di=bf at *;generalize upd H S (.lst [])=aJ at *;obtain⟨v,bz,cW⟩:=bh.get (i:=0) (d:=d) rfl;refine aki ajp ?_;rw[ajx ain _];show wpAny _ X.A.in1 (akh (.ref S) >>= _) _ _ _;refine ahH (aiQ gF rfl ?_);show wpAny _ X.A.in1 (tryCatch (akd (.ref it)) _ >>= _) _ _ _;refine ahH (ajj (aiv (next_item (E:=fun _ _=>False) bM (go2.same.seq aj) bz aL hit dX) (fun r s1 a4=>?_) fun _ _ dk=>dk.elim));obtain⟨hH,rfl,ma,dr,o1⟩:=a4;show wpAny _ X.A.in1 (tryCatch (ajz [hH] (call (.ref f) [hH])) _ >>= _) _ _ _;refine ahH (ajj (ai3 (aiv (Jb fs aG.in1 dr.tL.in1 dr Av (fs.1 _ _ go2.same tU) (cW.go go2) ma az aL o1) (fun Nr s3 a4=>?_) fun _ _ dk=>dk.elim)));obtain⟨eu,cG,Ji,i2,g3,mJ,vW,Dy,Dz,xb,xv⟩:=a4;have i9:=g3.same.at' _ _ qg;have nc:eu S=.di:=(g3.own S (by rw[qg];intro z;cases z)).trans pB;obtain⟨_,BS,CH,vals3,lS⟩:=i2.bF S _ i9;have yN:=Lj Dy aH;show wpAny _ X.A.in1 (updateSeq S (fun _=>#[hH,Nr]) >>= _) _ _ _;refine ahH ?_;refine akj lS rfl (hz:=by rw[ahW,<-vals3.length,ah8];simp) ?_;rw[lV];refine ahO ⟨ajS ain _,aj0 (X3 (pinZ:=pinZ) (σ:=σ) fs aG nL jD bh aj ds 1 d dz _ rfl ?_ (by simp) hm) fun r aM a4=>?_⟩
   ·exact⟨eu,_,v,Ji,wC i2 i9 lS ma Dz,⟨ou nL (go2.trans g3).same i9 _,(go2.trans g3).own,(go2.trans g3).bC⟩,mJ.d1 i9,fs.2.1 _ _ _ _ i9 vW,de,(cW.go (go2.trans g3)).d1 (by rw[nc];intro z;cases z) i9,yN.d1 (by rw[nc];intro z;cases z) i9,nc,xc jD xb,xN jD xv⟩
   ·obtain⟨u,rfl,a4⟩:=a4
    exact a4
end
section
variable{X:aQ}{k:Nat}{e:Expr}{cT:bl}{p pos kp:Pos}{i':Expr}{mf:bD}{G:Addr->av->Prop}
theorem Q3(aS:d3 X "max")(hm:X.mg "max"=none)(aG:cB (k+1) X.A)(ao:hn X e cT)
  (dj:∀(pinZ:cP)(s:ahL)(σ:aF.St)(O:a3)(H:av),Inv X pinZ σ H s->cV O H->
   wpAny (model X.prog X.w) X.A (eval i' X.env) (fun u aM=>∃(f:Addr)(H':av)(G:av->Prop),u=.ref f/\Inv X pinZ σ H' aM/\Go O O H H'/\cV O H'/\G H'/\ny X k f G mf) X.dA s)
  (he:aie pos (ahK [e] X.env)=(false,eval e X.env)::aie pos (ahK [] X.env):=by rfl)
  (aC:ahK [e] X.env=(false,eval e X.env)::ahK [] X.env:=by rfl)
  (iK:(aie pos (ahK [e] X.env)).any (·.1)=false:=by rfl) :
  hn X (.Call (.Name "max" p) [e] [⟨some (ah3 "key"),i',kp⟩] pos) (wK mf cT):=by
 rintro pinZ s σ H Q I ⟨O,vP,S,r,au,st,h,q⟩;obtain⟨x,S1,ae,h⟩:=M.inv h;obtain⟨ds,res,nT,VQ,i8,rfl,rfl⟩:∃ds res,x.eH=some ds/\uL mf ds=some res/\ds.length<64/\r=.v res/\S1=au:=by
  unfold w8 at h;split at h
  ·rename_i ds aq
   split at h
   ·rename_i res aD
    by_cases c:ds.length<64
    ·rw[if_pos c]at h
     cases h;exact⟨ds,res,aq,aD,c,rfl,rfl⟩
    ·rw[if_neg c]at h;cases h
   ·cases h
  ·cases h
 refine ajh (pb I aS hm QH ?_);refine callWith_kw ?_ he iK rfl rfl;refine bR ((yE ao yF aC) pos pinZ s σ H (fun vs H1=>∃v aK,vs=[v]/\Go O aK H H1/\b_ X.K X.mg aK vP S1 σ H1/\ew X.K X.mg aK H1 x v) I ⟨O,vP,S,x,S1,st,ae,fun aK v H1 g1 aU bo nn=>⟨v,aK,rfl,g1,aU,bo⟩⟩) fun us s1 aX=>?_
 obtain⟨vs,H1,a8,bu,v,aK,ev,g1,aU,bo⟩:=aX;subst ev;obtain⟨l,ys,rfl,aj,bh⟩:=R.mY bo nT;obtain⟨u,rfl,dD⟩:=vals1 bu;cases dD;refine wpAny_evalAll_cons (ahH (bR (dj pinZ s1 σ aK H1 a8 aU.b7) fun u s2 az=>ahH (alQ (ahO ?_))));obtain⟨f,aJ,G,rfl,bM,g2,cN,A4,fs⟩:=az;refine wpAny_evalAll_nil ?_;show wpAny _ _ (call (.builtin "max") [.ref l] [(ah3 "key",.ref f)]) _ _ _;refine bR (X2 bM cN (bh.go g2) (g2.same.seq aj) fs A4 aG VQ) fun u s3 aX=>?_
 obtain⟨eu,cG,v,dr,g3,mJ,Dv,DC⟩:=aX;exact⟨v,cG,dr,DC,q eu _ cG (g1.trans (g2.trans g3)) (aU.go (g2.trans g3) mJ) Dv trivial⟩
theorem Q4{c P:Addr}{q p1:Str}{params:akR}{body:Expr}{scope:Scope}{pd:Pos}{N:List Str}{m:bl}(aS:d3 X "max")(hm:X.mg "max"=none)(aG:cB (k+3) X.A)(L:mC X.K c P q)(B:kc X.base X.mg)(mT:X.env.code=.ref c)
  (a4:X.env.qual++ah3 "<lambda>"=q) (Sc:cp N [p1] scope)
  (lR:∀(c:Addr)(pm gV u:Value),ajZ (W.kla_fn (ah3 "<lambda>") q params body scope [] pm (.ref c) gV) ⟨[u],[]⟩=pure [(p1,u)])
  (aa:∀(f c:Addr)(A:ah6)(s:ahL)(H:av),cB k (A.deeper (akw q scope s.heap.objs.size f (.ref c)))->hn (gW ej X.prog X.w X.K X.mg X.base N q scope f (.ref c) A X.stack s H i1).gr body m)
  (ao:hn X e cT) (nR:al2 params X.env=([],[]):=by rfl) (jE:akf scope X.env=pure []:=by rfl)
  (he:aie pos (ahK [e] X.env)=(false,eval e X.env)::aie pos (ahK [] X.env):=by rfl)
  (aC:ahK [e] X.env=(false,eval e X.env)::ahK [] X.env:=by rfl)
  (iK:(aie pos (ahK [e] X.env)).any (·.1)=false:=by rfl) :
  hn X (.Call (.Name "max" p) [e] [⟨some (ah3 "key"),.Lambda params body scope pd,kp⟩] pos) (wK (fnOf 1 N.length (bE m)) cT):=
 Q3 (k:=k+1) aS hm (aG.mono (by omega)) ao (fun pinZ s σ O H I cE=>bR (Jo I cE L B mT a4 nR jE) fun u aM ⟨f,c',pm,gV,H',hc,hL,g',d',nx⟩=>
  ⟨f,H',_,hc,hL,g',d',nx,Jp Sc (lR c' pm gV) (aa f c')⟩) he aC iK
end
end aY
namespace aY
open PySem PySem.Spec aF PyProof.Rows
variable[aF.a6]
section
variable{X:aQ}{scope esc:Scope}{EN N:List Str}{cap:List Nat}{elt a eU:Expr}{ifs:List Expr}{pos dq p cM p1 du:Pos}{x y:Str}{t:aO->M Bool}{el:bl}{ms:cL}{k:Nat}
theorem adE(S:kS esc scope EN N 2 cap)(kx:d3 X "zip")(hm:X.mg "zip"=none)(ao:gm X [a,eU] ms)(ah:N[0]? = some x)(a':N[1]? = some y)
  (iJ:∀C aL s H,Loc (cm X scope N C aL s H).env.scope x/\(cm X scope N C aL s H).env.scope.names.lookup x=some .local) (qm:∀C aL s H,Loc (cm X scope N C aL s H).env.scope y/\(cm X scope N C aL s H).env.scope.names.lookup y=some .local)
  (bG:∀C aL s H,oP (cm X scope N C aL s H) ifs t) (hY:∀C aL s H,bb (cm X scope N C aL s H) elt el)
  (he:X.env.scope=esc:=by rfl) (hN:X.N=EN:=by rfl) (aE:X.calm=true:=by rfl) (aC:∀x,aip (.Call (.Name "zip" p) [a,eU] [] cM) X.env x=pure x:=by intro _;rfl)
  (ky:ahK [a,eU] X.env=[(false,eval a X.env),(false,eval eU X.env)]:=by rfl) (kz:ahK [eU] X.env=[(false,eval eU X.env)]:=by rfl)
  (lX:∀C aL s H,(ah4 [.Name x p1,.Name y du] (cm X scope N C aL s H).env).length=2/\(ah4 [.Name x p1,.Name y du] (cm X scope N C aL s H).env).findIdx? (·.1)=none/\
   (ah4 [.Name x p1,.Name y du] (cm X scope N C aL s H).env).map (·.2)=akc (.Name x p1) (cm X scope N C aL s H).env::(ah4 [.Name y du] (cm X scope N C aL s H).env).map (·.2)/\
   (ah4 [.Name y du] (cm X scope N C aL s H).env).map (·.2)=akc (.Name y du) (cm X scope N C aL s H).env::(ah4 [] (cm X scope N C aL s H).env).map (·.2):=by intros;exact⟨rfl,rfl,rfl,rfl⟩) :
  bb X (.ListComp elt [⟨.Tuple [.Name x p1,.Name y du] k dq,.Call (.Name "zip" p) [a,eU] [] cM,ifs,0⟩] scope pos) (tD cap ms t el):=
 ⟨Q2 S kx hm ao.un ah a' iJ qm (fun C aL s H=>(bG C aL s H).un) (fun C aL s H=>(hY C aL s H).un) he hN aE aC ky kz lX⟩
end
theorem ad5{X:aQ}{pos dq:Pos}{is:List Nat}{ax:List Expr}{k:Nat}{p cM:Pos}{a eU:Expr}{ms:cL}{body:List Stmt}{b:a0}(aI:akA (model X.prog X.w) X.A X.env X.dA)(aE:X.calm=true)(kx:d3 X "zip")(hm:X.mg "zip"=none)(ao:gm X [a,eU] ms)(aS:jT X ax (ht is))(aa:fK X body b)
  (aH:(ah4 ax X.env).length=is.length:=by rfl) (eE:(ah4 ax X.env).findIdx? (·.1)=none:=by rfl)
  (aC:∀x,aip (.Call (.Name "zip" p) [a,eU] [] cM) X.env x=pure x:=by intro _;rfl) (ky:ahK [a,eU] X.env=[(false,eval a X.env),(false,eval eU X.env)]:=by rfl) (kz:ahK [eU] X.env=[(false,eval eU X.env)]:=by rfl) :
  eM X (.For (.Tuple ax k dq) (.Call (.Name "zip" p) [a,eU] [] cM) body [] pos) (rB is ms b):=⟨Rj aI aE kx hm ao.un aS aa.un aH eE aC ky kz⟩
section
variable{X:aQ}{k:Nat}{e:Expr}{cT:bl}{p pos kp:Pos}
theorem adI{c P:Addr}{q p1:Str}{params:akR}{body:Expr}{scope:Scope}{pd:Pos}{N:List Str}{m:bl}(aS:d3 X "max")(hm:X.mg "max"=none)(aG:cB (k+3) X.A)(L:mC X.K c P q)(B:kc X.base X.mg)(mT:X.env.code=.ref c)
  (a4:X.env.qual++ah3 "<lambda>"=q) (Sc:cp N [p1] scope)
  (lR:∀(c:Addr)(pm gV u:Value),ajZ (W.kla_fn (ah3 "<lambda>") q params body scope [] pm (.ref c) gV) ⟨[u],[]⟩=pure [(p1,u)])
  (aa:∀(f c:Addr)(A:ah6)(s:ahL)(H:av),cB k (A.deeper (akw q scope s.heap.objs.size f (.ref c)))->bb (gW ej X.prog X.w X.K X.mg X.base N q scope f (.ref c) A X.stack s H i1).gr body m)
  (ao:bb X e cT) (nR:al2 params X.env=([],[]):=by rfl) (jE:akf scope X.env=pure []:=by rfl)
  (he:aie pos (ahK [e] X.env)=(false,eval e X.env)::aie pos (ahK [] X.env):=by rfl)
  (aC:ahK [e] X.env=(false,eval e X.env)::ahK [] X.env:=by rfl)
  (iK:(aie pos (ahK [e] X.env)).any (·.1)=false:=by rfl) :
  bb X (.Call (.Name "max" p) [e] [⟨some (ah3 "key"),.Lambda params body scope pd,kp⟩] pos) (wK (fnOf 1 N.length (bE m)) cT):=
 ⟨Q4 aS hm aG L B mT a4 Sc lR (fun f c A s H aG=>(aa f c A s H aG).un) ao.un nR jE he aC iK⟩
end
omit [aF.a6]in
section
open dE
variable{prog:ah1}{w:World}{A:ah6}{E:cu}{s:ahL}
omit [aF.a6]in
theorem Tx{t cA:Addr}{items:Array Value}{gO gP:Value}{lo ay:Option Int}{Q:cu}(bG:IsTup s.heap t items)(aC:s.heap.IsSliceOf cA gO gP .none)(pl:alj gO lo)(pu:alj gP ay)
  (hw:cF items.size 0 lo=0/\cF items.size items.size ay=items.size)
  (h:Q (.ref t) s):wpAny (model prog w) A (akX (.ref t) (.ref cA)) Q E s:=by
 obtain⟨os,qo,xt,nT⟩:=id aC;have Bf:s.TypeIs (.ref cA) "slice":=⟨os,qo,xt⟩;unfold akX
 try with_reducible refine ai3 ?_
 first | refine ahH (ahO ?_) | skip
 refine ahH (wpAny_sequenceKey bG.typeIs (by decide) ?_);refine ahH (ajk (name:=ah3 "__getitem__") bG.typeIs aiV
  (aj2 aiV bG.typeIs entry_tuple_getitem ?_ (args_tuple_getitem _ _)))
 show wpAny _ _ (alO (.ref t) >>= _) _ _ s;refine ahH (tupleItemsOf_ bG ?_);refine ahH (wpAny_typeOf Bf ?_);rw[if_pos (by decide)];refine ahH (Mz aC pl pu ?_);rw[hw.1,hw.2];show wpAny _ _ (if((((0:Nat):Int))==0&&(1:Int)==1&&(items.size-0)==items.size)=true then _ else _) _ _ s;rw[if_pos (by simp)];refine ahH (m:=Builtin.Tuple.tupleIsExact _) (ahH (wpAny_typeOf bG.typeIs (ahO ?_)));rw[if_pos (by decide)];refine ahH (aln ?_)
 first
  |exact ahH (ahO (ahO ⟨_,rfl,ahO h⟩))
  |exact ahH (ahO ⟨_,rfl,ahO h⟩)
  |exact ahO ⟨_,rfl,ahO h⟩
omit [aF.a6]in
omit [aF.a6]in
omit [aF.a6]in
end
def aaq(K:aP):V->Option Int->Option Int->av->cZ->Prop:=fun x lo ay H Q=>∃a xs,x=.ref a/\dp K H a xs/\(dE.cF xs.length 0 lo=0/\dE.cF xs.length xs.length ay=xs.length)/\Q (.ref a) H
omit [aF.a6]in
theorem ab2:oN X (aaq X.K):=by
 intro pinZ s σ H x v gO gP lo ay cA Q I a5 aC pl pu h;obtain⟨a,xs,rfl,ah,hw,q⟩:=h;cases a5;obtain⟨its,r,bG,hz⟩:=I.tuple ah;have hlen:its.toArray.size=xs.length:=by rw[ahW];exact r.length.symm
 refine⟨"tuple",_,aiV.lookup,bG.typeIs,?_⟩;exact Tx bG aC pl pu (by rw[hlen];exact hw) ⟨.ref a,H,I,rfl,q⟩
def CV(x:R)(lo ay:Option Int):M R:=
 match x with
 |.v (.tup xs)=>pure (.v (.tup (cutD xs lo ay)))|_=>bad
@[simp] def Ad(a:bl)(lo ay:oH)(σ:aO):M R:=do
 let x <-a σ
 let l <-lo σ
 let h <-ay σ
 CV x l h
theorem Rk{α:Type}{xs:List α}{lo ay:Option Int}(h:dE.cF xs.length 0 lo=0/\dE.cF xs.length xs.length ay=xs.length):cutD xs lo ay=xs:=by
 unfold cutD;rw[h.1,h.2,List.drop_zero,Nat.sub_zero,ak3 (ahM _)]
section
variable{X:aQ}{e st:Expr}{m:bl}{lo ay:Option Expr}{pq uN:oH}{pos du p:Pos}
theorem adP(he:bb X e m)(aj:rx X lo pq)(cb:rx X ay uN):bb X (.Subscript e (.Slice lo ay none du) pos) (Ad m pq uN):=⟨eh (KP (ab2.or My) he.un aj.un cb.un) fun ak H Q aX=>by
 obtain⟨O,σ,S,r,au,st,h,q⟩:=aX;obtain⟨x,S1,ae,ao⟩:=M.inv h;clear h;obtain⟨l,bj,ag,aa⟩:=M.inv ao;clear ao;obtain⟨u,hR,bK,h⟩:=M.inv aa;clear aa;refine⟨O,σ,S,x,S1,st,ae,fun aK gv H1 g1 aU a5 bq=>?_⟩;refine⟨aK,σ,S1,l,bj,aU,ag,fun bf aJ g2 cv=>?_⟩;refine⟨bf,σ,bj,u,hR,cv,bK,fun eu cG g3 gL=>?_⟩;have g:=(g1.trans g2).trans g3;have yO:=a5.go (g2.trans g3);unfold CV at h;split at h
 ·rename_i xs
  cases h;obtain⟨a,ys,rfl,bP,bh⟩:=yO
  by_cases c:dE.cF xs.length 0 l=0/\dE.cF xs.length xs.length u=xs.length
  ·refine .inl ⟨a,ys,rfl,bP,by rw[bh.len];exact c,?_⟩
   rw[Rk c]at q;exact q eu _ _ g gL ⟨a,ys,rfl,bP,bh⟩ trivial
  ·exact .inr ⟨a,ys,rfl,bP,by rw[bh.len];exact c,fun p aI=>q eu _ _ (g.trans (Go.eJ aI)) (gL.eJ aI) ⟨p,_,rfl,dp.of de,(bh.cut l u).go (Go.eJ aI)⟩ trivial⟩
 ·cases h⟩
end
omit [aF.a6]in
@[simp] theorem agL{l h:Option Int}:CV (.v (.tup xs)) l h=pure (.v (.tup (cutD xs l h))):=rfl
end aY
namespace aY
open PySem PySem.Spec aF
def EF(K:aP)(l:Addr):hM:=
  ⟨fun i H=>∃xs x,c3 K H l xs/\xs[i]? = some x,
   fun i H x H'=>∃v T,x=.ref T/\H T=none/\H'=upd H T (.tup [.int i,v])/\∀xs,c3 K H l xs->xs[i]? = some v,
   fun i H=>∃xs,c3 K H l xs/\xs.length<=i⟩
theorem ac7{eG:Nat}(gG:e≠it):Turn P w K (.Tuple elts eG dq) (EF K l) [e,it] e
  (fun i h=>(∃old,IsEnum h e it i old)/\h.IsListIter it l i) where
 mem:=by simp
 obj:=fun i h st b aa=>by
  obtain⟨⟨old,he⟩,o,ay,c,d⟩:=st;rcases ahP.mp aa with rfl | aa
  ·exact⟨_,he,fun v z=>by cases z⟩
  rcases ahP.mp aa with rfl | aa
  ·exact⟨o,ay,fun v z=>by rw[d]at z;cases z⟩
  cases aa
 keep:=fun i h h' ⟨⟨old,he⟩,ay⟩ k=>⟨⟨old,k e (by simp) _ he⟩,ay.at fun o e=>k it (by simp) o e⟩
 item:=by
  rintro X dM hw gf aE i pinZ s σ H E I hf ⟨⟨old,he⟩,ay⟩ ⟨xs,x,a4,ah⟩;subst dM hw gf;obtain⟨its,bI,pl,_⟩:=I.list a4;obtain⟨u,cb,dD⟩:=bI.get ah;have aH:=I.bF.fresh (ahM s.heap.objs.size);have x5:=ahY he;have x6:it<s.heap.objs.size:=by obtain⟨o,e,_⟩:=ay;exact ahY e
  refine wpAny_pyNext_enum_item he ay pl.isList (x:=u) (by simpa using cb) gG fun h' a1 a2 d6 gU az=>⟨_,rfl,wpAny_letOwnedTupleGo_enum a1 fun Ba Vk o2=>?_⟩
  have hg:Vals [V.int i,x] [.int i s.toks,u]:=.cons ⟨_,rfl⟩ (.cons dD .nil);have a8:Inv X pinZ σ (upd H s.heap.objs.size (.tup [.int i,x])) { s with heap:=s.heap.push { cls:=.type "tuple",data:=.seq #[.int i s.toks,u] },toks:=s.toks+1 }:=
   I.laid (t':=s.toks+1) (fun b u e=>ahI _ e) (ahM _) ⟨by rw[ah8];show 2<=_;decide,[.int i s.toks,u],hg,⟨_,ahU _ rfl,rfl,_,rfl⟩⟩
  have bM:Inv X pinZ σ (upd H s.heap.objs.size (.tup [.int i,x])) { s with heap:=Ba,toks:=s.toks+1 }:=by
   refine Inv.y6 (s:={ s with heap:=s.heap.push { cls:=.type "tuple",data:=.seq #[.int i s.toks,u] },toks:=s.toks+1 }) (ch:=[e,it]) (t':=s.toks+1) a8 (fun b o aa cJ=>?_) fun b aa=>?_
   ·have ne1:b≠e:=fun q=>aa (by simp[q])
    refine o2.extBut _ _ ne1 ?_;rcases Heap.get?_push_cases cJ with⟨rfl,rfl⟩ | cJ
    ·exact d6
    ·exact az b o ne1 (fun q=>aa (by simp[q])) cJ
   ·obtain⟨f0,f⟩:=hf b aa
    refine⟨?_,f⟩;rw[cX]
    ·exact f0
    ·rintro rfl
     simp at aa;rcases aa with h | h
     ·rw[<-h]at x5;exact aii _ x5
     ·rw[<-h]at x6;exact aii _ x6
  refine⟨.ref s.heap.objs.size,_,bM,rfl,⟨x,_,rfl,aH,rfl,fun s7 h'=>by rw[I.Cr h' a4];exact ah⟩,⟨⟨u,Vk⟩,a2.at fun o AH=>o2.extBut _ _ gG.symm AH⟩,fun b aa=>?_⟩;rw[cX]
  ·exact(hf b aa).1
  ·rintro rfl
   simp at aa;rcases aa with h | h
   ·rw[<-h]at x5;exact aii _ x5
   ·rw[<-h]at x6;exact aii _ x6
 done:=by
  rintro X dM hw gf aE i pinZ s σ H E I hf ⟨⟨old,he⟩,ay⟩ ⟨xs,a4,aj⟩;subst dM hw gf;obtain⟨its,bI,pl,_⟩:=I.list a4;have aq:=bI.length;refine wpAny_pyNext_enum_end (I.ok.hd aE) he ay pl.isList (by simp;omega) fun h' az=>⟨rfl,?_⟩
  exact Inv.y6 (ch:=[it]) (t':=s.toks) I (fun b o aa e=>az b o (fun q=>aa (by simp[q])) e) fun b aa=>hf b (by rw[aij.mp aa];simp)
 self:=fun _ _ _ _ _ ⟨⟨_,he⟩,_⟩ h=>wpAny_pyIter_enum he h
def IB(K:aP)(b0:fW):TI:=fun σ H R=>b0 σ H fun vs H1=>∃l,vs=[.ref l]/\(∃xs,c3 K H1 l xs)/\R (EF K l) H1
theorem KS{X:aQ}{elts:List Expr}{eG:Nat}{dq:Pos}{p pos:Pos}(aS:d3 X "enumerate")(hm:X.mg "enumerate"=none)(ao:e5 X [a] b0)(aC:ahK [a] X.env=[(false,eval a X.env)]:=by rfl) :
  jU X (.Tuple elts eG dq) (.Call (.Name "enumerate" p) [a] [] pos) (IB X.K b0):=by
 intro pinZ s σ H R I h;refine amP (pb I aS hm PyProof.Rows.boot_enumerate (ajI (bR (ao pos pinZ s σ H _ I h) fun us s1 ⟨vs,H1,a8,bu,ba⟩=>?_) (by rw[aC];rfl) (by rfl)));obtain⟨l,e,⟨xs,ah⟩,q⟩:=ba;subst e;obtain⟨u,rfl,r⟩:=vals1 bu;cases r;obtain⟨its,bI,pl,_⟩:=a8.list ah;refine call_enumerate_list pl.isList fun h' a1 a2 d6 az=>?_
 refine wpAny_pyIter_enum (s:={ s1 with heap:=h' }) a1 ?_;refine⟨s1.heap.objs.size+1,[s1.heap.objs.size+1,s1.heap.objs.size],_,_,H1,rfl,a8.kept (t':=s1.toks) az,ac7 (e:=s1.heap.objs.size+1) (it:=s1.heap.objs.size) (Nat.succ_ne_self _),⟨⟨_,a1⟩,a2⟩,fun c aE=>?_,q⟩;have le:s1.heap.objs.size<=c:=by
  simp at aE;rcases aE with rfl | rfl
  ·exact aj6 _ _
  ·exact ahM _
 exact a8.nK le (a8.bF.fresh le)
variable[aF.a6]
def hW(k:Nat):List D->List D
 |[]=>[]
 |x::xs=>.tup [.int (k:Nat),x]::hW (k+1) xs
theorem Hd{xs:List D}:∀{k j:Nat}{d:D}{ds:List D},(hW j xs).drop k=d::ds->∃x,xs[k]? = some x/\d=.tup [.int ((j+k:Nat):Int),x]/\(hW j xs).drop (k+1)=ds:=by
 induction xs with
 |nil=>intro k j d ds e;simp[hW]at e|cons x xs a9=>
  intro k j d ds e
  cases k with
  |zero=>
   simp only[hW,List.drop_zero]at e;cases e;exact⟨x,rfl,rfl,rfl⟩
  |succ k=>
   obtain⟨y,a,b,c⟩:=a9 (k:=k) (j:=j+1) (by simpa[hW]using e);refine⟨y,by simpa using a,?_,by simpa[hW]using c⟩;rw[b,show j+1+k=j+(k+1)by omega]
theorem AG:∀(xs:List D)(j:Nat),(hW j xs).length=xs.length
 |[],_=>rfl| x::xs,j=>by show(hW (j+1) xs).length+1=xs.length+1;rw[AG xs]
@[simp] def wI(is:List Nat)(ms:cL)(b:a0)(σ:aO):M fm:=do
 let rs <-ms σ
 match rs with
 |[.fr xs]=>gc (lp is b) (hW 0 xs) σ|_=>bad
theorem Tg{is:List Nat}:∀D ak H,jj K mg (wI is ms b) D ak H->pH (IB K (mh K mg ms)) (oW K is.length (ht is)) (jj K mg b) D ak H:=by
 rintro D ak H ⟨O,σ,S,a7,au,st,h,q⟩;obtain⟨rs,S1,ae,h⟩:=M.inv h;split at h
 ·rename_i xs
  refine⟨O,σ,S,_,S1,st,ae,fun aK vs H1 g1 aU bo nn=>?_⟩;obtain⟨v1,bu,rfl,a5,re⟩:=bo;cases re;obtain⟨bP,us,rfl,l,t,r⟩:=a5;have s1:mE false K (bW H aK) H1 bP us:=.inl ⟨.inl l,.inl (rP (nn.1 bP rfl) t)⟩;have a1:a_ K mg (bW H aK) H1 xs us:=r.da (il _ _);have oj:=aU.bW H;refine⟨bP,rfl,⟨us,s1.c9⟩,?_⟩;refine⟨fun k m cD H'=>m=(hW 0 xs).length-k/\∃ai σ' fI,b_ K mg ai σ' fI cD H'/\dP (bW H aK) ai H1 H'/\ek σ σ' ak cD/\(gc (lp is b) ((hW 0 xs).drop k) σ').run fI=.ok a7 au,⟨_,rfl,_,σ,S1,oj,dP.refl _ _,ek.refl _ _,h⟩,?_⟩;rintro k m cD H' ⟨rfl,ai,σ',fI,b3,g',kp,h⟩;have qW:=mE.aB g' s1
  cases e:(hW 0 xs).drop k with
  |nil=>
   rw[e]at h;cases h;refine .inl ⟨⟨us,qW.c9,?_⟩,q ai cD H' (g1.bW.aB.trans g') b3 kp⟩;have:=congrArg ai8 e;rw[aiA,AG,aiy]at this;rw[a1.len];omega
  |cons d lK=>
   obtain⟨bV,aq,rfl,cf⟩:=Hd e;obtain⟨u,hc,dD⟩:=(a_.aB g' a1).get aq;have e_:k<(hW 0 xs).length:=by
    have:=congrArg ai8 e;rw[aiA,ahX]at this;omega
   rw[e]at h;obtain⟨f1,bj,ag,h⟩:=M.inv h;unfold lp at ag;dsimp only at ag
   by_cases c:[aY.D.int ((0+k:Nat):Int),bV].length=is.length
   ·rw[if_pos c]at ag
    refine .inr ⟨⟨us,u,qW.c9,hc⟩,fun fl aJ=>∃bf c6 bj,b_ K mg bf c6 bj fl aJ/\dP (bW H aK) bf H1 aJ/\ek σ c6 ak fl/\(gc (lp is b) ((hW 0 xs).drop (k+1)) c6).run bj=.ok a7 au,?_,fun x aJ ib=>?_⟩
    ·rintro fl aJ ⟨bf,c6,bj,fb,d2,kb,kR⟩
     exact⟨_,by omega,rfl,bf,c6,bj,fb,d2,kb,kR⟩
    ·obtain⟨e2,T,rfl,eX,rfl,jH⟩:=ib
     have l_:=jH us qW.c9;rw[hc]at l_;cases l_;have fM:Go ai ai H' (upd H' T (.tup [.int k,u])):=Go.eJ eX;refine⟨T,[.int k,u],rfl,dp.of de,by rw[<-c];rfl,vD (ds:=[.int ((0+k:Nat):Int),bV]) (b3.eJ eX) ⟨.int k,[u],rfl,by rw[akU];rfl,u,[],rfl,dD.go fM,rfl⟩ c fun jm jN br=>?_⟩;refine⟨ai,_,fI,f1,bj,jN,ag,?_⟩
     cases f1 with
     | bq c6=>exact fun bf fl aJ g2 cv eF=>⟨bf,c6,bj,cv,g'.trans (fM.aB.trans g2),kp.trans (br.trans eF),by rw[cf];exact h⟩
     | b' c6=>exact fun bf fl aJ g2 cv eF=>⟨bf,c6,bj,cv,g'.trans (fM.aB.trans g2),kp.trans (br.trans eF),by rw[cf];exact h⟩
     |eP c6=>cases h;exact fun bf fl aJ g2 cv eF=>q bf fl aJ (g1.bW.aB.trans (g'.trans (fM.aB.trans g2))) cv (kp.trans (br.trans eF))
     |cS r=>cases h;exact fun bf v aJ g2 cN aD b4=>q bf v aJ (g1.bW.aB.trans (g'.trans (fM.aB.trans g2))) cN aD b4
   ·rw[if_neg c]at ag;cases ag
 ·cases h
theorem Ri{X:aQ}{pos dq:Pos}{is:List Nat}{ax:List Expr}{k:Nat}{p cM:Pos}{a:Expr}{ms:cL}{body:List Stmt}{b:a0}(aI:akA (model X.prog X.w) X.A X.env X.dA)(aE:X.calm=true)(kx:d3 X "enumerate")(hm:X.mg "enumerate"=none)(ao:vR X [a] ms)(aS:jT X ax (ht is))(aa:pR X body b)
  (aH:(ah4 ax X.env).length=is.length:=by rfl) (eE:(ah4 ax X.env).findIdx? (·.1)=none:=by rfl)
  (aC:∀x,aip (.Call (.Name "enumerate" p) [a] [] cM) X.env x=pure x:=by intro _;rfl) (ky:ahK [a] X.env=[(false,eval a X.env)]:=by rfl) :
  zt X (.For (.Tuple ax k dq) (.Call (.Name "enumerate" p) [a] [] cM) body [] pos) (wI is ms b):=
 gh (sD aI aE (KS kx hm ao ky) (qT aE aS aH eE) aa aC) Tg
theorem ad3{X:aQ}{pos dq:Pos}{is:List Nat}{ax:List Expr}{k:Nat}{p cM:Pos}{a:Expr}{ms:cL}{body:List Stmt}{b:a0}(aI:akA (model X.prog X.w) X.A X.env X.dA)(aE:X.calm=true)(kx:d3 X "enumerate")(hm:X.mg "enumerate"=none)(ao:gm X [a] ms)(aS:jT X ax (ht is))(aa:fK X body b)
  (aH:(ah4 ax X.env).length=is.length:=by rfl) (eE:(ah4 ax X.env).findIdx? (·.1)=none:=by rfl)
  (aC:∀x,aip (.Call (.Name "enumerate" p) [a] [] cM) X.env x=pure x:=by intro _;rfl) (ky:ahK [a] X.env=[(false,eval a X.env)]:=by rfl) :
  eM X (.For (.Tuple ax k dq) (.Call (.Name "enumerate" p) [a] [] cM) body [] pos) (wI is ms b):=⟨Ri aI aE kx hm ao.un aS aa.un aH eE aC ky⟩
end aY
namespace aY
open PySem PySem.Spec aF
def rk(m:fq):aO->N Bool:=fun σ=>do
 let r <-m σ
 r.q7.up
def rj(a:aO->N Bool):aO->N Bool:=fun σ=>do
 let t <-a σ
 pure (!t)
def ahD(is:List Nat)(it:eS)(b:bp):bp:=Eg (fun d σ=>match d with
  |.tup ax=>if ax.length=is.length then b (ix is ax σ)else fi| _=>fi) it
def Ef(is:List Nat)(ms:cL)(b:bp):bp:=fun σ=>do
 let rs <-(ms σ).up
 match rs with
 | [.fr xs]=>kO (fun d σ=>match d with
  |.tup ax=>if ax.length=is.length then b (ix is ax σ)else fi| _=>fi) (hW 0 xs) σ
 |_=>fi
variable[aF.a6]
section
variable{X:aQ}{o e i f value a b:Expr}{ax:List Expr}{c:Str}{ns:List Str}{mo mk:bl}{ms:cL}{mv NP:fq}{b0:aO->N Bool}{pos pos' apos cM uw:Pos}{g:List D->List R->M (R×List D)}{r:V->List V->av->cZ->Prop}{name:Str}{id:String}
theorem aeF(T:oC X.K X.mg c ns){f:Str}(hf:f∈ns)(bc:bb X o mo)(bz:fx X value mv)(aC:aje value (some (.Attribute o f pos')) pos.line X.env=pure false:=by rfl):f_ X (.Assign [.Attribute o f pos'] value pos) (fa c f mo mv):=⟨gh (Z4 bc.un bz.un aC) fun D ak H aX=>by
 obtain⟨O,σ,S,a7,au,st,h,q⟩:=aX;obtain⟨r,S1,ae,ao⟩:=N.inv h;clear h;obtain⟨d,bj,ag,aa⟩:=N.inv ao;clear ao;obtain⟨x,hR,bK,aE⟩:=N.inv aa;clear aa;obtain⟨bA,oM,dt,h⟩:=N.inv aE;clear aE;refine⟨O,σ,S,r,S1,st,ae,fun aK v H1 g1 aU bo nn=>?_⟩;obtain⟨cW,rfl⟩:=oT (H₀:=H) bo nn ag;obtain rfl:=(mo σ).ei _ _ _ bK;refine⟨bW H aK,σ,_,x,_,(aU.bW H).s3,bK,fun bf gv aJ g2 cv a5 bq=>?_⟩;have DS:=(aU.bW H).go g2 cv.b7;obtain⟨n,b,rfl,rfl,aH,sn,g0⟩:=sv cv a5 dt;obtain rfl:=(fZ (.v (.ref n))).ei _ _ _ dt;split at h
 ·rename_i c' aV
  split at h
  ·rename_i qj
   obtain⟨rfl,Bc⟩:=qj;cases h;obtain⟨C,bV,jC,dW,ci,h7⟩:=g0;obtain⟨ly,aq,aD,_,e8⟩:=T.ex;cases aq.symm.trans ci.1;refine⟨b,C,bV,jC,rfl,dW,aD,e8 f hf,by rw[h7.len];exact Bc,?_⟩;obtain⟨hk,gj⟩:=DS.write (u':=.ins C bV (h6 f v jC)) (o:=.bA c' (iS f d aV)) aH dW (by rintro(⟨_,z⟩ | ⟨_,_,z⟩)<;>cases z) (by intro _ z;cases z) (by intro _ z;cases z) fun k=>
    ⟨C,bV,_,de,ci,(K5 (f:=f) (v:=v) jC).symm▸dR.iS f (k _ _ (Rep.go g2 cW)) ⟨h7.1,h7.2.imp k⟩⟩
   exact q bf ak _ ((g1.bW.trans g2.dJ).trans hk).dV gj
  ·cases h
 ·cases h⟩
theorem aeG(cb:X.A.units+64<cLine)(bc:bb X o mo)(az:bb X i mk)(bz:fx X value mv)(aC:aje value (some (.Subscript o i pos')) pos.line X.env=pure false:=by rfl):f_ X (.Assign [.Subscript o i pos'] value pos) (jl mo mk mv):=⟨gh (KZ (by omega) bc.un az.un bz.un aC) fun D ak H aX=>by
 obtain⟨O,σ,S,a7,au,st,h,q⟩:=aX;obtain⟨r,S1,ae,ao⟩:=N.inv h;clear h;obtain⟨d,bj,ag,aa⟩:=N.inv ao;clear ao;obtain⟨x,hR,bK,aE⟩:=N.inv aa;clear aa;obtain⟨y,ru,eW,hd⟩:=N.inv aE;clear aE;obtain⟨bA,oM,dt,h⟩:=N.inv hd;clear hd;refine⟨O,σ,S,r,S1,st,ae,fun aK v H1 g1 aU bo nn=>?_⟩;obtain⟨cW,rfl⟩:=oT (H₀:=H) bo nn ag;obtain rfl:=(mo σ).ei _ _ _ bK;obtain rfl:=(mk σ).ei _ _ _ eW;refine⟨bW H aK,σ,_,x,_,(aU.bW H).s3,bK,fun bf gv aJ g2 cv a5 bq=>?_⟩;refine⟨bf,σ,_,y,_,cv,eW,fun eu sV cG g3 gL bt Kp=>?_⟩;have tV:=g2.trans g3;have acm:=(aU.bW H).go tV gL.b7;obtain⟨n,b,rfl,rfl,aH,sn,g0⟩:=sv gL (a5.go g3) dt;obtain rfl:=(fZ (.v (.ref n))).ei _ _ _ dt;split at h
 ·rename_i aw dz
  split at h
  ·rename_i key hb
   split at h
   ·rename_i Bc
    cases h;obtain⟨dm,dW,h7⟩:=g0;obtain rfl:=B2 (show Rep X.K X.mg eu cG dz sV from bt) hb;refine⟨b,_,rfl,oD.k (k:=key) dW (by rw[h7.len];exact eB (ai5 Bc)),?_⟩;obtain⟨hk,gj⟩:=acm.write (u':=.e7 (putK dm key v)) (o:=.d_ (gp aw key d)) aH dW (by rintro(⟨_,z⟩ | ⟨_,_,z⟩)<;>cases z) (by intro _ z;cases z) (by intro _ z;cases z) fun k=>
     ⟨_,de,dR.put key (k _ _ (Rep.go tV cW)) ⟨h7.1,h7.2.imp k⟩⟩
    exact q eu ak _ ((g1.bW.trans tV.dJ).trans hk).dV gj
   ·cases h
  ·cases h
 ·cases h⟩
theorem aeI{lu}(cb:X.A.units+64<cLine)(bc:bb X o mo)(az:gm X ax ms)(bz:fx X value mv)(aC:aje value (some (.Subscript o (.Tuple ax lu uw) pos')) pos.line X.env=pure false:=by rfl):f_ X (.Assign [.Subscript o (.Tuple ax lu uw) pos'] value pos) (vI mo ms mv):=⟨gh (KZ (by omega) bc.un (Df az.un) bz.un aC) fun D ak H aX=>by
 obtain⟨O,σ,S,a7,au,st,h,q⟩:=aX;obtain⟨r,S1,ae,ao⟩:=N.inv h;clear h;obtain⟨d,bj,ag,aa⟩:=N.inv ao;clear ao;obtain⟨x,hR,bK,aE⟩:=N.inv aa;clear aa;obtain⟨rs,ru,eW,hd⟩:=N.inv aE;clear aE;obtain⟨bA,oM,dt,h⟩:=N.inv hd;clear hd;refine⟨O,σ,S,r,S1,st,ae,fun aK v H1 g1 aU bo nn=>?_⟩;obtain⟨cW,rfl⟩:=oT (H₀:=H) bo nn ag;obtain rfl:=(mo σ).ei _ _ _ bK;obtain rfl:=(ms σ).ei _ _ _ eW;refine⟨bW H aK,σ,_,x,_,(aU.bW H).s3,bK,fun bf gv aJ g2 cv a5 bq=>?_⟩;refine⟨bf,σ,_,rs,_,cv,eW,fun eu vs cG g3 gL jd Kl=>?_⟩;have tV:=g2.trans g3;obtain⟨n,b,rfl,rfl,aH,sn,g0⟩:=sv gL (a5.go g3) dt;obtain rfl:=(fZ (.v (.ref n))).ei _ _ _ dt;split at h
 ·rename_i aw key hb
  split at h
  ·rename_i qj
   cases h;have ev:=B3 hb jd;refine⟨ai5 (eB (by rw[f6.len jd];exact qj.1)),fun p aI=>?_⟩;have mO:=tV.trans (Go.eJ (O:=eu) (u:=.tup vs) aI);have acn:=(aU.bW H).go mO (gL.eJ (u:=.tup vs) aI).b7;obtain⟨dm,dW,h7⟩:=g0;have HT:upd cG p (.tup vs) b=some (.g_ dm):=by rw[cX (j7 dW aI)];exact dW
   have Lo:dR X.K X.mg eu (upd cG p (.tup vs)) aw dm:=⟨h7.1,h7.2.go (Go.eJ aI)⟩;refine⟨b,_,rfl,oD.t (k:=key) HT (by rw[<-ev];exact de) (by rw[h7.len];exact eB (ai5 qj.2)),?_⟩;obtain⟨hk,gj⟩:=acn.write (u':=.g_ (putK dm key v)) (o:=.dT (gp aw key d)) aH HT (by rintro(⟨_,z⟩ | ⟨_,_,z⟩)<;>cases z) (by intro _ z;cases z) (by intro _ z;cases z) fun k=>
    ⟨_,de,dR.put key (k _ _ (Rep.go mO cW)) ⟨Lo.1,Lo.2.imp k⟩⟩
   exact q eu ak _ ((g1.bW.trans mO.dJ).trans hk).dV gj
  ·cases h
 ·cases h⟩
theorem aeM(slot:PySem.Slot "list" name id)(qq:typeOf (.builtin id)=pure (.type "method_descriptor"))(hm:v8 X id r)(hf:tb X.K X.mg r g)(bc:bb X o mo)(ao:gm X (e::ax) ms)
  (nQ:ajr o name X.env (eval o X.env)=eval o X.env:=by rfl)
  (ue:((aie cM (ahK (e::ax) X.env)).all (fun x=>!x.1)&&(ajv cM (ai6 [] X.env)).all (fun x=>x.1.isSome)
&&decide ((e::ax).length+([]:List akY).length+(if([]:List akY).isEmpty then 0 else 1)<30))=true:=by rfl)
  (nX:(apos.endLine==cM.line)=true:=by rfl) (aC:ahK (e::ax) X.env=(false,eval e X.env)::ahK ax X.env:=by rfl) (iK:(aie cM (ahK ax X.env)).any (·.1)=false:=by rfl)
  (l0:aje (.Call (.Attribute o name apos) (e::ax) [] cM) none pos.line X.env=pure false:=by rfl):f_ X (.Expr (.Call (.Attribute o name apos) (e::ax) [] cM) pos) (rh g mo ms):=
 ⟨gh (Dj (KI amj slot qq hm bc.un ao.un nQ ue nX aC iK) l0) fun D ak H aX=>by
  obtain⟨O,σ,S,a7,au,st,h,q⟩:=aX;obtain⟨x,S1,ae,ao⟩:=N.inv h;clear h;obtain⟨rs,bj,ag,aa⟩:=N.inv ao;clear ao;obtain⟨bA,oM,dt,h⟩:=N.inv aa;clear aa;obtain rfl:=(mo σ).ei _ _ _ ae;obtain rfl:=(ms σ).ei _ _ _ ag;refine⟨O,σ,_,x,_,st.s3,ae,fun aK gv H1 g1 aU a5 bq=>?_⟩;obtain⟨n,b,rfl,rfl,aH,sn,g0⟩:=sv aU a5 dt;obtain rfl:=(fZ (.v (.ref n))).ei _ _ _ dt;split at h
  ·rename_i xs
   obtain⟨⟨b4,ys⟩,ru,eW,h⟩:=N.inv h;cases h;obtain⟨zs,dW,bh⟩:=g0;refine⟨.inl ⟨rfl,_,c3.of dW⟩,aK,σ,_,rs,_,aU,ag,fun bf vs aJ g2 cv bo nn=>?_⟩;have rZ:bf.bC[n]? = some b:=by rw[g2.bC];exact aH
   have HS:=g2.same.at' _ _ dW;refine hf bf aJ H1 b xs zs rs vs _ _ _ ys _ HS (bh.go g2) bo nn eW fun v ws ax rw _=>?_
   subst ax;have DS:=(st.go (g1.trans g2) cv.b7).bW H1;obtain⟨hk,gj⟩:=DS.write (u':=.lst ws) (o:=.lst ys) rZ HS (by rintro(⟨_,z⟩ | ⟨_,_,z⟩)<;>cases z) (by intro _ z;cases z) (by intro _ z;cases z) fun k=>⟨_,de,rw.imp k⟩
   exact q _ ak _ ((g1.trans g2.bW).dJ.trans hk).dV gj
  ·cases h⟩
theorem aeU(ao:fx X a NP)(he:∀whole,isTrue a X.env whole=(do let v <-whole;akt a.pos;ajz [v] (truthy v)):=by intro _;rfl):nB X a (rk NP):=⟨qV (K4 ao.un he) fun ak H Q aX=>by
 obtain⟨O,σ,S,t,au,st,h,q⟩:=aX;obtain⟨x,S1,ae,h⟩:=N.inv h;obtain⟨rfl,rfl⟩:=vB h;exact⟨O,σ,S,_,_,st,ae,fun ai v H' g b3 bo _=>⟨t,bo,q ai H' g b3⟩⟩⟩
theorem aeS(ao:nB X a b0):nB X (.UnaryOp .Not a pos) (rj b0):=⟨qV (K3 ao.un) fun ak H Q aX=>by
 obtain⟨O,σ,S,r,au,st,h,q⟩:=aX;obtain⟨t,S1,ae,h⟩:=N.inv h;cases h;exact⟨O,σ,S,t,_,st,ae,fun aK H1 g1 aU=>q aK H1 g1 aU⟩⟩
end
section
variable{K:aP}{mg:bk}
theorem Nu{O:a3}:∀{is:List Nat}{ds:List D}{xs:List V}{σ:aO}{ak:St}{Q:St->av->Prop},d5 K mg O σ S ak H->a_ K mg O H ds xs->ds.length=is.length->(∀cD,d5 K mg O (ix is ds σ) S cD H->Q cD H)->ht is xs ak H Q
 |[],[],xs,σ,ak,Q,st,bh,aj,q=>⟨bh,q ak st⟩
 | [],_::_,xs,σ,ak,Q,st,bh,aj,q=>by cases aj
 | _::_,[],xs,σ,ak,Q,st,bh,aj,q=>by cases aj
 |i::is,d::ds,xs,σ,ak,Q,st,bh,aj,q=>by
  obtain⟨y,r,e,bt,bo⟩:=bh;exact⟨y,r,e,Nu (is:=is) (st.set (s:=.val d) (fun xs z=>by cases z) ⟨y,rfl,bt⟩) bo (by simpa using aj) q⟩
variable{X:aQ}{pos dq p cM:Pos}{is:List Nat}{ax:List Expr}{k:Nat}{a:Expr}{ms:cL}{body:List Stmt}{b:bp}
theorem aeK(aI:akA (model X.prog X.w) X.A X.env X.dA)(aE:X.calm=true)(kx:d3 X "enumerate")(hm:X.mg "enumerate"=none)(ao:gm X [a] ms)(aS:jT X ax (ht is))(aa:ju X body b)
  (aH:(ah4 ax X.env).length=is.length:=by rfl) (eE:(ah4 ax X.env).findIdx? (·.1)=none:=by rfl)
  (aC:∀x,aip (.Call (.Name "enumerate" p) [a] [] cM) X.env x=pure x:=by intro _;rfl) (ky:ahK [a] X.env=[(false,eval a X.env)]:=by rfl) :
  f_ X (.For (.Tuple ax k dq) (.Call (.Name "enumerate" p) [a] [] cM) body [] pos) (Ef is ms b):=⟨gh (sD aI aE (KS kx hm ao.un ky) (qT aE aS aH eE) aa.un aC) fun D ak H aX=>by
 obtain⟨O,σ,S,a7,au,st,h,q⟩:=aX;obtain⟨rs,S1,ae,h0⟩:=N.inv h;clear h;obtain rfl:=(ms σ).ei _ _ _ ae;split at h0
 ·rename_i xs
  refine⟨O,σ,_,_,_,st.s3,ae,fun aK vs H1 g1 aU bo nn=>?_⟩;obtain⟨v1,bu,rfl,a5,re⟩:=bo;cases re;obtain⟨bP,us,rfl,l,t,r⟩:=a5;have lw:kY X.K (bW H aK) H1 bP us:=.inl ⟨.inl l,.inl (rP (nn.1 bP rfl) t),aU.b7.b8.no t (by intro z;cases z)⟩;have a1:a_ X.K X.mg (bW H aK) H1 xs us:=r.da (il _ _);have oj:=(st.go g1 aU.b7).bW H;refine⟨bP,rfl,⟨us,lw.v.c9⟩,JG oj (fun ai H' g=>⟨us,(lw.dV g).v.c9,by rw[AG,a1.len];exact ahM _⟩) (fun j d ai H' σ' fI cD f bj dK g' b3 ag=>?_) h0 (q.dV g1.bW.aB.dV)⟩;have JL:=(lw.dV g').v.c9;have SS:(hW 0 xs).drop j=d::(hW 0 xs).drop (j+1):=by
   obtain⟨ba,bU⟩:=ahN.mp dK;rw[<-bU];exact List.drop_eq_getElem_cons ba
  obtain⟨bV,aq,rfl,_⟩:=Hd SS;obtain⟨u,hc,dD⟩:=(a1.dV g' oj.s3.b7.b8).get aq;dsimp only at ag
  by_cases c:[aY.D.int ((0+j:Nat):Int),bV].length=is.length
  ·rw[if_pos c]at ag
   refine⟨⟨us,u,JL,hc⟩,fun x aJ R ib dB=>?_⟩;obtain⟨e2,T,rfl,eX,rfl,jH⟩:=ib;have l_:=jH us JL;rw[hc]at l_;cases l_;have fM:Go ai ai H' (upd H' T (.tup [.int j,u])):=Go.eJ eX;exact⟨T,[.int j,u],rfl,dp.of de,by rw[<-c];rfl,Nu (ds:=[.int ((0+j:Nat):Int),bV]) (b3.go fM (b3.s3.eJ eX).b7) ⟨.int j,[u],rfl,by rw[akU];rfl,u,[],rfl,dD.go fM,rfl⟩ c fun jm jN=>dB _ _ _ fM.aB.dV jN ag⟩
  ·rw[if_neg c]at ag;cases ag
 ·cases h0⟩
end
theorem Xx{P:ah1}{w:World}{K:aP}{mg:bk}{base:Heap}{f:Addr}{fd:aiW}{k:Nat}{mf:fL}(F:e3 P w K mg base ej k f fd ["script"] (d0 K mg mf))
  (h:∀ns:List Int,ns.length<=63->∃au,(mf [.lst (ns.map D.int)]).run []=.ok (.v (.aA true)) au):e3 P w K mg base ej k f fd ["script"] (vt K):=by
 refine F.imp fun vs H Q E aX=>?_
 obtain⟨a,ns,e,cq,aH,cU,q⟩:=aX;subst e;obtain⟨au,h'⟩:=h ns aH;refine⟨⟨fun _=>.free,[]⟩,[.lst (ns.map D.int)],_,[],au,⟨fun a ao=>absurd rfl ao,cU,List.nodup_nil,fun a m=>by cases m⟩,f9.nil,rfl,⟨_,_,rfl,⟨a,_,rfl,cq.imp (fun z=>⟨z,by simp⟩) id,yM ns⟩,rfl⟩,h',fun ai v H' _ _ _ _ bo _=>?_⟩;cases(show v=.aA true from bo);exact q H'
end aY
namespace aY
open PySem PySem.Spec aF
def zb(br:List Key)(ms:iF):fq:=fun σ=>do
 let rs <-ms σ
 let ds <-(k3 rs).up
 if ds.length=br.length then(do
  let S <-tX
  putN (S++[.d_ (br.zip ds)])
  pure (.v (.ref S.length)))else fi
def vH(o:gR):fq:=fun _=>do
 let S <-tX
 putN (S++[o])
 pure (.v (.ref S.length))
theorem J7:∀{br:List Key}{vs:List V}{aw:List (Key×V)},br.Nodup->br.length=vs.length->(∀k∈br,∀p∈aw,p.1≠k)->pn aw (br.zip vs)=aw++br.zip vs
 |[],vs,aw,_,_,_=>by
  show aw=aw++_;rw[akq,ai7]
 | _::_,[],_,_,h,_=>by simp at h|k::br,v::vs,aw,eI,aj,aH=>by
  have aq:putK aw k v=aw++[(k,v)]:=by
   unfold putK;rw[if_neg];rw[List.any_eq_true];rintro⟨p,aI,e⟩;exact aH k (ah0 ..) p aI (by simpa using e)
  show pn (putK aw k v) (br.zip vs)=_;rw[aq,J7 (aiR.mp eI).2 (by simpa using aj),akr]
  ·rfl
  ·intro l2 nW p aI
   rcases aiL.mp aI with aI | aI
   ·exact aH l2 (ahR _ nW) p aI
   ·rw[aij]at aI
    subst aI;rintro rfl;exact(aiR.mp eI).1 nW
variable[aF.a6]
section
variable{K:aP}{mg:bk}{O:a3}{H H':av}{S:ck}{σ:aO}{ak:St}{p:Addr}{o:gR}
theorem d5.adopt(st:d5 K mg O σ S ak H)(np:p∉O.bC)(nl:∀i,O p≠.loc i)(same:∀b,b≠p->H' b=H b)(aI:H' p≠none)(kp:H' p=H p\/∀u,H p=some u->¬Fix u/\∀ys,u≠.lst ys)(lv:O p=.free\/O p=.out->∀u,H p=some u->(∀ys,u≠.lst ys)/\¬Fix u)(bO:TabsOk H->TabsOk H')
  (bA:(∀d v,Rep K mg O H d v->Rep K mg (hh O p) H' d v)->mD K mg (hh O p) H' p o):d5 K mg (hh O p) σ (S++[o]) ak H'/\(hh O p).bC[S.length]? = some p:=by
 have cE:=st.s3.b7;have aG:(hh O p).bC[S.length]? = some p:=by show(O.bC++[p])[S.length]? = _;rw[<-st.full,ah2 (ahM _),ajw];rfl
 have kr:cz O (hh O p) H H':=⟨fun b u e h _=>by
  by_cases cJ:b=p
  ·subst cJ
   rcases kp with kp | kp
   ·rw[kp];exact e
   ·obtain⟨gH,eF⟩:=kp u e
    exact h.elim (fun z=>absurd z.2.2.choose_spec (eF _)) fun z=>absurd z gH
  ·rw[same b cJ];exact e,fun b ys e f=>by
   rw[n9 (by rintro rfl;exact(lv (.inl f) _ e).1 ys rfl)];exact f,alG _ _⟩
 have f:∀d v,Rep K mg O H d v->Rep K mg (hh O p) H' d v:=fun _ _ z=>Rep.kr kr cE.b8 z
 have cW:∀{b:Addr}{ws:List V},fH H b (.lst ws)->(O b=.free\/O b=.out)->b≠p:=fun{b ws} h hf=>by
  rintro rfl;rcases h with h | ⟨x,h⟩
  ·exact(lv hf _ h).1 ws rfl
  ·exact(lv hf _ h).2 (.inr ⟨_,_,rfl⟩)
 have vd:∀{b:Addr}{ws:List V},b≠p->fH H b (.lst ws)->fH H' b (.lst ws):=fun{b ws} nb h=>by unfold fH;rw[same b nb];exact h
 refine⟨⟨⟨⟨fun b aa=>?_,bO cE.tabs,Ki cE np⟩,st.s3.len,fun i s e=>?_,fun n o' e=>?_⟩,?_,fun i zs e=>?_⟩,aG⟩
 ·by_cases cJ:b=p
  ·rw[cJ];exact aI
  ·rw[n9 cJ]at aa;rw[same b cJ];exact cE.has b aa
 ·have lo:=st.s3.loc i s e
  cases s with
  |emp=>exact trivial|val d=>obtain⟨v,q,r⟩:=lo;exact⟨v,q,f _ _ r⟩
  |dZ pC zs=>
         obtain⟨b,ws,q,n_,ct,r⟩:=lo;have nb:b≠p:=by rintro rfl;exact nl i n_
         exact⟨b,ws,q,(n9 nb).trans n_,by rw[same b nb];exact ct,r.imp f⟩
  | b1 zs=>obtain⟨b,ws,q,ct,r⟩:=lo;exact⟨b,ws,q,ct.imp (fun z=>⟨vd (cW z.1 z.2) z.1,by rw[n9 (cW z.1 z.2)];exact z.2⟩) id,r.imp f⟩
 ·by_cases aH:n<S.length
  ·rw[aic aH]at e
   obtain⟨b,aq,aD⟩:=st.s3.gM n o' e;have nb:b≠p:=by rintro rfl;exact np (aiw aq)
   exact⟨b,by show(O.bC++[p])[n]? = _;rw[aic (by rw[st.full];exact aH)];exact aq,aD.all f fun _ l _=>by rw[same b nb];exact l⟩
  ·rw[ah2 (by omega)]at e
   obtain rfl:n=S.length:=by
    have:=(ahN.mp e).1;simp at this;omega
   rw[ajw]at e;cases e;exact⟨p,aG,bA f⟩
 ·show(O.bC++[p]).length=_
  rw[ahS,ahS,st.full];rfl
 ·obtain⟨b,ws,q,ct,r⟩:=st.sU i zs e
  exact⟨b,ws,q,ct.imp (fun z=>⟨vd (cW z.1 z.2.1) z.1,by rw[n9 (cW z.1 z.2.1)];exact z.2.1,fun m=>(aiL.mp m).elim z.2.2 fun w=>cW z.1 z.2.1 (aij.mp w)⟩) id,r.imp f⟩
theorem fo.adopt{oI:a3}{H₀:av}(g:fo oI O H₀ H)(h0:H₀ p=none)(same:∀b,b≠p->H' b=H b)(bO:TabsOk H->TabsOk H'):fo oI (hh O p) H₀ H':=by
 have nb:∀{b:Addr},H₀ b≠none->b≠p:=fun h=>by rintro rfl;exact h h0
 exact⟨fun b o e h n=>by rw[same b (nb (jh e))];exact g.cells b o e h n,fun b aa=>(n9 (nb aa)).trans (g.own b aa),fun b aa=>by rw[same b (nb aa)];exact g.has b aa,
  fun b ps e=>by rw[same b (nb (jh e))];exact g.cU b ps e,fun t=>bO (g.bO t),g.bC.trans (alG _ _),fun b m=>(aiL.mp m).elim (g.new b) fun z=>.inr (by rw[aij.mp z];exact h0)⟩
end
section
variable{X:aQ}{e:Expr}{m:fq}{ms:iF}{pos:Pos}
theorem aeB(he:fx X e m):fx X e (nr m):=⟨eh he.un fun ak H Q aX=>by
 obtain⟨O,σ,S,r,au,st,h,q⟩:=aX;obtain⟨x,S1,ae,h0⟩:=N.inv h;clear h;refine⟨O,σ,S,x,S1,st,ae,fun aK v H1 g1 aU bo nn=>?_⟩;split at h0
 ·rename_i xs
  obtain⟨Oj,bj,ag,h⟩:=N.inv h0;clear h0;cases ag;cases h;obtain⟨a,ys,rfl,l,t,bh⟩:=bo;obtain⟨s1,aG⟩:=aU.adopt (H':=H1) (p:=a) (o:=.lst xs) (aU.s3.b7.b8.no t (by intro z;cases z)) (fun i z=>by rw[t]at z;cases z) (fun _ _=>rfl) (jh l) (.inl rfl) (fun z=>by rw[t]at z;rcases z with z | z<;>cases z) id fun f=>⟨ys,l,bh.imp f⟩
  exact q _ _ H1 (g1.adopt (nn a rfl) (fun _ _=>rfl) id) s1 ⟨a,rfl,aG⟩ trivial
 ·cases h0⟩
structure we(X:aQ)(pos:Pos)(keys:List (Option Expr))(values:List Expr)(br:List Key)(ms:iF):Prop where
 ex:∃j_,tm X pos keys values j_/\∀ak H (Q:List (V×V)->av->Prop),zf X.K X.mg ms ak H (fun vs H'=>Q ((br.zip vs).map fun kv=>(cw kv.1,kv.2)) H')->vy j_ ak H Q
theorem aeu:we X pos [] [] [] ml:=⟨[],Z1,fun ak H Q aX=>by
 obtain⟨O,σ,S,r,au,st,h,q⟩:=aX;cases h;exact q O [] H (Go.refl _ _).dJ st rfl trivial⟩
theorem aet{key:Str}{i:Nat}{iR:Pos}{v:Expr}(bz:fx X v m)(aG:we X pos keys values br ms) :
  we X pos (some (.Constant (.str key) i iR)::keys) (v::values) (.inr key::br) (jQ m ms):=by
 obtain⟨j_,ae,ag⟩:=aG.ex;refine⟨_,Z0 KQ bz.un ae,fun ak H Q ⟨O,σ,S,r,au,st,h,q⟩=>?_⟩;obtain⟨x,S1,aq,ao⟩:=N.inv h;clear h;obtain⟨xs,bj,aD,h⟩:=N.inv ao;clear ao;split at h
 ·rename_i eE
  cases h;show zg _ _ _ ak H fun y aJ=>vy j_ ak aJ fun ps cG=>Q ((V.str key,y)::ps) cG
  refine⟨O,σ,S,x,S1,st,aq,fun aK y H1 g1 aU a5 bq=>ag _ _ _ ?_⟩;exact⟨aK,σ,S1,xs,_,aU,aD,fun bf vs aJ g2 cv rs ns=>q bf (y::vs) aJ (g1.trans g2) cv ⟨y,vs,rfl,a5.dJ g2 aU.s3.b7.b8 eE,rs⟩ ⟨bq,ns.dJ g1⟩⟩
 ·cases h
theorem aew{keys:List (Option Expr)}{values:List Expr}{br:List Key}(h:we X pos keys values br ms)(hall:keys.all (·.isSome)=true:=by rfl)(aj:keys.length=values.length:=by rfl)(h0:keys≠[]:=by simp)(Bd:keys.length<=15:=by decide)
  (az:br.Nodup/\br.length<=15:=by decide +kernel):fx X (.Dict keys values pos) (zb br ms):=by
 obtain⟨j_,ae,ag⟩:=h.ex;refine⟨eh (Zv ae hall aj h0 Bd) fun ak H Q ⟨O,σ,S,t,au,st,h,q⟩ a ao=>ag _ _ _ ?_⟩;obtain⟨rs,S1,aq,aa⟩:=N.inv h;clear h;obtain⟨ds,bj,aD,h⟩:=N.inv aa;clear aa;obtain rfl:=(k3 rs).ei _ _ _ aD;have fM:Go O O H (upd H a (.e7 [])):=Go.eJ ao;refine⟨O,σ,S,rs,bj,st.go fM (st.s3.eJ ao).b7,aq,fun bf vs aJ g2 cv bo nn=>?_⟩;obtain⟨cW,_⟩:=wX (H₀:=upd H a (.e7 [])) bo nn aD;have mR:aJ a=some (.e7 []):=g2.cells _ _ de (.inl (st.s3.b7.CN ao));have Yf:a∉bf.bC:=fun m=>(g2.new a m).elim (st.s3.b7.CN ao) (by rw[de];intro z;cases z)
 split at h
 ·rename_i hlen
  cases h;have hg:br.length=vs.length:=by rw[cW.len,hlen]
  have hm:pn [] (br.zip vs)=br.zip vs:=J7 az.1 hg (fun _ _ p aI=>by cases aI);refine⟨mR,br.zip vs,rfl,by rw[alo];omega,?_⟩;rw[hm];have gL:=cv.bW (upd H a (.e7 []));have YE:bW (upd H a (.e7 [])) bf a=.free:=by rw[xe (by rw[de];intro z;cases z),g2.own a (by rw[de];intro z;cases z)];exact st.s3.b7.free ao
  have bO:TabsOk aJ->TabsOk (upd aJ a (.e7 (br.zip vs))):=fun t=>t.put _ (fun ps=>by rw[mR];intro z;cases z) (fun q=>by rw[mR];intro z;cases z)
  have hB:∀b,b≠a->upd aJ a (.e7 (br.zip vs)) b=aJ b:=fun b nb=>cX nb
  have CP:∀u,aJ a=some u->¬Fix u/\∀ys,u≠.lst ys:=fun u e=>by rw[mR]at e;cases e;exact⟨(by rintro(⟨_,z⟩ | ⟨_,_,z⟩)<;>cases z),fun _ z=>by cases z⟩
  obtain⟨s1,aG⟩:=gL.adopt (H':=upd aJ a (.e7 (br.zip vs))) (p:=a) (o:=.d_ (br.zip ds)) Yf (fun i z=>by rw[YE]at z;cases z) hB (by rw[de];intro z;cases z) (.inr CP) (fun _ u e=>⟨(CP u e).2,(CP u e).1⟩) bO fun f=>
   ⟨br.zip vs,de,by
    rw[ak9 (ajn hlen.symm),ak9 (ajn hg)],by
    rw[List.map_snd_zip (ajn hlen),List.map_snd_zip (ajn hg.symm)];exact cW.imp f⟩
  exact q _ _ _ ((fM.dJ.trans g2.bW).adopt ao hB bO) s1 ⟨a,rfl,aG⟩ trivial
 ·cases h
theorem Su(aI:∀{O:a3}{H:av}{p:Addr},mD X.K X.mg O (upd H p u) p o)(he:bQ X e fun σ H Q=>∀p,H p=none->Q (.ref p) (upd H p u)):fx X e (vH o):=⟨eh he fun ak H Q aX p aH=>by
 obtain⟨O,σ,S,r,au,st,h,q⟩:=aX;cases h;obtain⟨g,d,eK,a7⟩:=alloc (o:=o) st.s3.b7 st.s3.gM st.full aH (q0 aH u) (by rw[de];intro z;cases z) fun _=>aI
 refine q _ _ _ g (st.dJ g d eK a7) ⟨p,rfl,?_⟩ trivial;show(O.bC++[p])[S.length]? = _;rw[<-st.full,ah2 (ahM _),ajw];rfl⟩
theorem aex:fx X (.Dict [] [] pos) (vH (.dT [])):=Su ⟨[],de,rfl,rfl⟩ Zw
end
end aY
namespace aY
open PySem PySem.Spec aF
variable[aF.a6]
structure zu(K:aP)(x qual:Str)(st:Stmt)(f:Addr)(fd:aiW):Prop where
 ex:∃(dw:Value)(c1:Option Addr)(p9 cw doc pm:Value)(an:Option Addr)(bw b':Value)(fj:Array (Option Value)),
  fd=ajt x qual (hV st) (fg st) (bH st) p9 cw doc pm an bw b'/\K.lookup f=some ⟨dw,c1,.func fd,fj⟩/\alu K bw qual=true
 kp:ajG K (.ref f)=true
theorem zu.ok{P:ah1}{w:World}{K:aP}{mg:bk}{base:Heap}{x qual:Str}{st:Stmt}{f:Addr}{fd:aiW}{N ps:List Str}{k:Nat}{sp:d9}(F:zu K x qual st f fd)(S:cp N ps (bH st))(len:∀vs H Q E,sp vs H Q E->vs.length=ps.length)
  (t_:∀(bw:Value)(A:ah6)(outer:List Env)(s:ahL)(H:av)(vs:List V)(Q:cZ)(E:gn),cB k (A.deeper (aiT qual (bH st) s.heap.objs.size f bw))->sp vs H Q E->
   ∃t,iC (gW ej P w K mg base N qual (bH st) f bw A outer s H E).gr (fg st) t/\t { bq:=fun _ H'=>Q .aW H',cS:=Q } (start N vs) H):e3 P w K mg base ej (k+1) f fd ps sp:=by
 obtain⟨dw,c1,p9,cw,doc,pm,an,bw,b',fj,rfl,lk,gq⟩:=F.ex;refine AZ lk gq S len fun A outer s H vs Q E aG hu=>?_
 obtain⟨t,h,q⟩:=t_ bw A outer s H vs Q E aG hu;exact⟨t,h.gr,q⟩
structure vV(K:aP)(mg:bk)(c m qual:Str)(st:Stmt)(ps:List Str):Prop where
 ex:∃C f fd,mg c=some (.ref C)/\i0 K C/\Meth K C m f/\zu K m qual st f fd/\Binds K fd ps []/\Binds K fd ps [.none]
structure zw(P:ah1)(w:World)(K:aP)(mg:bk)(base:Heap)(c m:Str)(ps:List Str)(k:Nat)(sp:d9):Prop where
 all:et P w K mg base c m ps k sp
 ex:∃C f fd,mg c=some (.ref C)/\i0 K C/\Meth K C m f/\e3 P w K mg base ej k f fd ps sp/\Binds K fd ps [.none]
theorem Ua{P:ah1}{w:World}{K:aP}{mg:bk}{base:Heap}{c m qual:Str}{st:Stmt}{ps N:List Str}{k:Nat}{c0:bp}{n nl:Nat}(cn:vV K mg c m qual st ps)(Sc:cp N ps (bH st))(aH:ps.length=n)(aj:N.length=nl)
  (aa:∀(f:Addr)(bw:Value)(A:ah6)(outer:List Env)(s:ahL)(H:av)(E:gn),cB k (A.deeper (aiT qual (bH st) s.heap.objs.size f bw))->
   ju (gW ej P w K mg base N qual (bH st) f bw A outer s H E).gr (fg st) c0):zw P w K mg base c m ps (k+1) (d0 K mg (fnX n nl c0)):=by
 obtain⟨C,f,fd,gY,cl,me,F,jV,b⟩:=cn.ex;subst aH aj;have ok:=F.ok (P:=P) (w:=w) (mg:=mg) (base:=base) (sp:=d0 K mg (fnX ps.length N.length c0)) Sc (fun vs H Q E ⟨O,ds,r,S,au,cE,eK,A1,eN,h,q⟩=>eN.r.len.trans (AX h)) fun bw A outer s H vs Q E aG hu=>⟨_,(aa f bw A outer s H E aG).un,Gx hu⟩
 exact⟨⟨C,f,fd,gY,cl,me,ok,jV⟩,⟨C,f,fd,gY,cl,me,ok,b⟩⟩
omit [aF.a6]in
theorem Q_{K:aP}{h:Heap}{mg:bk}{c:Str}{C:Addr}{aV:List Str}(X:K.In h)(G:h.Ns aik mg)(a:ak2 K aik c=some (some (.ref C)))
  (u6:alY K C Str.empty=true) (hd:amr K C=true) (po:W.plainOver K C=true) (oi:ajQ K (.ref C) "__setattr__"=some (some (.builtin "object.__setattr__"))) (mk:W.makesIn K C=true) (B1:ajG K (.ref C)=true)
  (na:∀f∈aV,ajQ K (.ref C) f=some none):oC K mg c aV:=⟨C,alw X G a,⟨u6,hd,po,oi⟩,⟨mk,B1⟩,na⟩
omit [aF.a6]in
theorem Sr{K:aP}{h:Heap}{mg:bk}{c m qual:Str}{C f:Addr}{aV ps:List Str}{st:Stmt}{c1 an:Option Addr}{cA:Array (Option Value)}{dw cw oU pm cd b':Value}(X:K.In h)(G:h.Ns aik mg)(T:oC K mg c aV)(a:ak2 K aik c=some (some (.ref C)))
  (e:ajQ K (.ref C) m=some (some (.ref f))) (i:W.isFn K (.ref f)=true) (l:K.lookup f=some ⟨dw,c1,.func (ajt m qual (hV st) (fg st) (bH st) .none cw oU pm an cd b'),cA⟩) (wR:alu K cd qual=true) (k:ajG K (.ref f)=true)
  (aa:∀(cw doc pm:Value)(an:Option Addr)(bw b':Value)(us:List Value),us.length=ps.length->ajZ (ajt m qual (hV st) (fg st) (bH st) .none cw doc pm an bw b') ⟨us,[]⟩=pure (ps.zip us)):ie K mg c m qual st ps:=by
 obtain⟨ly,ae,ag,_⟩:=T.ex;have bK:=alw X G a;rw[ae]at bK;cases bK;exact⟨_,f,_,ae,ag,⟨e,i,k⟩,xf (st:=st) l wR k,(xf (st:=st) l wR k).binds aa⟩
omit [aF.a6]in
theorem Ss{K:aP}{h:Heap}{mg:bk}{c m qual:Str}{C f T:Addr}{aV ps:List Str}{st:Stmt}{c1 an acW:Option Addr}{cA ac1:Array (Option Value)}{dw cw oU pm cd b' acV:Value}{j fw:Nat}(X:K.In h)(G:h.Ns aik mg)(Om:oC K mg c aV)(a:ak2 K aik c=some (some (.ref C)))
  (e:ajQ K (.ref C) m=some (some (.ref f))) (i:W.isFn K (.ref f)=true) (l:K.lookup f=some ⟨dw,c1,.func (ajt m qual (hV st) (fg st) (bH st) (.ref T) cw oU pm an cd b'),cA⟩) (t:K.lookup T=some ⟨acV,acW,.seq #[.none] fw,ac1⟩) (wR:alu K cd qual=true) (k:ajG K (.ref f)=true) (aZ:ps.length=j+1)
  (aa:∀(cw doc pm:Value)(an:Option Addr)(bw b':Value)(us:List Value),us.length=j+1->∃eG,ajZ (ajt m qual (hV st) (fg st) (bH st) (.ref T) cw doc pm an bw b') ⟨us,[]⟩=akh (.ref T) >>= eG/\eG (some #[.none])=pure (ps.zip us))
  (oZ:∀(cw doc pm:Value)(an:Option Addr)(bw b':Value)(us:List Value),us.length=j->∃eG,ajZ (ajt m qual (hV st) (fg st) (bH st) (.ref T) cw doc pm an bw b') ⟨us,[]⟩=akh (.ref T) >>= eG/\eG (some #[.none])=pure (ps.zip (us++[.none]))):vV K mg c m qual st ps:=by
 obtain⟨ly,ae,ag,_⟩:=Om.ex;have bK:=alw X G a;rw[ae]at bK;cases bK;refine⟨_,f,_,ae,ag,⟨e,i,k⟩,⟨⟨dw,c1,_,cw,oU,pm,an,cd,b',cA,rfl,l,wR⟩,k⟩,fun s us zG aj=>?_,fun s us zG aj=>?_⟩
 ·rw[ai7]at aj ⊢
  obtain⟨eG,aq,aD⟩:=aa cw oU pm an cd b' us (aj.trans aZ);exact amJ rfl (zG _ _ t) rfl aq aD
 ·rw[ahS,aZ]at aj
  obtain⟨eG,aq,aD⟩:=oZ cw oU pm an cd b' us (by simpa using aj);exact amJ rfl (zG _ _ t) rfl aq aD
theorem ie.none{k:Nat}{sp:d9}(D:ie K mg c m qual st ps)(no:∀vs H Q E,¬sp vs H Q E):et P w K mg base c m ps k sp:=by
 obtain⟨C,f,fd,a,b,d,F,e⟩:=D.ex;exact⟨C,f,fd,a,b,d,⟨fun vs H Q E h=>absurd h (no vs H Q E),fun A outer s H args us vs Q E _ _ _ _ h=>absurd h (no vs H Q E)⟩,e⟩
end aY
namespace aY
open PySem PySem.Spec aF PyProof.Rows
section
variable{X:aQ}
def ch(c:Nat):Str:=⟨#[c]⟩
def rn(z:Str):hM:=⟨fun i _=>i<z.cps.size,fun i H x H'=>H'=H/\∃c,z.cps[i]? = some c/\x=.str (ch c),fun i _=>z.cps.size<=i⟩
theorem M8{P:ah1}{w:World}{K:aP}{cc:Expr}(z:Str)(t:Tok)(it:Addr):Turn P w K cc (rn z) [it] it (fun i h=>(h.IsStrIter it "str_ascii_iterator" z t i)\/h.IsStrIter it "str_iterator" z t i) where
 mem:=by simp
 obj:=fun i h st b aa=>by
  have e:b=it:=by simpa using aa
  subst e;rcases st with⟨o,e,c,d⟩ | ⟨o,e,c,d⟩<;>exact⟨o,e,fun v z=>by rw[d]at z;cases z⟩
 keep:=fun i h h' st k=>by
  rcases st with⟨o,e,c,d⟩ | ⟨o,e,c,d⟩
  ·exact .inl ⟨o,k it (by simp) o e,c,d⟩
  ·exact .inr ⟨o,k it (by simp) o e,c,d⟩
 item:=by
  intro X dM hw gf aE i pinZ s σ H E I hf st aS;subst dM hw gf;have aS:i<z.cps.size:=aS;obtain⟨f0,f1,f2,gC,f4,gD⟩:=hf it (by simp);have ah:z.cps[i]? = some z.cps[i]:=by simp[aS]
  rcases st with st | st
  ·refine wpAny_pyNext_ascii_item st ah fun h' b3 kH=>?_
   have a8:Inv X pinZ σ H { s with heap:=h',toks:=s.toks+1 }:=I.turned (t':=s.toks+1) (fun b o aa e=>(kH.2 b aa).trans e) f0 f1 gC f4 gD;obtain⟨o,e,c,d⟩:=id b3;exact⟨_,rfl,t4 (s:={ s with heap:=h',toks:=s.toks+1 }) e c d (by decide) ⟨.str (ch z.cps[i]),H,a8,⟨_,rfl⟩,⟨rfl,_,ah,rfl⟩,.inl b3,fun b aa=>(hf b aa).1⟩⟩
  ·refine wpAny_pyNext_wide_item st ah fun h' b3 kH=>?_
   have a8:Inv X pinZ σ H { s with heap:=h',toks:=s.toks+1 }:=I.turned (t':=s.toks+1) (fun b o aa e=>(kH.2 b aa).trans e) f0 f1 gC f4 gD;obtain⟨o,e,c,d⟩:=id b3;exact⟨_,rfl,t4 (s:={ s with heap:=h',toks:=s.toks+1 }) e c d (by decide) ⟨.str (ch z.cps[i]),H,a8,⟨_,rfl⟩,⟨rfl,_,ah,rfl⟩,.inr b3,fun b aa=>(hf b aa).1⟩⟩
 done:=by
  intro X dM hw gf aE i pinZ s σ H E I hf st aS;subst dM hw gf;have aS:z.cps.size<=i:=aS;obtain⟨f0,f1,f2,gC,f4,gD⟩:=hf it (by simp);have ah:z.cps[i]? = none:=by simp[aS]
  rcases st with st | st
  ·exact wpAny_pyNext_ascii_end (I.ok.hd aE) st ah fun h' cJ=>⟨rfl,I.turned (t':=s.toks) (fun b o aa e=>cJ b o aa e) f0 f1 gC f4 gD⟩
  ·exact wpAny_pyNext_wide_end (I.ok.hd aE) st ah fun h' cJ=>⟨rfl,I.turned (t':=s.toks) (fun b o aa e=>cJ b o aa e) f0 f1 gC f4 gD⟩
 self:=fun _ _ _ _ _ st h=>by
  rcases st with st | st
  ·exact wpAny_pyIter_striter_ascii st h
  ·exact wpAny_pyIter_striter_wide st h
theorem ZS{cc l:Expr}(aj:bQ X l tl):jU X cc l (fun σ H R=>tl σ H fun x H1=>∃z,x=.str z/\R (rn z) H1):=by
 intro pinZ s σ H R I h;refine bR (aj pinZ s σ H _ I h) fun v s1 aX=>?_
 obtain⟨x,H1,a8,bu,ba⟩:=aX;obtain⟨z,e,q⟩:=ba;subst e;obtain⟨t,rfl⟩:=bu;have fin:∀b∈[s1.heap.objs.size],gk X pinZ H1 b:=fun b aa=>by
  have e:b=s1.heap.objs.size:=by simpa using aa
  subst e;exact a8.nK (ahM _) (a8.bF.fresh (ahM _))
 cases ao:z.cps.all (· < 128)with
 |true=>
  refine wpAny_pyIter_ascii ao ?_;exact⟨s1.heap.objs.size,[s1.heap.objs.size],_,_,H1,rfl,a8.kept (t':=s1.toks) fun b o e=>ahI _ e,M8 z t _,.inl ⟨_,ahU _ rfl,rfl,rfl⟩,fin,q⟩
 |false=>
  refine wpAny_pyIter_wide ao ?_;exact⟨s1.heap.objs.size,[s1.heap.objs.size],_,_,H1,rfl,a8.kept (t':=s1.toks) fun b o e=>ahI _ e,M8 z t _,.inr ⟨_,ahU _ rfl,rfl,rfl⟩,fin,q⟩
end
def wV(z:Str):List D:=z.cps.toList.map fun c=>D.str (ch c)
def nH(z:Str):List V:=z.cps.toList.map fun c=>V.str (ch c)
theorem WA(z:Str)(H:av)(i:Nat):(i<(nH z).length->(rn z).go i H/\∀x H',(rn z).ox i H x H'->H'=H/\(nH z)[i]? = some x)/\((nH z).length<=i->(rn z).stop i H):=by
 have aj:(nH z).length=z.cps.size:=by unfold nH;rw[ahJ,aiE]
 rw[aj];refine⟨fun ay=>⟨ay,fun x H' ⟨e,c,ae,ag⟩=>⟨e,?_⟩⟩,fun ay=>ay⟩;subst ag;unfold nH;rw[aia,amA,ae];rfl
variable[aF.a6]
theorem Q7{K:aP}{mg:bk}{O:a3}{H:av}(z:Str):a_ K mg O H (wV z) (nH z):=by
 unfold wV nH
 induction z.cps.toList with
 |nil=>rfl|cons c r a9=>exact⟨_,_,rfl,rfl,a9⟩
@[simp] def IC(m:bl)(σ:aO):M (List D):=do
 let r <-m σ
 match r with
 |.v (.str z)=>pure (wV z)|_=>bad
section
variable{X:aQ}{cc l:Expr}{m:bl}
theorem adq(aj:bb X l m):oQ X cc l (IC m):=⟨pD (ZS aj.un) fun ak H R aX=>by
 obtain⟨O,σ,S,xs,au,st,h,q⟩:=aX;obtain⟨r,S1,ae,h⟩:=M.inv h;split at h
 ·rename_i z
  cases h;refine⟨O,σ,S,_,_,st,ae,fun aK v H1 g1 aU bo nn=>⟨z,bo,?_⟩⟩;exact q aK H1 (rn z) (nH z) g1 aU (fun aJ _ i=>WA z aJ i) (Q7 z)
 ·cases h⟩
end
section
variable{K:aP}{mg:bk}
def sS(i j:Str):Bool:=!(aj9 j i 0 j.length 1).isEmpty
def qP(neg:Bool):R->R->M R
 |.v (.str i),.v (.str j)=>pure (.v (.aA (neg ^^ sS i j)))|_,_=>bad
theorem E0:eb K mg (fun x y H Q=>∃i j,x=.str i/\y=.str j/\Q (.aA (!(aj9 j i 0 j.length 1).isEmpty)) H) (qP false):=fun O σ S ak H x y a5 bt bL au Q st ah a' h q=>by
 unfold qP at h;split at h
 ·rename_i i j
  cases h;refine⟨i,j,ah,a',?_⟩;have:(!(aj9 j i 0 j.length 1).isEmpty)=(false ^^ sS i j):=by unfold sS;simp
  rw[this];exact q O _ H (Go.refl _ _) st rfl trivial
 ·cases h
end
end aY
namespace aY
open PySem PySem.Spec aF PyProof.Rows
def v5(K:aP)(mg:bk)[aF.a6](d:D)(u:Value):Prop:=∃v,RelV v u/\∀O H,Rep K mg O H d v
structure KTab(P:ah1)(w:World)(K:aP)(mg:bk)[aF.a6](x:Str)(ps:List (Str×D)):Prop where
 ex:∃(a:Addr)(ax:Array ale)(n:Nat),(mg x=some (.ref a)/\(a==ajq)=false)/\ajm a K=some { cls:=.type "dict",data:=.dict ax n }/\KeysOf (ak6 P w) ax/\
  ∀k,match ps.lookup k with
   |some d=>∃u,alB aiN ax k=some u/\v5 K mg d u|none=>alB aiN ax k=none
variable[aF.a6]
def zx(K:aP)(mg:bk):List (Str×D)->List ale->Prop
 |[],ax=>ax=[]|p::ps,ax=>∃e r,ax=e::r/\(∃t,e.key=.str p.1 t)/\v5 K mg p.2 e.val/\zx K mg ps r
theorem I_{K:aP}{mg:bk}{k:Str}:∀{ps:List (Str×D)}{ax:List ale},zx K mg ps ax->match ps.lookup k with
   |some d=>∃u,(ax.find? fun e=>aiN k e.key).map (·.val)=some u/\v5 K mg d u|none=>(ax.find? fun e=>aiN k e.key).map (·.val)=none
 | [],ax,h=>by cases h;rfl
 |p::ps,ax,h=>by
  obtain⟨e,r,rfl,⟨t,hb⟩,Xn,aG⟩:=h;have a9:=I_ (k:=k) aG;obtain⟨sC,ahs⟩:=p;rw[aiB,ajN,hb]
  by_cases c:k=sC
  ·subst c
   have aq:(k==k)=true:=by simp
   have aD:aiN k (.str k t)=true:=by show(k==k)=true;simp
   rw[aq,aD];exact⟨_,rfl,Xn⟩
  ·have aq:(k==sC)=false:=by simpa using c
   have aD:aiN k (.str sC t)=false:=by
    show(sC==k)=false;simp only[beq_eq_false_iff_ne,ne_eq];exact fun z=>c z.symm
   rw[aq,aD];exact a9
theorem Xo{P:ah1}{w:World}{K:aP}{h:Heap}{mg:bk}{x:Str}{d:Addr}{ax:Array ale}{n:Nat}{ps:List (Str×D)}(X:K.In h)(G:h.Ns aik mg)
  (a:ak2 K aik x=some (some (.ref d))) (aC:(d==ajq)=false) (l:ajm d K=some { cls:=.type "dict",data:=.dict ax n }) (k:∀e∈ax.toList,∃s,aiN s e.key=true/\e.hash=hashStr w s)
  (f:zx K mg ps ax.toList):KTab P w K mg x ps:=by
 refine⟨d,ax,n,⟨alw X G a,aC⟩,l,fun e he=>?_,fun k=>?_⟩
 ·obtain⟨s,ae,ag⟩:=k e (by simpa using he)
  exact⟨s,ae,ag⟩
 ·have z:=I_ (k:=k) f
  have:∀k:Str,alB aiN ax k=(ax.toList.find? fun e=>aiN k e.key).map (·.val):=fun k=>by
   unfold alB;obtain⟨l⟩:=ax;rw[List.find?_toArray]
  rw[this];exact z
def zz:List Str->List Value->Prop
 |[],us=>us=[]|x::xs,us=>∃t r,us=.str x t::r/\zz xs r
theorem Jh:∀{xs:List Str}{us:List Value},zz xs us->Vals (xs.map V.str) us
 | [],us,h=>by cases h;exact .nil
 | x::xs,us,h=>by obtain⟨t,r,rfl,q⟩:=h;exact .cons ⟨t,rfl⟩ (Jh q)
theorem n3{K:aP}{mg:bk}{xs:List Str}{a:Addr}{its:Array Value}{n:Nat}{c1:Option Addr}{fj:Array (Option Value)}(l:ajm a K=some ⟨.type "tuple",c1,.seq its n,fj⟩)(hz:its.size<=ahQ)(h:zz xs its.toList) :
  v5 K mg (.tup (xs.map D.str)) (.ref a):=by
 refine⟨.ref a,rfl,fun O H=>⟨a,xs.map V.str,rfl,.inr ⟨_,its,n,l,rfl,rfl,hz,Jh h⟩,?_⟩⟩
 induction xs with
 |nil=>rfl| cons x r a9=>exact⟨_,_,rfl,rfl,by
   clear a9 h
   induction r with
   |nil=>rfl| cons y q a9=>exact⟨_,_,rfl,rfl,a9⟩⟩
@[simp] def afp(neg:Bool)(ps:List (Str×D))(mk:bl)(σ:aO):M R:=do
 let k <-mk σ
 match k with
 |.v (.str z)=>pure (.v (.aA (neg ^^ (ps.lookup z).isSome)))|_=>bad
section
omit [aF.a6]
@[simp] theorem agA:qP b (.v (.str i)) (.v (.str j))=pure (.v (.aA (b ^^ sS i j))):=rfl
end
end aY
namespace aY
open PySem PySem.Spec aF PyProof.Rows
variable[aF.a6]
@[simp] def Af(ps:List (Str×D))(mk:bl)(σ:aO):M R:=do
 let k <-mk σ
 match k with
 |.v (.str z)=>pure (.v ((ps.lookup z).getD .aW))|_=>bad
section
variable{X:aQ}{x:Str}{ps:List (Str×D)}{e:Expr}{p apos cM:Pos}{mk:bl}
theorem adR(T:KTab X.prog X.w X.K X.mg x ps)(aS:d3 X x)(he:bb X e mk)(m:hP X (.Name x p) "get" apos e cM:=by exact⟨rfl,rfl,rfl,rfl⟩)(ey:(x==("__debug__":Str))=false:=by decide) :
  bb X (.Call (.Attribute (.Name x p) "get" apos) [e] [] cM) (Af ps mk):=⟨by
 rintro pinZ s σ H Q I ⟨O,σ',S,r,au,st,h,q⟩;obtain⟨y,S1,ae,h⟩:=M.inv h;split at h
 ·rename_i z
  cases h;obtain⟨a,ax,n,⟨hm,V3⟩,aj,az,hf⟩:=T.ex;refine wpAny_Call_method m.base m.AU m.line amh ajO amy (r8 I aS hm ?_ ey);have ao:=I.eZ a _ aj;refine⟨⟨_,ao,rfl⟩,fun b e=>by cases e;exact⟨_,ao,rfl⟩,?_⟩;rw[m.trees];refine ako rfl (alk (akQ (bR (he.un pinZ s σ H (fun v H1=>v=.str z/\∃aK,Go O aK H H1/\b_ X.K X.mg aK σ' au σ H1) I ⟨O,σ',S,_,_,st,ae,fun aK v H1 g1 aU bo nn=>⟨bo,aK,g1,aU⟩⟩) fun o6 s2 ⟨y,aJ,bM,bt,e9,aK,g1,aU⟩=>alS ?_)));subst e9;obtain⟨t,rfl⟩:=bt;have ao:=bM.eZ a _ aj;have mo:s2.heap.MapOf (ak6 X.prog X.w) a (alB aiN ax):=⟨_,ax,n,ao,⟨rfl,rfl,rfl⟩,rfl,az,fun _=>rfl⟩;refine call_meetsIn ajO mo.typeIs ak1 (PySem.F.args_dict_get_2 _ _) (meets_dict_get (ak6 X.prog X.w) a (k:=z) ?_ V3) ⟨_,mo,?_⟩
  ·show(z==z)=true
   simp
  ·have:=hf z
   cases aq:ps.lookup z with
   |none=>
    rw[aq]at this q;rw[this];exact⟨.aW,aJ,bM.tok _,rfl,q aK _ aJ g1 aU rfl trivial⟩
   |some d=>
    rw[aq]at this q;obtain⟨u,aD,v,bI,vh⟩:=this;rw[aD];exact⟨v,aJ,bM.tok _,bI,q aK _ aJ g1 aU (vh aK aJ) trivial⟩
 ·cases h⟩
end
end aY
namespace aY
open PySem PySem.Spec aF PyProof.Rows PySem.W
section
variable{prog:ah1}{w:World}{A:ah6}{s:ahL}{E:cu}
theorem SX{v:Value}{Q:Bool->ahL->Prop}(h:Q true s):wpAny (model prog w) A (eqBool v v) Q E s:=by
 unfold eqBool
 try with_reducible refine ai3 ?_
 show wpAny _ _ (if(v==v)=true then _ else _) Q E s;rw[if_pos (beq_self_eq_true v)];exact ahH (aln (ahO h))
theorem I9{Q:Bool->ahL->Prop}(h:Q fin s):∀(l:List Value)(i:Nat),KatLex prog w A b fin Q (l.zip l) i s
 |[],_=>kat_nil h|_::l,i=>kat_cons (SX (kat_yes (I9 h l (i+1))))
end
variable[aF.a6]
end aY
namespace aY
open PySem PySem.Spec aF
section
variable{P:List Value->Prop}
theorem Nw(h:P []):∀us:List Value,us.length=0->P us:=fun us e=>by rw[List.eq_nil_of_length_eq_zero e];exact h
theorem q9(h:∀a,∀us:List Value,us.length=n->P (a::us)):∀us:List Value,us.length=n+1->P us:=fun us e=>by
 cases us with
 |nil=>cases e
 |cons a r=>exact h a r (Nat.succ.inj e)
theorem vF(h:∀a,P [a]):∀us:List Value,us.length=1->P us:=q9 fun a=>Nw (h a)
theorem y8(h:∀a b,P [a,b]):∀us:List Value,us.length=2->P us:=q9 fun a=>vF (h a)
theorem D0(h:∀a b c,P [a,b,c]):∀us:List Value,us.length=3->P us:=q9 fun a=>y8 (h a)
theorem D1(h:∀a b c d,P [a,b,c,d]):∀us:List Value,us.length=4->P us:=q9 fun a=>D0 (h a)
theorem D2(h:∀a b c d e,P [a,b,c,d,e]):∀us:List Value,us.length=5->P us:=q9 fun a=>D1 (h a)
theorem D3(h:∀a b c d e f,P [a,b,c,d,e,f]):∀us:List Value,us.length=6->P us:=q9 fun a=>D2 (h a)
theorem Nx(h:∀a b c d e f g,P [a,b,c,d,e,f,g]):∀us:List Value,us.length=7->P us:=q9 fun a=>D3 (h a)
end
end aY
namespace aY
open PySem PySem.Spec aF PyProof.Rows PySem.W
def vg(Z:fE):D->Option Z.κ.α
 |.tup (d::_)=>Z.un d|_=>none
def og(Z:fE):List D->Option (List Z.κ.α)
 |[]=>some []|d::ds=>match vg Z d,og Z ds with
  |some p,some ps=>some (p::ps)|_,_=>none
def oG(Z:fE)(h:Heap)(p:Z.κ.α)(a:Addr):Prop:=∃(o:Obj)(v:Value)(m:Nat)(r:List Value),h.get? a=some o/\o.cls=.type "tuple"/\o.data=.seq (aj4 (v::r)) m/\Z.κ.keyOf v=some p
theorem oG.kept{h h':Heap}(x:oG Z h p a)(k:∀b o,h.get? b=some o->h'.get? b=some o):oG Z h' p a:=by
 obtain⟨o,v,m,r,ae,ag,bK,dt⟩:=x;exact⟨o,v,m,r,k _ _ ae,ag,bK,dt⟩
structure KF(Z:fE):Prop where
 ok:Z.Ok
 ne:∀(prog:ah1)(w:World)(A:ah6)(E:cu)(s:ahL)(v u:Value)(a b:Z.κ.α){Q:Bool->ahL->Prop},Z.κ.keyOf v=some a->Z.κ.keyOf u=some b->a≠b->Q false s->wpAny (model prog w) A (eqBool v u) Q E s
 ty:∃T:Value,(T==T)=true/\(T != akW "tuple")=true/\∀(prog:ah1)(w:World)(h:Heap)(v:Value)(a:Z.κ.α),Z.κ.keyOf v=some a->Looks (model prog w) h (typeOf v) T
theorem Xg:KF fB where
 ok:=Jf
 ne:=fun prog w A E s v u a b Q ao aa gG h=>by
  cases v<;>first | cases ao | skip
  cases u<;>first | cases aa | skip
  refine(intKind prog w).eqBool (a:=a) (b:=b) (by show(a==a)=true;simp) (by show(b==b)=true;simp) ?_;rw[decide_eq_false gG];exact h
 ty:=⟨.type "int",by decide,by decide,fun prog w h v a ao=>by
  cases v<;>first | cases ao | skip
  exact .now⟩
theorem Xh:KF h3 where
 ok:=Jg
 ne:=fun prog w A E s v u a b Q ao aa gG h=>by
  cases v<;>first | cases ao | skip
  cases u<;>first | cases aa | skip
  rename_i x t y t';refine wpAny_eqBool_str ?_;rw[decide_eq_false (fun z=>gG (by rw[z]))];exact h
 ty:=⟨.type "str",by decide,by decide,fun prog w h v a ao=>by
  cases v<;>first | cases ao | skip
  exact .now⟩
theorem Oz{Z:fE}:∀{ps:List Z.κ.α},jx Z.κ.blt ps=true->ps.Nodup:=zJ Z.κ.toKeyOrd
section
variable{prog:ah1}{w:World}{A:ah6}{s:ahL}{E:cu}{Z:fE}
theorem aaD{C:Bool->ahL->Prop}(F:KF Z)(aI:oG Z s.heap p a)(a4:oG Z s.heap q b)(gG:p≠q\/a=b/\p=q)(h:C (Z.κ.blt p q) s):wpAny (model prog w) A (keyLt' (tuples' true) (.ref a) (.ref b)) C E s:=by
 rcases gG with gG | ⟨rfl,rfl⟩
 ·obtain⟨o,v,m,r,ae,ag,bK,gH⟩:=aI
  obtain⟨o',e2,ee,bL,Bb,ag5,TS,IX⟩:=a4;refine kat_lt ae bK Bb TS ?_;show KatLex prog w A true _ C ((v,e2)::r.zip bL) 0 s;exact kat_cons (F.ne prog w A _ s v e2 p q gH IX gG (kat_no (F.ok.one prog w A _ s v e2 p q gH IX h)))
 ·obtain⟨o,v,m,r,ae,ag,bK,gH⟩:=aI
  refine kat_lt ae bK ae bK (I9 ?_ _ 0);rw[decide_eq_false (aii _)];rw[Z.κ.irrefl]at h;exact h
end
theorem Ls:∀{ps:List Z.κ.α}{as:List Addr},as.length=ps.length->(∀(i:Nat)(p:Z.κ.α)(a:Addr),ps[i]? = some p->as[i]? = some a->oG Z h p a)->∃aV:List Value,KatTups h (as.map aid) aV/\aV.length=as.length/\∀v∈aV,∃a,Z.κ.keyOf v=some a
 |[],[],_,_=>⟨[],.nil,rfl,fun _ h=>nomatch h⟩
 |p::ps,a::as,aj,ah=>by
  obtain⟨aV,ae,ag,bK⟩:=Ls (ps:=ps) (as:=as) (Nat.succ.inj aj) fun i q b aq aD=>ah (i+1) q b (by simpa using aq) (by simpa using aD)
  obtain⟨o,v0,m,r,aq,aD,cQ,e8⟩:=ah 0 p a rfl rfl;refine⟨v0::aV,.cons aq aD cQ rfl ae,by rw[ahX,ag];rfl,fun v bz=>?_⟩;rcases ahP.mp bz with rfl | bz
  ·exact⟨_,e8⟩
  ·exact bK v bz
def wc(Z:fE)(K:aP)(mg:bk)(O:a3)(H:av)(p:Z.κ.α)(a:Addr):Prop:=∃z s_,dp K H a (z::s_)/\Rep K mg O H (Z.dz p) z
section
variable[aF.a6]{X:aQ}{pinZ:cP}{σ:aF.St}{H:av}{s:ahL}{A:ah6}{E:cu}{O:a3}{Q:cZ}{Z:fE}
theorem wc.is(F:KF Z)(I:Inv X pinZ σ H s)(h:wc Z X.K X.mg O H p b):oG Z s.heap p b:=by
 obtain⟨z,s_,ae,ag⟩:=h;obtain⟨its,r,⟨o,aq,aD,n,cQ⟩,_⟩:=I.tuple ae
 cases r with
 |cons bu r=>exact⟨o,_,n,_,aq,aD,cQ,F.ok.key p _ _ _ _ _ _ ag bu⟩
theorem Lv{K:aP}{mg:bk}(F:Z.Ok):∀{ds:List D}{ps:List Z.κ.α}{ys:List V},og Z ds=some ps->a_ K mg O H ds ys->∃as:List Addr,ys=as.map V.ref/\as.length=ps.length/\ds.length=ps.length/\∀(i:Nat)(p:Z.κ.α)(a:Addr),ps[i]? = some p->as[i]? = some a->wc Z K mg O H p a
 | [],ps,ys,h,r=>by cases h;cases(show ys=[]from r);exact⟨[],rfl,rfl,rfl,fun i p a e=>by simp at e⟩
 |d::ds,ps,ys,h,r=>by
  unfold og at h;split at h
  ·rename_i p kF aq aD
   cases h;obtain⟨y,aeE,rfl,bu,b4⟩:=r;obtain⟨as,rfl,ae,ag,bK⟩:=Lv F aD b4;unfold vg at aq;split at aq
   ·rename_i afq rest
    obtain⟨a,zs,rfl,c9,fb,afi,rfl,ba,gZ⟩:=bu;rw[F.q8 _ _ aq]at ba;refine⟨a::as,rfl,by simp[ae],by simp[ag],fun k p b aq aD=>?_⟩
    cases k with
    |zero=>simp at aq aD;subst aq aD;exact⟨fb,afi,c9,ba⟩| succ k=>exact bK k p b (by simpa using aq) (by simpa using aD)
   ·cases aq
  ·cases h
theorem acb(F:KF Z)(I:Inv X pinZ σ H s){ps:List Z.κ.α}{as:List Addr}{ds:List D}(aj:as.length=ps.length)(hd:ds.length=ps.length)(vh:a_ X.K X.mg O H ds (as.map V.ref))(rows:∀(i:Nat)(p:Z.κ.α)(a:Addr),ps[i]? = some p->as[i]? = some a->wc Z X.K X.mg O H p a)(eI:ps.Nodup)(i8:ps.length<64){us:List Value}(hc:us=as.map aid)
  (q:∀l zs,H l=none->a_ X.K X.mg O H ((hi Z.κ.blt (ps.zip ds)).map (·.2)) zs->Q (.ref l) (upd H l (.lst zs))) :
  wpAny (model X.prog X.w) A (do
   let l <-newList us
   let _ <-ajz [l] (call (.builtin "list.sort") [l] [])
   ret l) (fun fin aM=>∃v,fin=Fin.done (.ret v)/\g7 X pinZ σ Q v aM) E s:=by
 have uA:us.length=ps.length:=by rw[hc,ahJ,aj]
 have BP:∀(i:Nat)(p:Z.κ.α)(a:Addr),ps[i]? = some p->as[i]? = some a->oG Z s.heap p a:=fun i p a aq aD=>(rows i p a aq aD).is F I
 let iR:Z.κ.α:=Z.κ.dflt
 have rR:∀i,i<us.length->ps[i]? = some (ps.getD i iR)/\as[i]? = some (as.getD i 0)/\ds[i]? = some (ds.getD i .aW)/\us.getD i aiX=.ref (as.getD i 0):=fun i ay=>by
  have ae:i<ps.length:=by omega
  have ag:i<as.length:=by omega
  have bK:i<ds.length:=by omega
  refine⟨by simp[ail,ae],by simp[ail,ag],by simp[ail,bK],?_⟩;rw[hc];simp[ail,ag]
 refine ahH (akF ?_ (by rw[ah8];omega));have lZ:(s.heap.push (aiq "list" us.toArray 0)).get? s.heap.objs.size=some (aiq "list" us.toArray 0):=ahU _ rfl;have fr:H s.heap.objs.size=none:=I.bF.fresh (ahM _);show wpAny _ _ _ _ _ { s with heap:=s.heap.push (aiq "list" us.toArray 0) };have kept:∀b o,s.heap.get? b=some o->(jJ (s.heap.push (aiq "list" us.toArray 0)) s.heap.objs.size us).get? b=some o:=fun b o e=>X7 (ah5 (ahY e)) (ahI _ e)
 refine ahH (ai3 (wpAny_call_entry_kw slot_list_sort ⟨_,lZ,rfl⟩ entry_list_sort ?body (args_list_sort _)));have inj:∀i j,i<us.length->j<us.length->i≠j->ps.getD i iR≠ps.getD j iR:=fun i j ay aZ ne e=>by
  have aq:=(rR i ay).1;have aD:=(rR j aZ).1;rw[e,<-aD]at aq;exact ne ((List.getElem?_inj (by omega) eI).mp aq)
 refine ab7 (κ:=tuples' true) (lt:=fun i j=>Z.κ.blt (ps.getD i iR) (ps.getD j iR)) (k:=0) lZ (by omega) ?ord (fun ag Q iH=>?kind) (fun i j C ay aZ fs=>?ask) fun p R S=>?fin
 case ord=>
  refine⟨fun i j k _ _ _ ae ag=>Z.κ.trans _ _ _ ae ag,fun i j ay aZ ne ae=>?_,fun i j ay aZ ae=>?_⟩
  ·cases c:Z.κ.blt (ps.getD j iR) (ps.getD i iR)with
   |true=>rfl|false=>exact absurd (Z.κ.total _ _ ae c) (inj i j ay aZ ne)
  ·cases c:Z.κ.blt (ps.getD j iR) (ps.getD i iR)with
   |false=>rfl|true=>
    have:=Z.κ.trans _ _ _ ae c;rw[Z.κ.irrefl]at this;cases this
 case kind=>
  obtain⟨aV,gH,eF,qy⟩:=Ls (Z:=Z) (h:=jJ (s.heap.push (aiq "list" us.toArray 0)) s.heap.objs.size us) (ps:=ps) (as:=as) aj fun i p a aq aD=>(BP i p a aq aD).kept kept
  rw[<-hc]at gH;obtain⟨T,t1,eC,t3⟩:=F.ty;have f0:0<aV.length:=by omega
  refine kat_kind (T:=T) gH f0 (fun v bz=>by obtain⟨a,ao⟩:=qy v bz;exact t3 X.prog X.w _ v a ao) t1 ?_;rw[eC];exact iH
 case ask=>
  unfold kas_ask;obtain⟨aq,aD,_,e8⟩:=rR i ay;obtain⟨f1,f2,_,f4⟩:=rR j aZ;rw[e8,f4];refine aaD F ((BP _ _ _ aq aD).kept kept) ((BP _ _ _ f1 f2).kept kept) ?_ fs
  by_cases IE:i=j
  ·subst IE;exact .inr ⟨rfl,rfl⟩
  ·exact .inl (inj i j ay aZ IE)
 case fin=>
  have vf:ps.zip ds=(aiz us.length).map fun i=>(ps.getD i iR,ds.getD i .aW):=by
   refine List.ext_getElem (by simp[uA,hd]) fun i ae ag=>?_
   have a1:i<ps.length:=by simp at ae;omega
   have a2:i<ds.length:=by omega
   simp[ail,a1,a2]
  have Yk:((ps.zip ds).map (·.1)).Nodup:=by
   rw[ak9 (by omega)];exact eI
  have DO:(hi Z.κ.blt (ps.zip ds)).map (·.2)=p.toList.map fun i=>ds.getD i .aW:=by
   have one:p.toList.map (fun i=>(ps.getD i iR,ds.getD i .aW))=hi Z.κ.blt (ps.zip ds):=by
    refine DM Z.κ.toKeyOrd ?_ ?_ ?_
    ·exact Yk
    ·rw[vf];exact R.pm.map _
    ·rw[alW,al0]
     intro i j ay aZ ql;have hsz:p.toList.length=us.length:=by rw[aiE,R.ll]
     have:=S i j ql (by omega);have TC:p.getD i 0=p.toList[i]:=by
      have:i<p.size:=by simpa using ay
      simp[Array.getD,this]
     have TF:p.getD j 0=p.toList[j]:=by
      have:j<p.size:=by simpa using aZ
      simp[Array.getD,this]
     rw[TC,TF]at this;exact this
   rw[<-one,akz];rfl
  have s_:a_ X.K X.mg O H (p.toList.map fun i=>ds.getD i .aW) (p.toList.map fun i=>V.ref (as.getD i 0)):=by
   have:∀l:List Nat,(∀i∈l,i<us.length)->a_ X.K X.mg O H (l.map fun i=>ds.getD i .aW) (l.map fun i=>V.ref (as.getD i 0)):=by
    intro l
    induction l with
    |nil=>intro _;rfl|cons i l a9=>
     intro aj;obtain⟨_,g2,g3,_⟩:=rR i (aj i ah0);obtain⟨u,aq,aD⟩:=vh.get g3;rw[aia,g2]at aq;cases aq;exact⟨_,_,rfl,aD,a9 fun k az=>aj k (ahR _ az)⟩
   exact this _ fun i ay=>ai4.mp (R.pm.mem_iff.mp ay)
  have zp:Vals (p.toList.map fun i=>V.ref (as.getD i 0)) (p.toList.map fun i=>us.getD i aiX):=by
   have:∀l:List Nat,(∀i∈l,i<us.length)->Vals (l.map fun i=>V.ref (as.getD i 0)) (l.map fun i=>us.getD i aiX):=by
    intro l
    induction l with
    |nil=>intro _;exact .nil| cons i l a9=>intro aj;exact .cons (by show RelV (V.ref _) (us.getD i aiX);rw[(rR i (aj i ah0)).2.2.2];rfl) (a9 fun k az=>aj k (ahR _ az))
   exact this _ fun i ay=>ai4.mp (R.pm.mem_iff.mp ay)
  obtain⟨e,he⟩:=sortedHeap_at (out:=aj4 (p.toList.map fun i=>us.getD i aiX)) lZ;refine⟨_,rfl,ahO ⟨_,rfl,.ref s.heap.objs.size,upd H s.heap.objs.size (.lst (p.toList.map fun i=>V.ref (as.getD i 0))),?_,rfl,q _ _ fr (by rw[DO];exact s_)⟩⟩;refine I.laid (t':=s.toks) (fun b o cJ=>?_) (ahM _) ⟨?_,_,e,zp,?_⟩
  ·have e_:=ahY cJ
   rw[sortedHeap_old (ah5 e_) (by rw[al1];exact akZ e_),ajU _ _ _ (ah5 e_)];exact cJ
  ·rw[ahJ,aiE,R.ll,ah8];omega
  ·rw[he]
end
variable[aF.a6]
def mM(Z:fE):List R->M R
 |[x]=>match x.eH with
  |some ds=>match og Z ds with
   |some ps=>if jx Z.κ.blt ps=true/\ps.length<64 then pure (.fr ((hi Z.κ.blt (ps.zip ds)).map (·.2)))else bad|none=>bad
  |none=>bad
 |_=>bad
theorem GG{X:aQ}(aE:X.calm=true)(F:KF Z):iZ X (.builtin "sorted") (fun xs H Q=>∃(p:Addr)(ys:List V)(O:a3)(ds:List D)(ps:List Z.κ.α),xs=[.ref p]/\c3 X.K H p ys/\a_ X.K X.mg O H ds ys/\og Z ds=some ps/\jx Z.κ.blt ps=true/\ps.length<64/\
  ∀l zs,H l=none->a_ X.K X.mg O H ((hi Z.κ.blt (ps.zip ds)).map (·.2)) zs->Q (.ref l) (upd H l (.lst zs))):=by
 rintro pinZ s σ H xs us Q I bI ⟨p,ys,O,ds,ps,ex,cq,bh,vh,aH,i8,q⟩;subst ex;obtain⟨u,rfl,bu⟩:=vals1 bI;cases bu;obtain⟨as,rfl,aj,hd,rows⟩:=Lv (Z:=Z) F.ok vh bh;refine call_function_entry_kw kind_sorted plain_sorted entry_sorted (args_sorted1 _) ?_;unfold alc.«sorted»;refine ahH (m:=checkCount "sorted" 1 1 _) (ahO ?_);obtain⟨vs,pG,pl,_⟩:=I.list cq;have ev:vs=as.map aid:=by
  have:∀{as:List Addr}{vs:List Value},Vals (as.map V.ref) vs->vs=as.map aid:=by
   intro as
   induction as with
   |nil=>intro vs h;cases h;rfl
   |cons a as a9=>intro vs h;cases h with
    |cons ae ag=>cases ae;rw[a9 ag];rfl
  exact this pG
 have lv:vs.length=ps.length:=by rw[ev,ahJ,aj]
 refine ahH (collect_list pl.isList ?_ (by rw[ah8];omega));refine acb F (I.kept (t':=s.toks) fun b o e=>?_) aj hd bh rows (Oz aH) i8 ev q;have e_:=ahY e;rw[Heap.get?_update_ne _ _ _ _ (ah5 e_),ajU _ _ _ (ah5 e_)];exact e
theorem I2{Z:fE}{K:aP}{mg:bk}:jo K mg (fun xs H Q=>∃(p:Addr)(ys:List V)(O:a3)(ds:List D)(ps:List Z.κ.α),xs=[.ref p]/\c3 K H p ys/\a_ K mg O H ds ys/\og Z ds=some ps/\jx Z.κ.blt ps=true/\ps.length<64/\
  ∀l zs,H l=none->a_ K mg O H ((hi Z.κ.blt (ps.zip ds)).map (·.2)) zs->Q (.ref l) (upd H l (.lst zs))) (mM Z):=fun O σ S ak H vs rs bL au Q st aG h q=>by
 unfold mM at h;split at h
 ·rename_i x
  obtain⟨v,rfl,ah⟩:=kG aG;split at h
  ·rename_i ds e
   split at h
   ·rename_i ps aD
    by_cases c:jx Z.κ.blt ps=true/\ps.length<64
    ·rw[if_pos c]at h
     cases h;obtain⟨a,ys,rfl,l,bh⟩:=R.mY ah e;refine⟨a,ys,O,ds,ps,rfl,l,bh,aD,c.1,c.2,fun p zs aI jK=>?_⟩;refine q (fC O p .di) _ _ (Go.new aI) (st.new aI) ⟨p,zs,rfl,de,nk,jK.go (Go.new aI)⟩ fun b cJ=>?_
     cases cJ;exact aI
    ·rw[if_neg c]at h;cases h
   ·cases h
  ·cases h
 ·cases h
omit [aF.a6]in
theorem SQ{x:R}:mM Z [x]=match x.eH with
  |some ds=>match og Z ds with
   |some ps=>if jx Z.κ.blt ps=true/\ps.length<64 then pure (.fr ((hi Z.κ.blt (ps.zip ds)).map (·.2)))else bad|none=>bad
  |none=>bad:=rfl
end aY
namespace aY
open PySem PySem.Spec aF PyProof.Rows
def iP(b:Int):List Int->Int
 |[]=>b|x::xs=>if b<x then iP x xs else iP b xs
def tR:List R->M R
 |[x]=>match x.eH with
  |some ds=>match nums ds with
   |some (b::bs)=>pure (.v (.int (iP b bs)))|_=>bad
  |none=>bad
 |_=>bad
variable[aF.a6]
section
variable{X:aQ}{pinZ:cP}{σ:aF.St}{H:av}{s:ahL}{S it l:Addr}{O:a3}
theorem Lh{i:Int}(h:RelV (.int i) u):∃t,u=.int i t:=h
structure NY(X:aQ)(pinZ:cP)(σ:aF.St)(O:a3)(H:av)(S it l:Addr)(j:Nat)(b:Int)(aM:ahL):Prop where
 ex:∃ai H',Inv X pinZ σ H' aM/\Go O ai H H'/\cV ai H'/\H' S=some (.lst [.int b,.int b])/\ai S=.di/\gk X pinZ H' it/\aM.heap.IsListIter it l j
theorem X1{ns:List Int}{res:Int}(jE:X.A.in1.handled=none)(uh:H S=none)(jD:S≠it)(aj:c3 X.K H l (ns.map V.int)) :
  ∀(r:List Int)(j:Nat)(b:Int)(aM:ahL),ns.drop j=r->NY X pinZ σ O H S it l j b aM->j<=ns.length->iP b r=res->
   akv (model X.prog X.w) X.A (.builtin "max.loop" ⟨[.ref it,.none,.ref S],[]⟩) (fun r aM=>∃u,r=.ok (.ret u)/\v7 X pinZ σ O H (.int res) u aM) aM:=by
 have lV:(toString "max"++toString ".loop":String)="max.loop":=by decide
 have dX:=jE;intro r
 induction r with
 |nil=>
  intro j b aM nS B aZ aS;have aS:b=res:=aS;subst aS;obtain⟨aK,H1,a8,g1,fz,cq,od,aL,hit⟩:=B.ex;obtain⟨hsz,its,n,vals,gF⟩:=a8.bF S _ cq;obtain⟨u,kC,rfl,dD,ve⟩:=vals2 vals;have nV:j=(ns.map V.int).length:=by
   have:=congrArg ai8 nS;rw[aiA,aiy]at this;rw[ahJ];omega
  refine aki ajp ?_;rw[ajx ain _];show wpAny _ X.A.in1 (akh (.ref S) >>= _) _ _ _;refine ahH (aiQ gF rfl ?_);show wpAny _ X.A.in1 (tryCatch (akd (.ref it)) _ >>= _) _ _ _;refine ahH (ajj (aiv (Kj (E:=fun _ _=>False) a8 (g1.same.seq aj) nV aL hit dX) (fun r s1 a4=>?_) fun _ _ dk=>dk.elim));obtain⟨rfl,bM⟩:=a4;obtain⟨_,k_,dv,D6,uf⟩:=bM.bF S _ cq;show wpAny _ X.A.in1 (updateSeq S (fun _=>#[]) >>= _) _ _ _;refine ahH ?_;refine akj uf rfl (hz:=by rw[ahW,<-D6.length,ah8];simp) (ahH (ajo (ahO ?_)));exact⟨u,rfl,aK,_,.int b,Gh bM cq uf,⟨ou uh g1.same cq _,g1.own,g1.bC⟩,fz.d1 cq,rfl,dD⟩
 |cons cN r a9=>
  intro j b aM nS B aZ aS
  replace aS:(if b<cN then iP cN r else iP b r)=res:=aS
  obtain⟨aK,H1,a8,g1,fz,cq,od,aL,hit⟩:=B.ex;obtain⟨hsz,its,n,vals,gF⟩:=a8.bF S _ cq;obtain⟨u,kC,rfl,dD,ve⟩:=vals2 vals;have hd2:ns[j]? = some cN:=by
   have:=congrArg (·[0]?) nS;simpa using this
  have BE:(ns.map V.int)[j]? = some (.int cN):=by rw[aia,hd2];rfl
  have ud:ns.drop (j+1)=r:=by
   have:=congrArg (alE 1) nS;simpa[aky]using this
  have nV:j+1<=ns.length:=(ahN.mp hd2).1;refine aki ajp ?_;rw[ajx ain _];show wpAny _ X.A.in1 (akh (.ref S) >>= _) _ _ _;refine ahH (aiQ gF rfl ?_);show wpAny _ X.A.in1 (tryCatch (akd (.ref it)) _ >>= _) _ _ _;refine ahH (ajj (aiv (next_item (E:=fun _ _=>False) a8 (g1.same.seq aj) BE aL hit dX) (fun r s1 a4=>?_) fun _ _ dk=>dk.elim));obtain⟨hH,rfl,ma,bM,o1⟩:=a4;obtain⟨_,BS,CH,vals3,lS⟩:=bM.bF S _ cq;have Lw:=ma;obtain⟨eC,rfl⟩:=Lh ma;obtain⟨cU,rfl⟩:=Lh ve;show wpAny _ X.A.in1 (tryCatch (ajz [.int cN eC,.int cN eC] (akG .Gt (.int cN eC) (.int b cU) >>= _)) _ >>= _) _ _ _;have nY:∀(s:ahL)(E:cu)(Q:cu),Q (.bool (decide (b<cN))) s->wpAny (model X.prog X.w) X.A.in1 (akG .Gt (.int cN eC) (.int b cU)) Q E s:=fun s E Q h=>(amI h:wpAny (model X.prog X.w) X.A.in1 (ais .Gt (.int cN eC) (.int b cU)) Q E s)
  refine ahH (ajj (ai3 (ahH (nY _ _ _ ?_))));refine ahH (ai3 (ai2 ?_));refine ahH (ajo (ahO ?_))
  by_cases aa:b<cN
  ·rw[if_pos aa]at aS
   simp only[aa,decide_true,if_true];refine ahH ?_;refine akj lS rfl (hz:=by rw[ahW,<-vals3.length,ah8];simp) (ahH (ajo ?_));rw[lV];refine ahO ⟨ajS ain _,a9 (j+1) cN _ ud ?_ nV aS⟩;exact⟨aK,_,wC (v:=.int cN) (kv:=.int cN) bM cq lS Lw Lw,⟨ou uh g1.same cq _,g1.own,g1.bC⟩,fz.d1 cq,de,od,xc jD aL,xN jD o1⟩
  ·rw[if_neg aa]at aS
   simp only[aa,decide_false,if_false];refine ahH (ajo ?_);rw[lV];refine ahO ⟨ajS ain _,a9 (j+1) b _ ud ?_ nV aS⟩;exact⟨aK,H1,bM,g1,fz,cq,od,aL,o1⟩
theorem X0{b:Int}{bs:List Int}{E:cu}(I:Inv X pinZ σ H s)(cE:cV O H)(aj:c3 X.K H l ((b::bs).map V.int))(jE:X.A.in1.handled=none) :
  wpAny (model X.prog X.w) X.A (call (.builtin "max") [.ref l]) (v7 X pinZ σ O H (.int (iP b bs))) E s:=by
 have lV:(toString "max"++toString ".loop":String)="max.loop":=by decide
 have dX:=jE;obtain⟨us,bI,pl,_⟩:=I.list aj;have ft:s.heap.IsList l us.toArray:=pl.isList;refine call_function_tree PySem.F.kind_max PySem.F.plain_max PySem.F.entry_max (PySem.F.args_max1 _) ?_;show wpAny _ X.A.in1 (ajL "max" ["key","default"] 0 ⟨[],[]⟩ >>= _) _ _ s;refine ahH (wpAny_of_eq (show ajL "max" ["key","default"] 0 ⟨[],[]⟩=pure [none,none]from rfl) ?_);refine ahH (ahO ?_);refine ahH (ajA ft ?_);refine ahH (akF ?_ (aib _));rw[lV];have a8:Inv X pinZ σ H { s with heap:=s.heap.push { cls:=.type "list_iterator",data:=.fields #[.ref l,.int 0 0] } }:=I.kept (t':=s.toks) fun b o e=>ahI _ e
 have mQ:(s.heap.push { cls:=.type "list_iterator",data:=.fields #[.ref l,.int 0 0] }).get? s.heap.objs.size=some { cls:=.type "list_iterator",data:=.fields #[.ref l,.int 0 0] }:=ahU _ rfl;have hsz:(s.heap.push { cls:=.type "list_iterator",data:=.fields #[.ref l,.int 0 0] }).objs.size=s.heap.objs.size+1:=al1 ..;generalize VD:s.heap.push { cls:=.type "list_iterator",data:=.fields #[.ref l,.int 0 0] }=ae at *;have nL:H ae.objs.size=none:=a8.bF.fresh (ahM _);have jD:ae.objs.size≠s.heap.objs.size:=by rw[hsz];omega
 have bM:Inv X pinZ σ (upd H ae.objs.size (.lst [])) { s with heap:=ae.push (aiq "list" #[] 0) }:=
  a8.laid (t':=s.toks) (fun b o e=>ahI _ e) (ahM _) ⟨aib _,[],0,.nil,ahU _ rfl⟩
 have aL:gk X pinZ (upd H ae.objs.size (.lst [])) s.heap.objs.size:=I.nK (ahM _) (by rw[cX jD.symm];exact I.bF.fresh (ahM _));have hit:(ae.push (aiq "list" #[] 0)).IsListIter s.heap.objs.size l 0:=⟨_,ahI _ mQ,rfl,rfl⟩;have go2:Go O (fC O ae.objs.size .di) H (upd H ae.objs.size (.lst [])):=Go.new nL;have Av:cV (fC O ae.objs.size .di) (upd H ae.objs.size (.lst [])):=cE.new nL;have pB:fC O ae.objs.size .di ae.objs.size=.di:=nk;have qg:upd H ae.objs.size (.lst []) ae.objs.size=some (.lst []):=de;have gF:(ae.push (aiq "list" #[] 0)).get? ae.objs.size=some (aiq "list" #[] 0):=ahU _ rfl;refine ahO ⟨ajS ain _,?_⟩;generalize ae.push (aiq "list" #[] 0)=ag at *;generalize ae.objs.size=S at *;generalize s.heap.objs.size=it at *;generalize fC O S .di=bf at *;generalize upd H S (.lst [])=aJ at *;refine aki ajp ?_;rw[ajx ain _];show wpAny _ X.A.in1 (akh (.ref S) >>= _) _ _ _;refine ahH (aiQ gF rfl ?_);show wpAny _ X.A.in1 (tryCatch (akd (.ref it)) _ >>= _) _ _ _;refine ahH (ajj (aiv (next_item (E:=fun _ _=>False) (v:=.int b) bM (go2.same.seq aj) rfl aL hit dX) (fun r s1 a4=>?_) fun _ _ dk=>dk.elim));obtain⟨hH,rfl,ma,dr,o1⟩:=a4;obtain⟨_,BS,CH,vals3,lS⟩:=dr.bF S _ qg;show wpAny _ X.A.in1 (updateSeq S (fun _=>#[hH,hH]) >>= _) _ _ _;refine ahH ?_;refine akj lS rfl (hz:=by rw[ahW,<-vals3.length,ah8];simp) ?_;rw[lV];refine ahO ⟨ajS ain _,aj0 (X1 (pinZ:=pinZ) (σ:=σ) (O:=O) jE nL jD aj bs 1 b _ rfl ?_ (by simp) rfl) fun r aM a4=>?_⟩
 ·exact⟨bf,_,wC dr qg lS ma ma,⟨ou nL go2.same qg _,go2.own,go2.bC⟩,Av.d1 qg,de,pB,xc jD aL,xN jD o1⟩
 ·obtain⟨u,rfl,a4⟩:=a4
  exact a4
theorem QW(aE:X.calm=true):iZ X (.builtin "max") (fun xs H Q=>∃(l:Addr)(b:Int)(bs:List Int)(O:a3),xs=[.ref l]/\c3 X.K H l ((b::bs).map V.int)/\cV O H/\
  ∀ai H' v,Go O ai H H'->cV ai H'->Rep X.K X.mg ai H' (.int (iP b bs)) v->Q v H'):=by
 rintro pinZ s σ H xs us Q I bI ⟨l,b,bs,O,ex,aj,cE,q⟩;subst ex;obtain⟨u,rfl,bu⟩:=vals1 bI;cases bu;refine bR (X0 I cE aj (show X.A.in1.handled=none from I.ok.hd aE)) fun u s3 aX=>?_
 obtain⟨eu,cG,v,dr,g3,mJ,Dv,DC⟩:=aX;exact⟨v,cG,dr,DC,q eu cG v g3 mJ Dv⟩
end
theorem WV{K:aP}{mg:bk}:jo K mg (fun xs H Q=>∃(l:Addr)(b:Int)(bs:List Int)(O:a3),xs=[.ref l]/\c3 K H l ((b::bs).map V.int)/\cV O H/\
  ∀ai H' v,Go O ai H H'->cV ai H'->Rep K mg ai H' (.int (iP b bs)) v->Q v H') tR:=fun O σ S ak H vs rs bL au Q st aG h q=>by
 unfold tR at h;split at h
 ·rename_i x
  obtain⟨v,rfl,ah⟩:=kG aG;split at h
  ·rename_i ds e
   split at h
   ·rename_i b bs aD
    cases h;obtain⟨a,ys,rfl,l,bh⟩:=R.mY ah e;have:=sq bh aD;subst this;exact⟨a,b,bs,O,rfl,l,st.b7,fun ai H' v g d r=>q ai v H' g (st.go g d) r trivial⟩
   ·cases h
  ·cases h
 ·cases h
end aY
namespace aY
open PySem PySem.Spec aF
variable[aF.a6]
def n1(t:aO->M Bool)(el:bl)(σ:aO):List D->M (List D)
 |[]=>pure []|.tup [fz,cN]::ds=>do
  let b <-t ((σ.set 0 (.val fz)).set 1 (.val cN))
  if b=true then do
   let r <-el ((σ.set 0 (.val fz)).set 1 (.val cN))
   let x <-r.dat
   let xs <-n1 t el σ ds
   pure (x::xs)
  else n1 t el σ ds
 |_=>bad
def rA(cap:List Nat)(it:eS)(t:aO->M Bool)(el:bl):bl:=fun σ=>do
 let ds <-it σ
 hr (ds.length<ahQ)
 let xs <-n1 t el (hU 2 cap σ) ds
 pure (.fr xs)
section
variable{K:aP}{mg:bk}{cap:List Nat}{it:eS}{t:aO->M Bool}{el:bl}
def Dm(σ:aO):D->Option aO
 |.tup [fz,cN]=>some ((σ.set 0 (.val fz)).set 1 (.val cN))|_=>none
omit [aF.a6]in
theorem I0(σ:aO):∀ds,n1 t el σ ds=k' (Dm σ) t el ds
 |[]=>rfl|d::ds=>by
  cases d with
  |tup xs=>
   match xs with
   |[a,b]=>simp only[n1,k',Dm,I0 σ ds]|[]=>rfl|[_]=>rfl|_::_::_::_=>rfl
  |_=>rfl
theorem Rc:∀ak H Q,e' K mg (rA cap it t el) ak H Q->sN 2 cap (pI K mg it) (oW K 2 (ht [0,1])) (kL K mg t) (e' K mg el) ak H Q:=by
 rintro ak H Q ⟨O,σ,S,r,au,st,h,q⟩;obtain⟨ds,S1,ae,h⟩:=M.inv h;obtain⟨_,bj,ag,h⟩:=M.inv h;obtain⟨hlen,rfl⟩:=p5 ag;obtain⟨xs,hR,bK,h⟩:=M.inv h;cases h;rw[I0]at bK;refine⟨O,σ,S,ds,S1,st,ae,fun aK H1 b9 ys g1 aU its bh=>Am aU hlen (fun H' s=>(its H' s _).2 (ajn bh.len)) (fun k d nt ai H' dK cI g' b3=>?_) bK fun ai v H' g b3 bo nn=>q ai v H' (g1.trans g) b3 bo (nn.back g1.same)⟩;obtain⟨y,e9,bt⟩:=(a_.go g' (bh.da (k2 aK))).get dK;obtain⟨go,mq⟩:=(its H' g'.same k).1 (ahN.mp e9).1;refine⟨go,fun x aJ R ib dB=>?_⟩;obtain⟨rfl,ex⟩:=mq x aJ ib;rw[e9]at ex;cases ex;unfold Dm at cI;split at cI
 ·cases cI
  obtain⟨a,vN,gb,c9,hk,bu,rfl,aaH,gj,b4,rfl,aaI,rfl⟩:=bt;exact⟨a,[hk,gj],gb,c9,rfl,hk,[gj],rfl,gj,[],rfl,rfl,dB _ _ (Go.refl _ _) ((b3.val aaH).val aaI) (((my.refl _).set rfl).set rfl)⟩
 ·cases cI
end
section
variable{X:aQ}{scope esc:Scope}{EN N:List Str}{cap:List Nat}{elt iter:Expr}{ifs:List Expr}{pos dq p1 du:Pos}{x y:Str}{it:eS}{t:aO->M Bool}{el:bl}{k:Nat}
theorem adD(S:kS esc scope EN N 2 cap)(ay:oQ X (.Tuple [.Name x p1,.Name y du] k dq) iter it)(ah:N[0]? = some x)(a':N[1]? = some y)
  (iJ:∀C aL s H,Loc (cm X scope N C aL s H).env.scope x/\(cm X scope N C aL s H).env.scope.names.lookup x=some .local) (qm:∀C aL s H,Loc (cm X scope N C aL s H).env.scope y/\(cm X scope N C aL s H).env.scope.names.lookup y=some .local)
  (bG:∀C aL s H,oP (cm X scope N C aL s H) ifs t) (hY:∀C aL s H,bb (cm X scope N C aL s H) elt el)
  (he:X.env.scope=esc:=by rfl) (hN:X.N=EN:=by rfl) (aE:X.calm=true:=by rfl) (aC:∀x,aip iter X.env x=pure x:=by intro _;rfl)
  (lX:∀C aL s H,(ah4 [.Name x p1,.Name y du] (cm X scope N C aL s H).env).length=2/\(ah4 [.Name x p1,.Name y du] (cm X scope N C aL s H).env).findIdx? (·.1)=none/\
   (ah4 [.Name x p1,.Name y du] (cm X scope N C aL s H).env).map (·.2)=akc (.Name x p1) (cm X scope N C aL s H).env::(ah4 [.Name y du] (cm X scope N C aL s H).env).map (·.2)/\
   (ah4 [.Name y du] (cm X scope N C aL s H).env).map (·.2)=akc (.Name y du) (cm X scope N C aL s H).env::(ah4 [] (cm X scope N C aL s H).env).map (·.2):=by intros;exact⟨rfl,rfl,rfl,rfl⟩) :
  bb X (.ListComp elt [⟨.Tuple [.Name x p1,.Name y du] k dq,iter,ifs,0⟩] scope pos) (rA cap it t el):=
 ⟨eh (De (wi:=pI X.K X.mg it) (g:=oW X.K 2 (ht [0,1])) (tt:=kL X.K X.mg t) (te:=e' X.K X.mg el) S ay.un (fun C aL s H=>qT aE (u9 S.eI ah (iJ C aL s H).1 (u9 S.eI a' (qm C aL s H).1 Dg (lX C aL s H).2.2.2 (.inr (qm C aL s H).2)) (lX C aL s H).2.2.1 (.inr (iJ C aL s H).2)) (lX C aL s H).1 (lX C aL s H).2.1) (fun C aL s H=>(bG C aL s H).un) (fun C aL s H=>(hY C aL s H).un) he hN aE aC) Rc⟩
end
end aY
namespace aY
open PySem PySem.Spec aF
def Hq(N P:List Str)(sc:Scope):Bool:=decide (sc.kind=.function)&&!sc.isCoroutine&&!sc.isGenerator&&decide N.Nodup&&decide (N.take P.length=P)
&&P.all (fun x=>decide (sc.names.lookup x=some .local)||decide (sc.names.lookup x=some .cell))&&sc.names.all fun y=>decide (y.2≠.free)
theorem c5{N P:List Str}(h:Hq N P sc=true):cp N P sc:=by
 simp only[Hq,aix,Bool.not_eq_true',decide_eq_true_eq,aiZ,Bool.or_eq_true]at h;exact⟨h.1.1.1.1.1.1,h.1.1.1.1.1.2,h.1.1.1.1.2,h.1.1.1.2,h.1.1.2,h.1.2,h.2⟩
def GW(EN xs:List Str)(cap:List Nat):List Str:=xs++cap.filterMap fun k=>EN[k]?
def GX(esc scope:Scope)(EN N:List Str)(n:Nat)(cap:List Nat):Bool:=decide (scope.kind=.function)&&scope.names.all (fun y=>decide (y.2≠.cell))&&scope.names.all (fun y=>decide (y.2=.local->scope.names.lookup y.1=some .local))
&&scope.names.all (fun y=>decide (y.2=.free->esc.names.lookup y.1=some .cell\/esc.names.lookup y.1=some .free))&&decide N.Nodup&&decide (N.length=n+cap.length)
&&(aiz cap.length).all fun j=>decide (N[n+j]? = EN[cap.getD j 0]?)&&(match N[n+j]? with | some x=>decide (scope.names.lookup x=some .free) | none=>true)
theorem tH{EN xs:List Str}(h:GX esc scope EN (GW EN xs cap) xs.length cap=true):kS esc scope EN (GW EN xs cap) xs.length cap:=by
 simp only[GX,aix,decide_eq_true_eq,aiZ]at h;obtain⟨⟨⟨⟨⟨⟨ae,ag⟩,bK⟩,dt⟩,eW⟩,iq⟩,TU⟩:=h;refine⟨ae,ag,bK,dt,eW,iq,fun j aZ=>?_⟩;obtain⟨a,b⟩:=TU j (ai4.mpr aZ);refine⟨a,fun x ah=>?_⟩;rw[ah]at b;exact of_decide_eq_true b
theorem n7{N:List Str}(h:decide N.Nodup=true):N.Nodup:=of_decide_eq_true h
theorem sk{p:Nat->Prop}(h0:p 0)(ae:∀n,p (n+1)):∀n,p n:=fun n=>by cases n with | zero=>exact h0 | succ n=>exact ae n
variable[aF.a6]
theorem dk{P:ah1}{w:World}{K:aP}{mg:bk}{base:Heap}{x:Str}{st:Stmt}{ps N:List Str}{k:Nat}{m:bD}{b:a0}(d:cn K mg x st ps)(sc:cp N ps (bH st))(hm:m=fnOf ps.length N.length b)
  (aa:∀(f:Addr)(bw:Value)(A:ah6)(outer:List Env)(s:ahL)(H:av)(E:gn),cB k (A.deeper (aiT x (bH st) s.heap.objs.size f bw))->
   fK (gW ej P w K mg base N x (bH st) f bw A outer s H E).gr (fg st) b):b6 P w K mg base x ps (k+1) (b5 K mg m):=by
 subst hm;exact oY d sc rfl rfl fun f bw A outer s H E aG=>(aa f bw A outer s H E aG).un
end aY
set_option maxHeartbeats 8000000
namespace fp
open PySem PySem.Spec aF aY
def top(i:Nat):Stmt:=PySem.Challenge.pw_oneslate_k33_an_asker_tells.main.body.getD i (.Pass ⟨0,0,0,0⟩)
abbrev L0:Stmt:=top 2
theorem abr:cp ["thing"] ["thing"] (bH L0):=c5 (by kernel_rfl)
abbrev LU:Stmt:=top 3
theorem abl:cp ["mask","keeper"] ["mask","keeper"] (bH LU):=c5 (by kernel_rfl)
abbrev Mi:Stmt:=top 4
theorem abN:cp ["keepers","mask","keeper"] ["keepers"] (bH Mi):=c5 (by kernel_rfl)
abbrev L1:Stmt:=top 5
theorem abt:cp ["mask"] ["mask"] (bH L1):=c5 (by kernel_rfl)
abbrev sH:Stmt:=top 8
theorem Mt:cp ["grants","opening","grant"] ["grants","opening"] (bH sH):=c5 (by kernel_rfl)
abbrev LS:Stmt:=top 10
theorem abk:cp ["grants"] ["grants"] (bH LS):=c5 (by kernel_rfl)
abbrev Mm:Stmt:=top 25
theorem abR:cp ["rule","keepers","part"] ["rule"] (bH Mm):=c5 (by kernel_rfl)
abbrev Ml:Stmt:=top 27
theorem abQ:cp ["rule"] ["rule"] (bH Ml):=c5 (by kernel_rfl)
abbrev LQ:Stmt:=top 28
theorem abi:cp ["rule","mask"] ["rule","mask"] (bH LQ):=c5 (by kernel_rfl)
abbrev aaY:Stmt:=top 34
abbrev Mj:Stmt:=top 35
theorem abO:cp ["hall"] ["hall"] (bH Mj):=c5 (by kernel_rfl)
abbrev Mk:Stmt:=top 36
theorem abP:cp ["hall"] ["hall"] (bH Mk):=c5 (by kernel_rfl)
abbrev LW:Stmt:=top 41
theorem abn:cp ["thing"] ["thing"] (bH LW):=c5 (by kernel_rfl)
abbrev LX:Stmt:=top 42
theorem abo:cp ["thing"] ["thing"] (bH LX):=c5 (by kernel_rfl)
abbrev aaX:Stmt:=top 43
abbrev LR:Stmt:=top 44
theorem abj:cp ["word"] ["word"] (bH LR):=c5 (by kernel_rfl)
abbrev LY:Stmt:=top 45
theorem abp:cp ["kind","thing"] ["kind","thing"] (bH LY):=c5 (by kernel_rfl)
abbrev LV:Stmt:=top 46
theorem abm:cp ["thing","form"] ["thing"] (bH LV):=c5 (by kernel_rfl)
abbrev LK:Stmt:=top 48
theorem abc:cp [] [] (bH LK):=c5 (by kernel_rfl)
abbrev Mo:Stmt:=top 50
theorem abT:cp ["slate"] ["slate"] (bH Mo):=c5 (by kernel_rfl)
abbrev LZ:Stmt:=top 51
theorem abq:cp ["slate"] ["slate"] (bH LZ):=c5 (by kernel_rfl)
abbrev LL:Stmt:=top 52
theorem abd:cp ["slate","name","cell"] ["slate","name"] (bH LL):=c5 (by kernel_rfl)
abbrev qY:Stmt:=top 53
theorem Mu:cp ["slate","name","n","cells"] ["slate","name","n"] (bH qY):=c5 (by kernel_rfl)
abbrev LO:Stmt:=top 54
theorem abg:cp ["slate","asker","doing"] ["slate","asker"] (bH LO):=c5 (by kernel_rfl)
abbrev qZ:Stmt:=top 55
theorem Mv:cp ["slate","asker","number","answer","doings"] ["slate","asker","number","answer"] (bH qZ):=c5 (by kernel_rfl)
abbrev LN:Stmt:=top 60
theorem abf:cp ["slate","asker","deed"] ["slate","asker","deed"] (bH LN):=c5 (by kernel_rfl)
abbrev LM:Stmt:=top 61
theorem abe:cp ["slate","asker","deed","total"] ["slate","asker","deed"] (bH LM):=c5 (by kernel_rfl)
abbrev aaV:Stmt:=top 62
abbrev aaW:Stmt:=top 65
abbrev aaT:Stmt:=top 66
abbrev aaR:Stmt:=top 67
abbrev aaU:Stmt:=top 68
abbrev aaS:Stmt:=top 69
abbrev aaQ:Stmt:=top 70
abbrev Mn:Stmt:=top 72
theorem abS:cp ["slate","asker","deed","doer"] ["slate","asker","deed"] (bH Mn):=c5 (by kernel_rfl)
abbrev LP:Stmt:=top 73
theorem abh:cp ["slate","asker","number","deed","made"] ["slate","asker","number","deed"] (bH LP):=c5 (by kernel_rfl)
abbrev LJ:Stmt:=top 75
theorem abb:cp ["asker","keeper","epoch","stamp"] ["asker","keeper","epoch","stamp"] (bH LJ):=c5 (by kernel_rfl)
abbrev Mp:Stmt:=top 76
theorem abU:cp ["asker","keeper","epoch","stamp","load"] ["asker","keeper","epoch","stamp","load"] (bH Mp):=c5 (by kernel_rfl)
abbrev Ly:Stmt:=inClass (top 78) 0
theorem aa0:cp ["self","me","hall"] ["self","me","hall"] (bH Ly):=c5 (by kernel_rfl)
abbrev DI:Stmt:=inClass (top 78) 1
theorem aa2:cp ["self","deed"] ["self","deed"] (bH DI):=c5 (by kernel_rfl)
abbrev LA:Stmt:=inClass (top 78) 2
theorem aa3:cp ["self"] ["self"] (bH LA):=c5 (by kernel_rfl)
abbrev LC:Stmt:=inClass (top 78) 3
theorem aa5:cp ["self","letter"] ["self","letter"] (bH LC):=c5 (by kernel_rfl)
abbrev LG:Stmt:=inClass (top 78) 4
theorem aa8:cp ["self"] ["self"] (bH LG):=c5 (by kernel_rfl)
abbrev LI:Stmt:=inClass (top 78) 6
theorem aba:cp ["self"] ["self"] (bH LI):=c5 (by kernel_rfl)
abbrev LH:Stmt:=inClass (top 78) 7
theorem aa9:cp ["self"] ["self"] (bH LH):=c5 (by kernel_rfl)
abbrev LF:Stmt:=inClass (top 78) 10
theorem aa7:cp ["self","letter"] ["self","letter"] (bH LF):=c5 (by kernel_rfl)
abbrev Lz:Stmt:=inClass (top 78) 11
theorem aa1:cp ["self"] ["self"] (bH Lz):=c5 (by kernel_rfl)
abbrev LD:Stmt:=inClass (top 78) 12
theorem aa6:cp ["self","letter"] ["self","letter"] (bH LD):=c5 (by kernel_rfl)
abbrev LB:Stmt:=inClass (top 78) 13
theorem aa4:cp ["self","pair","load"] ["self","pair"] (bH LB):=c5 (by kernel_rfl)
abbrev aaP:Stmt:=inClass (top 78) 14
abbrev aaO:Stmt:=inClass (top 78) 15
abbrev aaN:Stmt:=inClass (top 78) 19
abbrev L4:Stmt:=top 80
theorem abx:cp ["script","k"] ["script","k"] (bH L4):=c5 (by kernel_rfl)
abbrev Mf:Stmt:=top 81
theorem abK:cp ["found","due","one","other"] ["found","due"] (bH Mf):=c5 (by kernel_rfl)
abbrev Mh:Stmt:=top 82
theorem abM:cp ["rule","shift"] ["rule","shift"] (bH Mh):=c5 (by kernel_rfl)
abbrev L9:Stmt:=top 83
theorem abC:cp ["cell","three","rows","columns","some","asking","keeping"] ["cell"] (bH L9):=c5 (by kernel_rfl)
abbrev Mc:Stmt:=top 84
theorem abH:cp ["rule","found","part"] ["rule"] (bH Mc):=c5 (by kernel_rfl)
abbrev Ma:Stmt:=top 85
theorem abF:cp ["hall","there"] ["hall"] (bH Ma):=c5 (by kernel_rfl)
abbrev L7:Stmt:=top 86
theorem abA:cp ["rule","keepers"] ["rule","keepers"] (bH L7):=c5 (by kernel_rfl)
abbrev Mb:Stmt:=top 87
theorem abG:cp ["cell","size","at","name","k"] ["cell"] (bH Mb):=c5 (by kernel_rfl)
abbrev L5:Stmt:=top 88
theorem aby:cp ["cell","seed","number"] ["cell","seed"] (bH L5):=c5 (by kernel_rfl)
abbrev L6:Stmt:=top 89
theorem abz:cp ["slate","me","number","deed","cells","doings","lease","shut","later","answer","have","now","rest"] ["slate","me","number","deed"] (bH L6):=c5 (by kernel_rfl)
abbrev Md:Stmt:=top 90
theorem abI:cp ["books","keeper","epoch"] ["books","keeper","epoch"] (bH Md):=c5 (by kernel_rfl)
abbrev L_:Stmt:=top 91
theorem abD:cp ["books","letter","word","asker","keeper","epoch","stamp","load","promised","kept","slate"] ["books","letter"] (bH L_):=c5 (by kernel_rfl)
abbrev L2:Stmt:=top 92
theorem abv:cp ["me","place","stamp"] ["me","place","stamp"] (bH L2):=c5 (by kernel_rfl)
abbrev L3:Stmt:=top 93
theorem abw:cp ["grants","opening","best","slate","keeper","kept","told"] ["grants","opening"] (bH L3):=c5 (by kernel_rfl)
abbrev Mg:Stmt:=top 94
theorem abL:cp ["me","place","stamp","number","deed","grants","best","slate","load"] ["me","place","stamp","number","deed","grants"] (bH Mg):=c5 (by kernel_rfl)
abbrev L8:Stmt:=top 95
theorem abB:cp ["books","place","ghost","number","deed","cell","members","top","asked","told","grants","ask","answer","tell"] ["books","place","ghost","number","deed","cell"] (bH L8):=c5 (by kernel_rfl)
abbrev L':Stmt:=top 96
theorem abE:cp ["one","world","answer","letters","due","there"] ["one","world","answer"] (bH L'):=c5 (by kernel_rfl)
abbrev Me:Stmt:=top 97
theorem abJ:cp ["one","world","me"] ["one","world","me"] (bH Me):=c5 (by kernel_rfl)
abbrev vn:Stmt:=top 98
theorem abu:cp ["script","hall","me","seed","deed","place","one","world","books","answers","k","cell","way","ghost","answer"] ["script"] (bH vn):=c5 (by kernel_rfl)
abbrev yt:List Str:=["me","epoch","hall","opening","over_known","greatest_round","last_stamp","wishes","deed","standing","last_outcome","grants","kept_mask","told_slate"]
abbrev r7:List (Str×D):=[("put",.tup [(.str "name"),(.str "number")]),("add",.tup [(.str "name"),(.str "number")]),("swap",.tup [(.str "name"),(.str "number"),(.str "number")]),("take",.tup [(.str "fence")]),("renew",.tup [(.str "fence")]),("free",.tup [(.str "fence")]),("sure",.tup [(.str "fence"),(.str "name"),(.str "number")]),("move",.tup [(.str "hall")]),("end",.tup [])]
abbrev q4:List (Str×Str):=[("put","do_put"),("add","do_add"),("swap","do_swap"),("take","do_take"),("renew","do_renew"),("free","do_free"),("sure","do_sure"),("move","do_move"),("end","do_end")]
structure Txt[aF.a6](P:ah1)(w:World)(K:aP)(mg:bk)(base:Heap):Prop where
 R2:cn K mg "is_whole" L0 ["thing"]
 RT:cn K mg "has_keeper" LU ["mask","keeper"]
 Sh:cn K mg "mask_of" Mi ["keepers"]
 R3:cn K mg "keepers_of" L1 ["mask"]
 RU:cn K mg "highest" sH ["grants","opening"]
 RS:cn K mg "granters" LS ["grants"]
 G5:cn K mg "namings" Mm ["rule"]
 Sk:cn K mg "named" Ml ["rule"]
 G0:cn K mg "fills" LQ ["rule","mask"]
 RX:cn K mg "is_hall" aaY ["thing"]
 Si:cn K mg "members_mask" Mj ["hall"]
 Sj:cn K mg "members_of" Mk ["hall"]
 RY:cn K mg "is_name" LW ["thing"]
 RZ:cn K mg "is_number" LX ["thing"]
 RW:cn K mg "is_fence" aaX ["thing"]
 RP:cn K mg "form_of" LR ["word"]
 R0:cn K mg "is_part" LY ["kind","thing"]
 RV:cn K mg "is_deed" LV ["thing"]
 RC:cn K mg "blank" LK []
 Sn:cn K mg "shut_of" Mo ["slate"]
 R1:cn K mg "is_shut" LZ ["slate"]
 RD:cn K mg "cell_of" LL ["slate","name"]
 Sp:cn K mg "with_cell" qY ["slate","name","n"]
 RN:cn K mg "doing_of" LO ["slate","asker"]
 Sq:cn K mg "with_doing" qZ ["slate","asker","number","answer"]
 RI:cn K mg "do_put" LN ["slate","asker","deed"]
 RE:cn K mg "do_add" LM ["slate","asker","deed"]
 RL:cn K mg "do_swap" aaV ["slate","asker","deed"]
 RM:cn K mg "do_take" aaW ["slate","asker","deed"]
 RJ:cn K mg "do_renew" aaT ["slate","asker","deed"]
 RG:cn K mg "do_free" aaR ["slate","asker","deed"]
 RK:cn K mg "do_sure" aaU ["slate","asker","deed"]
 RH:cn K mg "do_move" aaS ["slate","asker","deed"]
 RF:cn K mg "do_end" aaQ ["slate","asker","deed"]
 Sl:cn K mg "outcome_of" Mn ["slate","asker","deed"]
 RO:cn K mg "done_on" LP ["slate","asker","number","deed"]
 RB:cn K mg "ask_letter" LJ ["asker","keeper","epoch","stamp"]
 So:cn K mg "tell_letter" Mp ["asker","keeper","epoch","stamp","load"]
 Rn:ie K mg "Asker" "__init__" "Asker.__init__" Ly ["self","me","hall"]
 Ap:vV K mg "Asker" "begin" "Asker.begin" DI ["self","deed"]
 Rp:ie K mg "Asker" "bell" "Asker.bell" LA ["self"]
 Rt:ie K mg "Asker" "hear" "Asker.hear" LC ["self","letter"]
 Rx:ie K mg "Asker" "outcome" "Asker.outcome" LG ["self"]
 RA:ie K mg "Asker" "stand" "Asker.stand" LI ["self"]
 Rz:ie K mg "Asker" "stamp" "Asker.stamp" LH ["self"]
 Rw:ie K mg "Asker" "is_for_now" "Asker.is_for_now" LF ["self","letter"]
 Ro:ie K mg "Asker" "ask_members" "Asker.ask_members" Lz ["self"]
 Ru:ie K mg "Asker" "hear_grant" "Asker.hear_grant" LD ["self","letter"]
 Rr:ie K mg "Asker" "go_on" "Asker.go_on" LB ["self","pair"]
 Ry:ie K mg "Asker" "sees_at_once" "Asker.sees_at_once" aaP ["self","slate"]
 Rv:ie K mg "Asker" "hear_kept" "Asker.hear_kept" aaO ["self","letter"]
 Rq:ie K mg "Asker" "end_wish" "Asker.end_wish" aaN ["self","outcome"]
 R6:cn K mg "_law_cell_at" L4 ["script","k"]
 G3:cn K mg "_law_same" Mf ["found","due"]
 G4:cn K mg "_law_turned" Mh ["rule","shift"]
 R_:cn K mg "_law_hall" L9 ["cell"]
 G2:cn K mg "_law_named" Mc ["rule"]
 Sb:cn K mg "_law_members" Ma ["hall"]
 G1:cn K mg "_law_filled" L7 ["rule","keepers"]
 Sd:cn K mg "_law_name" Mb ["cell"]
 R7:cn K mg "_law_deed" L5 ["cell","seed"]
 R8:cn K mg "_law_done" L6 ["slate","me","number","deed"]
 Se:cn K mg "_law_page" Md ["books","keeper","epoch"]
 R':cn K mg "_law_heard" L_ ["books","letter"]
 R4:cn K mg "_law_asks" L2 ["me","place","stamp"]
 R5:cn K mg "_law_best" L3 ["grants","opening"]
 Sg:cn K mg "_law_tells" Mg ["me","place","stamp","number","deed","grants"]
 R9:cn K mg "_law_ghost" L8 ["books","place","ghost","number","deed","cell"]
 Sa:cn K mg "_law_heard_well" L' ["one","world","answer"]
 Sf:cn K mg "_law_rung" Me ["one","world","me"]
 Aq:cn K mg "law" vn ["script"]
 nG:oC K mg "Asker" yt
 A6:∃u,mg "SMALL_LETTERS"=some u/\RelV (.str "abcdefghijklmnopqrstuvwxyz") u
 A5:∃u,mg "MOST_LETTERS"=some u/\RelV (.int 8) u
 y0:tc P w K mg "DOERS" q4
 BV:KTab P w K mg "FORMS" r7
 B7:∃c oK,mC K c oK (o_ "highest")/\∀(f:Addr)(dw:Value)(c1:Option Addr)(cw doc pm:Value)(an:Option Addr)(bw b':Value)(fj:Array (Option Value)),mg "highest"=some (.ref f)->K.lookup f=some ⟨dw,c1,.func (ajt "highest" "highest" (hV sH) (fg sH) (bH sH) .none cw doc pm an bw b'),fj⟩->bw=.ref c
 Cb:∃c oK,mC K c oK (o_ "with_cell")/\∀(f:Addr)(dw:Value)(c1:Option Addr)(cw doc pm:Value)(an:Option Addr)(bw b':Value)(fj:Array (Option Value)),mg "with_cell"=some (.ref f)->K.lookup f=some ⟨dw,c1,.func (ajt "with_cell" "with_cell" (hV qY) (fg qY) (bH qY) .none cw doc pm an bw b'),fj⟩->bw=.ref c
 Cc:∃c oK,mC K c oK (o_ "with_doing")/\∀(f:Addr)(dw:Value)(c1:Option Addr)(cw doc pm:Value)(an:Option Addr)(bw b':Value)(fj:Array (Option Value)),mg "with_doing"=some (.ref f)->K.lookup f=some ⟨dw,c1,.func (ajt "with_doing" "with_doing" (hV qZ) (fg qZ) (bH qZ) .none cw doc pm an bw b'),fj⟩->bw=.ref c
 bm:kc base mg
 B:Er mg
 kt:tf K
section
variable[aF.a6]{P:ah1}{w:World}{K:aP}{mg:bk}{base:Heap}
def PB:a0:=
  (bE (nD (cC hs (U (J 0) (U (ab (.ty "int")) ar))) (wL (cC hs (U (J 0) (U (ab (.ty "bool")) ar))))))
def sd:bD:=fnOf 1 1 PB
def Fn:a0:=
  (bE (af oEq (af CS (af CU (J 0) (J 1)) (ab (.int 1))) (ab (.int 1))))
def pg:bD:=fnOf 2 2 Fn
def B':a0:=
  (cg 1 (af yu (J 1) (af CT (ab (.int 1)) (J 2))))
def F5:a0:=
  (bE (J 1))
def F4:a0:=
  bZ (nE 2 (BJ (J 0)) B') F5
def F3:a0:=
  bZ (cg 1 (ab (.int 0))) F4
def uI:bD:=fnOf 1 3 F3
def FA:a0:=
  (bE (eV 1 [0] (qu (U (b2 oBits (J 0)) ar)) (bg (bJ pg (U (J 1) (U (J 0) ar)))) (J 0)))
def yh:bD:=fnOf 1 1 FA
def Fp:a0:=
  (bE (bB (U (af aN (J 2) (ab (.int 1))) (U (af aN (J 2) (ab (.int 2))) ar))))
def Fo:a0:=
  bZ (c4 (bg (af oEq (af aN (J 2) (ab (.int 1))) (bB (U (ab (.int 0)) (U (ab (.int 0)) ar))))) (bE (bB (U (af aN (J 2) (ab (.int 1))) (U (J 1) ar)))) cH) Fp
def zX:a0:=
  bZ (cg 2 (wK (fnOf 1 1 (bE (af aN (J 0) (ab (.int 1))))) (J 0))) Fo
def yd:bD:=fnOf 2 3 zX
theorem Uz(T:Txt P w K mg base):b6 P w K mg base "highest" ["grants","opening"] 4 (b5 K mg yd):=by
 show b6 P w K mg base _ _ _ (b5 K mg (fnOf 2 3 zX));obtain⟨c,oK,L,aE⟩:=T.B7;refine Bh (k:=3) T.RU aE Mt rfl rfl fun f A outer s H E aG=>?_
 have cb:=aG.units;refine fK.un ?_;refine pO ?_ (pO ?_ (rf ?_))
 ·exact(Ed (i:=2) Mt.eI rfl (.inl rfl) (adI (k:=0) (N:=["one"]) (p1:="one") rfl T.B.max (aG.mono (by omega)) L T.bm rfl rfl ⟨rfl,rfl,rfl,by decide +kernel,rfl,by decide +kernel,by decide +kernel⟩ (fun _ _ _ _=>rfl) (fun _ _ _ _ _ _=>(h_ h1 hT (es 0) g6)) (es 0)))
 ·exact(Ec (iX (C' cb) zP (h_ h1 hT (es 2) g6) (pM (fT g6 (fT g6 kN)))) (rf (sX (pM (fT (h_ h1 hT (es 2) g6) (fT (es 1) kN))))) Ee)
 ·exact(sX (pM (fT (h_ h1 hT (es 2) g6) (fT (h_ h1 hT (es 2) g6) kN))))
def Fm:a0:=
  (bE (bJ uI (U (eV 1 [] (j3 (J 0)) gi (af aN (J 0) (ab (.int 0)))) ar)))
def pf:bD:=fnOf 1 1 Fm
def Ca(self:bD):a0:=
  (ki 1 vC (U (bJ self (U (J 2) ar)) ar))
def F'(self:bD):a0:=
  (wN 1)
def F_(self:bD):a0:=
  bZ (nE 2 (iu (af aN (J 0) (ab (.int 1)))) (Ca self)) (F' self)
def F9(self:bD):a0:=
  bZ (jz 1 (dS ar)) (F_ self)
def wz(self:bD):a0:=
  bZ (c4 (bg (bJ sd (U (J 0) ar))) (bE (dS (U (J 0) ar))) cH) (F9 self)
def pj:Nat->bD
 |0=>fun _=>bad
 |n+1=>fnOf 1 3 (wz (pj n))
def F8:a0:=
  (bE (bJ uI (U (bJ (pj 12) (U (J 0) ar)) ar)))
def uJ:bD:=fnOf 1 1 F8
def Fj(self:bD):a0:=
  (bE (af oa (cC gX (U (eV 1 [1] (iu (af aN (J 0) (ab (.int 1)))) (bg (bJ self (U (J 0) (U (J 1) ar)))) (J 0)) ar)) (af aN (J 0) (ab (.int 0)))))
def wt(self:bD):a0:=
  bZ (c4 (bg (bJ sd (U (J 0) ar))) (bE (bJ pg (U (J 1) (U (J 0) ar)))) cH) (Fj self)
def l5:Nat->bD
 |0=>fun _=>bad
 |n+1=>fnOf 2 2 (wt (l5 n))
def J1:bD:=fun _=>bad
theorem UC(T:Txt P w K mg base):b6 P w K mg base "is_hall" ["thing"] 1 (b5 K mg J1):=T.RX.none (by rintro vs H Q E ⟨O,ds,r,S,_,_,_,h,_⟩;cases h)
def F6:a0:=
  (bE (af yu (bJ uJ (U (af aN (J 0) (ab (.int 0))) ar)) (bJ uJ (U (af aN (J 0) (ab (.int 1))) ar))))
def yk:bD:=fnOf 1 1 F6
def F7:a0:=
  (bE (bJ yh (U (bJ yk (U (J 0) ar)) ar)))
def m6:bD:=fnOf 1 1 F7
def Fw:a0:=
  (bE (cC rK (U (eV 1 [] (IC (J 0)) gi (af (qP false) (J 0) (ab (.str "abcdefghijklmnopqrstuvwxyz")))) ar)))
def Fv:a0:=
  bZ (c4 (iW (f3 (bg (cC hs (U (J 0) (U (ab (.ty "str")) ar))))) (f3 (bg (i6 oLe oLe (ab (.int 1)) (cC tQ (U (J 0) ar)) (ab (.int 8)))))) (bE (ab (.aA false))) cH) Fw
def ye:bD:=fnOf 1 1 Fv
def Fx:a0:=
  (bE (nD (bJ sd (U (J 0) ar)) (af oLt (cC tO (U (J 0) ar)) (af l8 (ab (.int 10)) (ab (.int 60))))))
def yf:bD:=fnOf 1 1 Fx
def J0:bD:=fun _=>bad
theorem UB(T:Txt P w K mg base):b6 P w K mg base "is_fence" ["thing"] 1 (b5 K mg J0):=T.RW.none (by rintro vs H Q E ⟨O,ds,r,S,_,_,_,h,_⟩;cases h)
def Fl:a0:=
  (bE (Af r7 (J 0)))
def Cv:bD:=fnOf 1 1 Fl
def PA:a0:=
  (bE (bJ J1 (U (J 1) ar)))
def Pz:a0:=
  bZ (c4 (bg (af oEq (J 0) (ab (.str "fence")))) (bE (bJ J0 (U (J 1) ar))) cH) PA
def Fy:a0:=
  bZ (c4 (bg (af oEq (J 0) (ab (.str "number")))) (bE (bJ yf (U (J 1) ar))) cH) Pz
def zY:a0:=
  bZ (c4 (bg (af oEq (J 0) (ab (.str "name")))) (bE (bJ ye (U (J 1) ar))) cH) Fy
def qH:bD:=fnOf 2 2 zY
def Fu:a0:=
  (bE (cC rK (U (tD [] (U (J 1) (U (Ad (J 0) (wM (ab (.int 1))) Ab) ar)) gi (bJ qH (U (J 0) (U (J 1) ar)))) ar)))
def Ft:a0:=
  bZ (c4 (iW (bg (af kE (J 1) (ab (.aW)))) (bg (af ez (cC gX (U (J 0) ar)) (af hx (cC gX (U (J 1) ar)) (ab (.int 1)))))) (bE (ab (.aA false))) cH) Fu
def Fs:a0:=
  bZ (cg 1 (bJ Cv (U (af aN (J 0) (ab (.int 0))) ar))) Ft
def Fq:a0:=
  bZ (c4 (iW (f3 (bg (cC hs (U (J 0) (U (ab (.ty "tuple")) ar))))) (iW (bg (af oEq (cC gX (U (J 0) ar)) (ab (.int 0)))) (f3 (bg (cC hs (U (af aN (J 0) (ab (.int 0))) (U (ab (.ty "str")) ar))))))) (bE (ab (.aA false))) cH) Fs
def uE:bD:=fnOf 1 2 Fq
def Py:a0:=
  (bE (bB (U (bB ar) (U (bB ar) (U (bB (U (ab (.int 0)) (U (ab (.aW)) ar))) (U (ab (.aW)) ar))))))
def JS:bD:=fnOf 0 0 Py
def Ga:a0:=
  (bE (af aN (J 0) (ab (.int 3))))
def Cy:bD:=fnOf 1 1 Ga
def Fz:a0:=
  (bE (af la (bJ Cy (U (J 0) ar)) (ab (.aW))))
def yg:bD:=fnOf 1 1 Fz
def xY:a0:=
  (c4 (bg (af oEq (af aN (J 2) (ab (.int 0))) (J 1))) (bE (af aN (J 2) (ab (.int 1)))) cH)
def Fd:a0:=
  (bE (ab (.int 0)))
def Fc:a0:=
  bZ (nE 2 (iu (af aN (J 0) (ab (.int 0)))) xY) Fd
def uB:bD:=fnOf 2 3 Fc
def Gd:a0:=
  (bE (bB (U (cC lN (U (p3 h3 (fnOf 1 1 (bE (af aN (J 0) (ab (.int 0))))) (J 3)) ar)) (U (af aN (J 0) (ab (.int 1))) (U (af aN (J 0) (ab (.int 2))) (U (af aN (J 0) (ab (.int 3))) ar))))))
def Gb:a0:=
  bZ (c4 (bg (af ez (J 2) (ab (.int 0)))) (ki 3 h9 (U (bB (U (J 1) (U (J 2) ar))) ar)) cH) Gd
def z5:a0:=
  bZ (jz 3 (eV 1 [1] (iu (af aN (J 0) (ab (.int 0)))) (bg (af ez (af aN (J 0) (ab (.int 0))) (J 1))) (J 0))) Gb
def uK:bD:=fnOf 3 4 z5
theorem U'(T:Txt P w K mg base):b6 P w K mg base "with_cell" ["slate","name","n"] 4 (b5 K mg uK):=by
 show b6 P w K mg base _ _ _ (b5 K mg (fnOf 3 4 z5));obtain⟨c,oK,L,aE⟩:=T.Cb;refine Bh (k:=3) T.Sp aE Mu rfl rfl fun f A outer s H E aG=>?_
 have cb:=aG.units;refine fK.un ?_;refine pO ?_ (pO ?_ (rf ?_))
 ·exact(Eb (i:=3) (esc:=(bH qY)) (EN:=["slate","name","n","cells"]) (N:=["cell","name"]) (n:=1) (cap:=[1]) ⟨rfl,by decide +kernel,by decide +kernel,by decide +kernel,by decide +kernel,rfl,by decide +kernel⟩ Mu.eI rfl rfl (by decide) (D8 (h_ h1 hT (es 0) g6)) rfl (fun _ _ _ _=>⟨ajE rfl,rfl⟩) (fun _ _ _ _=>(D9 (iX (yB cb) wq (h_ h1 hT (es 0) g6) (es 1)))) (fun _ _ _ _=>(es 0)))
 ·exact(Ec (iX (yB cb) wq (es 2) g6) (rf (za (i:=3) aj7 aj8 uO x8 (fT (pM (fT (es 1) (fT (es 2) kN))) kN) rfl (.inl rfl))) Ee)
 ·exact(sX (pM (fT (y_ Ah BU rfl T.B.tuple' wG (fT (NC (k:=0) (N:=["cell"]) (p1:="cell") Jg rfl T.B.sorted (aG.mono (by omega)) L T.bm rfl rfl ⟨rfl,rfl,rfl,by decide +kernel,rfl,by decide +kernel,by decide +kernel⟩ (fun _ _ _ _=>rfl) (fun _ _ _ _ _ _=>(h_ h1 hT (es 0) g6)) (es 3)) kN)) (fT (h_ h1 hT (es 0) g6) (fT (h_ h1 hT (es 0) g6) (fT (h_ h1 hT (es 0) g6) kN))))))
def xZ:a0:=
  (c4 (bg (af oEq (af aN (J 2) (ab (.int 0))) (J 1))) (bE (J 2)) cH)
def Fi:a0:=
  (bE (bB (U (J 1) (U (ab (.int 0)) (U (ab (.aW)) ar)))))
def Fh:a0:=
  bZ (nE 2 (iu (af aN (J 0) (ab (.int 1)))) xZ) Fi
def yc:bD:=fnOf 2 3 Fh
def Gf:a0:=
  (bE (bB (U (af aN (J 0) (ab (.int 0))) (U (cC lN (U (p3 fB (fnOf 1 1 (bE (af aN (J 0) (ab (.int 0))))) (J 4)) ar)) (U (af aN (J 0) (ab (.int 2))) (U (af aN (J 0) (ab (.int 3))) ar))))))
def Ge:a0:=
  bZ (ki 4 h9 (U (bB (U (J 1) (U (J 2) (U (J 3) ar)))) ar)) Gf
def z6:a0:=
  bZ (jz 4 (eV 1 [1] (iu (af aN (J 0) (ab (.int 1)))) (bg (af ez (af aN (J 0) (ab (.int 0))) (J 1))) (J 0))) Ge
def yl:bD:=fnOf 4 5 z6
theorem Va(T:Txt P w K mg base):b6 P w K mg base "with_doing" ["slate","asker","number","answer"] 4 (b5 K mg yl):=by
 show b6 P w K mg base _ _ _ (b5 K mg (fnOf 4 5 z6));obtain⟨c,oK,L,aE⟩:=T.Cc;refine Bh (k:=3) T.Sq aE Mv rfl rfl fun f A outer s H E aG=>?_
 have cb:=aG.units;refine fK.un ?_;refine pO ?_ (pO ?_ (rf ?_))
 ·exact(Eb (i:=4) (esc:=(bH qZ)) (EN:=["slate","asker","number","answer","doings"]) (N:=["doing","asker"]) (n:=1) (cap:=[1]) ⟨rfl,by decide +kernel,by decide +kernel,by decide +kernel,by decide +kernel,rfl,by decide +kernel⟩ Mv.eI rfl rfl (by decide) (D8 (h_ h1 hT (es 0) g6)) rfl (fun _ _ _ _=>⟨ajE rfl,rfl⟩) (fun _ _ _ _=>(D9 (iX (yB cb) wq (h_ h1 hT (es 0) g6) (es 1)))) (fun _ _ _ _=>(es 0)))
 ·exact(za (i:=4) aj7 aj8 uO x8 (fT (pM (fT (es 1) (fT (es 2) (fT (es 3) kN)))) kN) rfl (.inl rfl))
 ·exact(sX (pM (fT (h_ h1 hT (es 0) g6) (fT (y_ Ah BU rfl T.B.tuple' wG (fT (NC (k:=0) (N:=["doing"]) (p1:="doing") Jf rfl T.B.sorted (aG.mono (by omega)) L T.bm rfl rfl ⟨rfl,rfl,rfl,by decide +kernel,rfl,by decide +kernel,by decide +kernel⟩ (fun _ _ _ _=>rfl) (fun _ _ _ _ _ _=>(h_ h1 hT (es 0) g6)) (es 4)) kN)) (fT (h_ h1 hT (es 0) g6) (fT (h_ h1 hT (es 0) g6) kN))))))
def Fg:a0:=
  (bE (bB (U (bJ uK (U (J 0) (U (af aN (J 2) (ab (.int 1))) (U (af aN (J 2) (ab (.int 2))) ar)))) (U (bJ uB (U (J 0) (U (af aN (J 2) (ab (.int 1))) ar))) ar))))
def uD:bD:=fnOf 3 3 Fg
def Ff:a0:=
  (bE (bB (U (bJ uK (U (J 0) (U (af aN (J 2) (ab (.int 1))) (U (J 3) ar)))) (U (J 3) ar))))
def Fe:a0:=
  bZ (cg 3 (af hx (bJ uB (U (J 0) (U (af aN (J 2) (ab (.int 1))) ar))) (af aN (J 2) (ab (.int 2))))) Ff
def uC:bD:=fnOf 3 4 Fe
def JY:bD:=fun _=>bad
theorem H5(T:Txt P w K mg base):b6 P w K mg base "do_swap" ["slate","asker","deed"] 1 (b5 K mg JY):=T.RL.none (by rintro vs H Q E ⟨O,ds,r,S,_,_,_,h,_⟩;cases h)
def JZ:bD:=fun _=>bad
theorem H6(T:Txt P w K mg base):b6 P w K mg base "do_take" ["slate","asker","deed"] 1 (b5 K mg JZ):=T.RM.none (by rintro vs H Q E ⟨O,ds,r,S,_,_,_,h,_⟩;cases h)
def JW:bD:=fun _=>bad
theorem H3(T:Txt P w K mg base):b6 P w K mg base "do_renew" ["slate","asker","deed"] 1 (b5 K mg JW):=T.RJ.none (by rintro vs H Q E ⟨O,ds,r,S,_,_,_,h,_⟩;cases h)
def JU:bD:=fun _=>bad
theorem HZ(T:Txt P w K mg base):b6 P w K mg base "do_free" ["slate","asker","deed"] 1 (b5 K mg JU):=T.RG.none (by rintro vs H Q E ⟨O,ds,r,S,_,_,_,h,_⟩;cases h)
def JX:bD:=fun _=>bad
theorem H4(T:Txt P w K mg base):b6 P w K mg base "do_sure" ["slate","asker","deed"] 1 (b5 K mg JX):=T.RK.none (by rintro vs H Q E ⟨O,ds,r,S,_,_,_,h,_⟩;cases h)
def JV:bD:=fun _=>bad
theorem H0(T:Txt P w K mg base):b6 P w K mg base "do_move" ["slate","asker","deed"] 1 (b5 K mg JV):=T.RH.none (by rintro vs H Q E ⟨O,ds,r,S,_,_,_,h,_⟩;cases h)
def JT:bD:=fun _=>bad
theorem HY(T:Txt P w K mg base):b6 P w K mg base "do_end" ["slate","asker","deed"] 1 (b5 K mg JT):=T.RF.none (by rintro vs H Q E ⟨O,ds,r,S,_,_,_,h,_⟩;cases h)
abbrev tS:List (Str×bD):=[("do_put",uD),("do_add",uC),("do_swap",JY),("do_take",JZ),("do_renew",JW),("do_free",JU),("do_sure",JX),("do_move",JV),("do_end",JT)]
def z4:a0:=
  (bE (Aa 3 tS (U (J 0) (U (J 1) (U (J 2) ar)))))
def wA:a0:=
  bZ (cg 3 (Ae q4 (af aN (J 2) (ab (.int 0))))) z4
def m7:bD:=fnOf 3 4 wA
def zW:a0:=
  (bE (bJ yl (U (af aN (J 4) (ab (.int 0))) (U (J 1) (U (J 2) (U (af aN (J 4) (ab (.int 1))) ar))))))
def zV:a0:=
  bZ (cg 4 (bJ m7 (U (J 0) (U (J 1) (U (J 3) ar))))) zW
def zU:a0:=
  bZ (c4 (iW (bg (af kE (J 3) (ab (.aW)))) (iW (bg (bJ yg (U (J 0) ar))) (bg (af oa (af aN (bJ yc (U (J 0) (U (J 1) ar))) (ab (.int 1))) (J 2))))) (bE (J 0)) cH) zV
def m3:bD:=fnOf 4 5 zU
def Px:a0:=
  (bE (bB (U (ab (.str "ask")) (U (J 0) (U (J 1) (U (J 2) (U (J 3) (U (bB ar) ar))))))))
def JR:bD:=fnOf 4 4 Px
def Qt:a0:=
  (bE (bB (U (ab (.str "tell")) (U (J 0) (U (J 1) (U (J 2) (U (J 3) (U (J 4) ar))))))))
def J2:bD:=fnOf 5 5 Qt
def OY:bp:=
  (fa "Asker" "told_slate" (J 0) (dg (ab (.aW))))
def OX:bp:=
  bS (fa "Asker" "kept_mask" (J 0) (dg (ab (.int 0)))) OY
def OW:bp:=
  bS (fa "Asker" "grants" (J 0) (nr (dg (dS ar)))) OX
def OV:bp:=
  bS (fa "Asker" "last_outcome" (J 0) (dg (ab (.aW)))) OW
def O6:bp:=
  bS (fa "Asker" "standing" (J 0) (dg (ab (.str "calm")))) OV
def O5:bp:=
  bS (fa "Asker" "deed" (J 0) (dg (ab (.aW)))) O6
def O4:bp:=
  bS (fa "Asker" "wishes" (J 0) (dg (ab (.int 0)))) O5
def O3:bp:=
  bS (fa "Asker" "last_stamp" (J 0) (dg (bB (U (ab (.int 0)) (U (ab (.int 0)) ar))))) O4
def O2:bp:=
  bS (fa "Asker" "greatest_round" (J 0) (dg (ab (.int 0)))) O3
def O1:bp:=
  bS (fa "Asker" "over_known" (J 0) (dg (ab (.aA false)))) O2
def O0:bp:=
  bS (fa "Asker" "opening" (J 0) (dg (bJ JS ar))) O1
def OZ:bp:=
  bS (fa "Asker" "hall" (J 0) (dg (J 2))) O0
def OU:bp:=
  bS (fa "Asker" "epoch" (J 0) (dg (ab (.int 0)))) OZ
def zS:bp:=
  bS (fa "Asker" "me" (J 0) (dg (J 1))) OU
def x9:fL:=fnX 3 3 zS
def O_:bp:=
  (cj (bE (eV 1 [0] (j3 (bJ m6 (U (b2 (dn "Asker" "hall") (J 0)) ar))) gi (bJ JR (U (b2 (dn "Asker" "me") (J 1)) (U (J 0) (U (b2 (dn "Asker" "epoch") (J 1)) (U (b2 (dn "Asker" "last_stamp") (J 1)) ar))))))))
def O9:bp:=
  bS (fa "Asker" "grants" (J 0) (nr (dg (dS ar)))) O_
def O8:bp:=
  bS (fa "Asker" "standing" (J 0) (dg (ab (.str "asking")))) O9
def O7:bp:=
  bS (fa "Asker" "last_stamp" (J 0) (dg (bB (U (b2 (dn "Asker" "greatest_round") (J 0)) (U (b2 (dn "Asker" "me") (J 0)) ar))))) O8
def E4:bp:=
  bS (fa "Asker" "greatest_round" (J 0) (dg (af hx (b2 (dn "Asker" "greatest_round") (J 0)) (ab (.int 1))))) O7
def x_:fL:=fnX 1 1 E4
def Pe:bp:=
  (ow (hI "Asker" "ask_members" x_ (J 0) ml))
def Pd:bp:=
  bS (fa "Asker" "last_outcome" (J 0) (dg (ab (.aW)))) Pe
def Pc:bp:=
  bS (fa "Asker" "deed" (J 0) (dg (J 1))) Pd
def Pb:bp:=
  bS (fa "Asker" "wishes" (J 0) (dg (af hx (b2 (dn "Asker" "wishes") (J 0)) (ab (.int 1))))) Pc
def Pa:bp:=
  bS (cj (c4 (bg (af ez (b2 (dn "Asker" "standing") (J 0)) (ab (.str "calm")))) tE cH)) Pb
def O':bp:=
  bS (cj (c4 (bg (b2 (dn "Asker" "over_known") (J 0))) tE cH)) Pa
def zT:bp:=
  bS (cj (c4 (g5 (bg (af la (J 1) (ab (.aW)))) (f3 (bg (bJ uE (U (J 1) ar))))) tE cH)) O'
def sa:fL:=fnX 2 2 zT
def Pf:bp:=
  (ow (hI "Asker" "ask_members" x_ (J 0) ml))
def E5:bp:=
  bS (cj (c4 (bg (af oEq (b2 (dn "Asker" "standing") (J 0)) (ab (.str "calm")))) (bE (dS ar)) cH)) Pf
def x':fL:=fnX 1 1 E5
def Pw:a0:=
  (bE (af (jb false) (af aN (J 1) (ab (.int 1))) (bJ m6 (U (b2 (dn "Asker" "hall") (J 0)) ar))))
def E9:a0:=
  bZ (c4 (iW (bg (af ez (af aN (J 1) (ab (.int 3))) (b2 (dn "Asker" "epoch") (J 0)))) (bg (af ez (af aN (J 1) (ab (.int 4))) (b2 (dn "Asker" "last_stamp") (J 0))))) (bE (ab (.aA false))) cH) Pw
def yb:bD:=fnOf 2 2 E9
def JP:bD:=fun _=>bad
theorem Un(T:Txt P w K mg base):et P w K mg base "Asker" "sees_at_once" ["self","slate"] 1 (b5 K mg JP):=T.Ry.none (by rintro vs H Q E ⟨O,ds,r,S,_,_,_,h,_⟩;cases h)
def JM:fL:=fun _=>fi
theorem Ug(T:Txt P w K mg base):et P w K mg base "Asker" "end_wish" ["self","outcome"] 1 (d0 K mg JM):=T.Rq.none (by rintro vs H Q E ⟨O,ds,r,S,au,_,_,_,_,h,_⟩;cases h)
def Pl:bp:=
  (cj (bE (eV 1 [0,2] (j3 (bJ m6 (U (b2 (dn "Asker" "hall") (J 0)) ar))) gi (bJ J2 (U (b2 (dn "Asker" "me") (J 1)) (U (J 0) (U (b2 (dn "Asker" "epoch") (J 1)) (U (b2 (dn "Asker" "last_stamp") (J 1)) (U (J 2) ar)))))))))
def Pk:bp:=
  bS (cj (cg 2 (bB (U (af aN (J 1) (ab (.int 0))) (U (b2 (dn "Asker" "wishes") (J 0)) (U (b2 (dn "Asker" "deed") (J 0)) (U (b2 (dn "Asker" "told_slate") (J 0)) ar))))))) Pl
def Pj:bp:=
  bS (fa "Asker" "told_slate" (J 0) (dg (bJ m3 (U (af aN (J 1) (ab (.int 1))) (U (b2 (dn "Asker" "me") (J 0)) (U (b2 (dn "Asker" "wishes") (J 0)) (U (b2 (dn "Asker" "deed") (J 0)) ar))))))) Pk
def Ph:bp:=
  bS (fa "Asker" "kept_mask" (J 0) (dg (ab (.int 0)))) Pj
def Pg:bp:=
  bS (fa "Asker" "standing" (J 0) (dg (ab (.str "telling")))) Ph
def E6:bp:=
  bS (fD (hl (g5 (bg (af kE (b2 (dn "Asker" "deed") (J 0)) (ab (.aW)))) (bg (jZ "Asker" "sees_at_once" JP (J 0) (U (af aN (J 1) (ab (.int 1))) ar))))) (bS (rg (hI "Asker" "end_wish" JM (J 0) (gw (U (bB (U (ab (.str "saw")) (U (bB (U (b2 (dn "Asker" "epoch") (J 0)) (U (af aN (J 1) (ab (.int 0))) (U (af aN (J 1) (ab (.int 1))) ar)))) ar))) ar))))
  (cj (bE (dS ar)))) (cj cH)) Pg
def ya:fL:=fnX 2 3 E6
def Pu:bp:=
  (ow (hI "Asker" "go_on" ya (J 0) (gw (U (bJ yd (U (jY (b2 (dn "Asker" "grants") (J 0))) (U (b2 (dn "Asker" "opening") (J 0)) ar))) ar))))
def Pt:bp:=
  bS (cj (c4 (f3 (bg (bJ (l5 12) (U (af aN (b2 (dn "Asker" "hall") (J 0)) (ab (.int 0))) (U (bJ pf (U (jY (b2 (dn "Asker" "grants") (J 0))) ar)) ar))))) (bE (dS ar)) cH)) Pu
def Pr:bp:=
  bS (rh h9 (b2 (dn "Asker" "grants") (J 0)) (U (bB (U (af aN (J 1) (ab (.int 1))) (U (af aN (af aN (J 1) (ab (.int 5))) (ab (.int 0))) (U (af aN (af aN (J 1) (ab (.int 5))) (ab (.int 1))) ar)))) ar)) Pt
def E8:bp:=
  bS (cj (c4 (bg (bJ pg (U (bJ pf (U (jY (b2 (dn "Asker" "grants") (J 0))) ar)) (U (af aN (J 1) (ab (.int 1))) ar)))) (bE (dS ar)) cH)) Pr
def sb:fL:=fnX 2 2 E8
def JN:fL:=fun _=>fi
theorem Uk(T:Txt P w K mg base):et P w K mg base "Asker" "hear_kept" ["self","letter"] 1 (d0 K mg JN):=T.Rv.none (by rintro vs H Q E ⟨O,ds,r,S,au,_,_,_,_,h,_⟩;cases h)
def Pq:bp:=
  (cj (bE (dS ar)))
def Pp:bp:=
  bS (fD (hl (g5 (bg (af oEq (af aN (J 1) (ab (.int 0))) (ab (.str "kept")))) (bg (af oEq (b2 (dn "Asker" "standing") (J 0)) (ab (.str "telling")))))) (ow (hI "Asker" "hear_kept" JN (J 0) (gw (U (J 1) ar)))) (cj cH)) Pq
def Po:bp:=
  bS (fD (hl (g5 (bg (af oEq (af aN (J 1) (ab (.int 0))) (ab (.str "grant")))) (bg (af oEq (b2 (dn "Asker" "standing") (J 0)) (ab (.str "asking")))))) (ow (hI "Asker" "hear_grant" sb (J 0) (gw (U (J 1) ar)))) (cj cH)) Pp
def Pn:bp:=
  bS (cj (c4 (f3 (bg (jZ "Asker" "is_for_now" yb (J 0) (U (J 1) ar)))) (bE (dS ar)) cH)) Po
def Pm:bp:=
  bS (fD (hl (bg (af oEq (af aN (J 1) (ab (.int 0))) (ab (.str "late"))))) (bS (fa "Asker" "greatest_round" (J 0) (dg (cC Hl (U (b2 (dn "Asker" "greatest_round") (J 0)) (U (af aN (af aN (af aN (J 1) (ab (.int 5))) (ab (.int 0))) (ab (.int 0))) ar)))))
  (cj (bE (dS ar)))) (cj cH)) Pn
def E7:bp:=
  bS (cj (c4 (bg (af ez (af aN (J 1) (ab (.int 2))) (b2 (dn "Asker" "me") (J 0)))) (bE (dS ar)) cH)) Pm
def m2:fL:=fnX 2 2 E7
def E_:a0:=
  (bE (b2 (dn "Asker" "last_outcome") (J 0)))
def JO:bD:=fnOf 1 1 E_
def Fb:a0:=
  (bE (b2 (dn "Asker" "standing") (J 0)))
def JQ:bD:=fnOf 1 1 Fb
def E':a0:=
  (bE (b2 (dn "Asker" "last_stamp") (J 0)))
def Cu:bD:=fnOf 1 1 E'
def FF:a0:=
  (bE (ab (.int 0)))
def FE:a0:=
  bZ (c4 (bg (af oLt (J 1) (cC gX (U (J 0) ar)))) (bE (af aN (J 0) (J 1))) cH) FF
def l6:bD:=fnOf 2 2 FE
def B_(self:bD):a0:=
  (c4 (f3 (bg (bJ self (U (J 2) (U (J 3) ar))))) (bE (ab (.aA false))) cH)
def Qq(self:bD):a0:=
  (bE (nD (cC hs (U (J 0) (U (ab (.ty "str")) ar))) (af oEq (J 0) (J 1))))
def Qp(self:bD):a0:=
  bZ (c4 (bg (cC hs (U (J 1) (U (ab (.ty "int")) ar)))) (bE (nD (cC hs (U (J 0) (U (ab (.ty "int")) ar))) (nD (wL (cC hs (U (J 0) (U (ab (.ty "bool")) ar)))) (af oEq (J 0) (J 1))))) cH) (Qq self)
def Qo(self:bD):a0:=
  bZ (c4 (bg (cC hs (U (J 1) (U (ab (.ty "bool")) ar)))) (bE (nD (cC hs (U (J 0) (U (ab (.ty "bool")) ar))) (af oEq (J 0) (J 1)))) cH) (Qp self)
def Qn(self:bD):a0:=
  bZ (c4 (bg (af kE (J 1) (ab (.aW)))) (bE (af kE (J 0) (ab (.aW)))) cH) (Qo self)
def F0(self:bD):a0:=
  bZ (c4 (bg (cC tP (U (J 1) (U (bB (U (ab (.ty "tuple")) (U (ab (.ty "list")) ar))) ar)))) (bZ (c4 (iW (f3 (bg (cC tP (U (J 0) (U (bB (U (ab (.ty "tuple")) (U (ab (.ty "list")) ar))) ar))))) (bg (af ez (cC hs (U (J 0) (U (ab (.ty "tuple")) ar))) (cC hs (U (J 1) (U (ab (.ty "tuple")) ar)))))) (bE (ab (.aA false))) cH)
  (bZ (c4 (bg (af ez (cC gX (U (J 0) ar)) (cC gX (U (J 1) ar)))) (bE (ab (.aA false))) cH)
  (bZ (rB [2,3] (U (J 0) (U (J 1) ar)) (B_ self))
  (bE (ab (.aA true)))))) cH) (Qn self)
def h4:Nat->bD
 |0=>fun _=>bad
 |n+1=>fnOf 2 4 (F0 (h4 n))
def F2(self:bD):a0:=
  (bE (bB (U (af aN (J 0) (ab (.int 0))) (U (cC lN (U (eV 1 [1] (iu (af aN (J 0) (ab (.int 1)))) gi (bJ self (U (J 0) (U (J 1) ar)))) ar)) ar))))
def wy(self:bD):a0:=
  bZ (c4 (f3 (bg (cC hs (U (J 0) (U (ab (.ty "tuple")) ar))))) (bE (af oMod (af hx (J 0) (J 1)) (ab (.int 6)))) cH) (F2 self)
def m5:Nat->bD
 |0=>fun _=>bad
 |n+1=>fnOf 2 2 (wy (m5 n))
def FL:a0:=
  (bE (bB (U (bJ (m5 6) (U (J 5) (U (af oMod (af fR (J 0) (ab (.int 10))) (ab (.int 6))) ar))) (U (bJ (m5 6) (U (J 6) (U (af oMod (af fR (J 0) (ab (.int 10))) (ab (.int 6))) ar))) ar))))
def wu:a0:=
  bZ (nF [5,6] (af aN (J 4) (af oMod (J 0) (ab (.int 10))))) FL
def P':a0:=
  bZ (cg 4 (af iv (J 4) (dS (U (bB (U (bB (U (ab (.int 2)) (U (bB (U (ab (.int 0)) (U (bB (U (ab (.int 1)) (U (bB (U (ab (.int 1)) (U (ab (.int 2)) ar))) ar))) ar))) ar))) (U (bB (U (ab (.int 1)) (U (bB (U (ab (.int 0)) (U (bB (U (ab (.int 2)) (U (bB (U (ab (.int 1)) (U (ab (.int 2)) ar))) ar))) ar))) ar))) ar))) ar)))) wu
def P_:a0:=
  bZ (cg 4 (af iv (J 4) (dS (U (bB (U (bB (U (ab (.int 2)) (U (bB (U (ab (.int 0)) (U (ab (.int 0)) (U (ab (.int 1)) (U (ab (.int 2)) ar))))) ar))) (U (bB (U (ab (.int 3)) (U (bB (U (ab (.int 0)) (U (ab (.int 0)) (U (ab (.int 1)) (U (ab (.int 2)) ar))))) ar))) ar))) (U (bB (U (bB (U (ab (.int 2)) (U (bB (U (ab (.int 0)) (U (ab (.int 1)) ar))) ar))) (U (bB (U (ab (.int 1)) (U (bB (U (ab (.int 0)) (U (ab (.int 1)) ar))) ar))) ar))) ar))))) P'
def P9:a0:=
  bZ (cg 4 (af iv (J 4) (dS (U (bB (U (J 2) (U (J 3) ar))) (U (bB (U (J 3) (U (J 2) ar))) (U (bB (U (bB (U (ab (.int 3)) (U (bB (U (ab (.int 0)) (U (ab (.int 1)) (U (ab (.int 2)) (U (ab (.int 3)) (U (ab (.int 4)) ar)))))) ar))) (U (bB (U (ab (.int 3)) (U (bB (U (ab (.int 4)) (U (ab (.int 3)) (U (ab (.int 2)) (U (ab (.int 1)) (U (ab (.int 0)) ar)))))) ar))) ar))) ar)))))) P_
def P8:a0:=
  bZ (cg 4 (dS (U (bB (U (J 1) (U (J 1) ar))) (U (bB (U (ab (.int 0)) (U (ab (.int 0)) ar))) (U (bB (U (bB (U (ab (.int 1)) (U (bB (U (ab (.int 0)) (U (ab (.int 1)) (U (ab (.int 2)) ar)))) ar))) (U (bB (U (ab (.int 3)) (U (bB (U (ab (.int 0)) (U (ab (.int 1)) (U (ab (.int 2)) ar)))) ar))) ar))) (U (bB (U (bB (U (ab (.int 3)) (U (bB (U (ab (.int 0)) (U (ab (.int 1)) (U (ab (.int 2)) ar)))) ar))) (U (bB (U (ab (.int 1)) (U (bB (U (ab (.int 0)) (U (ab (.int 1)) (U (ab (.int 2)) ar)))) ar))) ar))) ar)))))) P9
def P7:a0:=
  bZ (cg 3 (bB (U (ab (.int 2)) (U (bB (U (bB (U (ab (.int 1)) (U (bB (U (ab (.int 0)) (U (ab (.int 1)) ar))) ar))) (U (bB (U (ab (.int 1)) (U (bB (U (ab (.int 2)) (U (ab (.int 3)) ar))) ar))) ar))) ar)))) P8
def P6:a0:=
  bZ (cg 2 (bB (U (ab (.int 1)) (U (bB (U (bB (U (ab (.int 2)) (U (bB (U (ab (.int 0)) (U (ab (.int 1)) ar))) ar))) (U (bB (U (ab (.int 2)) (U (bB (U (ab (.int 2)) (U (ab (.int 3)) ar))) ar))) ar))) ar)))) P7
def z0:a0:=
  bZ (cg 1 (bB (U (ab (.int 2)) (U (bB (U (ab (.int 0)) (U (ab (.int 1)) (U (ab (.int 2)) ar)))) ar)))) P6
def uG:bD:=fnOf 1 7 z0
def B9(self:bD):a0:=
  (cg 1 (af iv (J 1) (bJ self (U (J 2) ar))))
def FY(self:bD):a0:=
  (bE (J 1))
def FX(self:bD):a0:=
  bZ (nE 2 (iu (af aN (J 0) (ab (.int 1)))) (B9 self)) (FY self)
def FW(self:bD):a0:=
  bZ (cg 1 (dS ar)) (FX self)
def wx(self:bD):a0:=
  bZ (c4 (f3 (bg (cC hs (U (J 0) (U (ab (.ty "tuple")) ar))))) (bE (dS (U (J 0) ar))) cH) (FW self)
def n4:Nat->bD
 |0=>fun _=>bad
 |n+1=>fnOf 1 3 (wx (n4 n))
def FP:a0:=
  (bE (eV 1 [1] (qu (U (ab (.int 6)) ar)) (bg (af (jb false) (J 0) (J 1))) (J 0)))
def FO:a0:=
  bZ (cg 1 (af iv (bJ (n4 6) (U (af aN (J 0) (ab (.int 0))) ar)) (bJ (n4 6) (U (af aN (J 0) (ab (.int 1))) ar)))) FP
def sf:bD:=fnOf 1 2 FO
def PZ(self:bD):a0:=
  (bE (af oa (cC gX (U (eV 1 [1] (iu (af aN (J 0) (ab (.int 1)))) (bg (bJ self (U (J 0) (U (J 1) ar)))) (J 0)) ar)) (af aN (J 0) (ab (.int 0)))))
def FJ(self:bD):a0:=
  bZ (c4 (f3 (bg (cC hs (U (J 0) (U (ab (.ty "tuple")) ar))))) (bE (af (jb false) (J 0) (J 1))) cH) (PZ self)
def l7:Nat->bD
 |0=>fun _=>bad
 |n+1=>fnOf 2 2 (FJ (l7 n))
def x2:a0:=
  (c4 (bg (af oEq (J 4) (J 2))) (cg 3 (af sr (J 3) (af aN (ab (.str "abcdefghijklmnopqrstuvwxyz")) (af oMod (af fR (J 0) (ab (.int 64))) (ab (.int 26)))))) (cg 3 (af sr (J 3) (ab (.str "m")))))
def FV:a0:=
  (bE (J 3))
def FU:a0:=
  bZ (nE 4 (qu (U (J 1) ar)) x2) FV
def FT:a0:=
  bZ (cg 3 (ab (.str ""))) FU
def FR:a0:=
  bZ (cg 2 (af oMod (af fR (J 0) (ab (.int 8))) (J 1))) FT
def FQ:a0:=
  bZ (cg 1 (af hx (ab (.int 1)) (af oMod (J 0) (ab (.int 8))))) FR
def sg:bD:=fnOf 1 5 FQ
def FH:a0:=
  (bE (bB (U (af aN (dS (U (ab (.str "put")) (U (ab (.str "add")) (U (ab (.str "add")) ar)))) (af oMod (J 0) (ab (.int 3)))) (U (bJ sg (U (af hx (J 1) (af uX (ab (.int 64)) (af oMod (af fR (J 0) (ab (.int 6))) (ab (.int 3))))) ar)) (U (J 2) ar)))))
def FG:a0:=
  bZ (c4 (bg (af oEq (af oMod (J 0) (ab (.int 5))) (ab (.int 0)))) (cg 2 (af CW (ab (.int 0)) (J 2))) cH) FH
def PS:a0:=
  bZ (cg 2 (af oMod (af fR (J 0) (ab (.int 6))) (af l8 (ab (.int 10)) (ab (.int 40))))) FG
def qI:bD:=fnOf 2 3 PS
def PY:a0:=
  (bE (bB (U (J 4) (U (J 5) (U (J 6) (U (J 7) ar))))))
def PX:a0:=
  bZ (cg 5 (cC lN (U (cC (mM fB) (U (af iv (eV 1 [1] (iu (J 5)) (bg (af ez (af aN (J 0) (ab (.int 0))) (J 1))) (J 0)) (dS (U (bB (U (J 1) (U (J 2) (U (J 9) ar)))) ar))) ar)) ar))) PY
def PW:a0:=
  bZ (c4 (bg (af oEq (af aN (J 3) (ab (.int 0))) (ab (.str "move")))) (cg 7 (af aN (J 3) (ab (.int 1)))) (c4 (bg (af oEq (af aN (J 3) (ab (.int 0))) (ab (.str "end")))) (cg 7 (ab (.str "over"))) (bZ (cg 10 (cC qc (U (rA [3] (iu (J 4)) (bg (af oEq (J 0) (af aN (J 2) (ab (.int 1))))) (J 1)) ar)))
  (bZ (cg 11 (af aN (J 3) (ab (.int 2))))
  (bZ (cg 9 (J 10))
  (bZ (c4 (bg (af oEq (af aN (J 3) (ab (.int 0))) (ab (.str "add")))) (bZ (cg 11 (af hx (J 10) (af aN (J 3) (ab (.int 2)))))
  (cg 9 (J 11))) cH)
  (bZ (jz 12 (eV 1 [3] (iu (J 4)) (bg (af ez (af aN (J 0) (ab (.int 0))) (af aN (J 1) (ab (.int 1))))) (J 0)))
  (bZ (c4 (bg (af ez (J 11) (ab (.int 0)))) (ki 12 h9 (U (bB (U (af aN (J 3) (ab (.int 1))) (U (J 11) ar))) ar)) cH)
  (cg 4 (cC lN (U (cC (mM h3) (U (J 12) ar)) ar))))))))))) PX
def PV:a0:=
  bZ (cg 9 (ab (.int 1))) PW
def PU:a0:=
  bZ (c4 (iW (bg (af kE (J 3) (ab (.aW)))) (iW (bg (af la (J 7) (ab (.aW)))) (bg (af su (cC gX (U (J 8) ar)) (ab (.int 0)))))) (bE (J 0)) cH) PV
def PT:a0:=
  bZ (cg 8 (eV 1 [1,2] (iu (J 5)) (g5 (bg (af oEq (af aN (J 0) (ab (.int 0))) (J 1))) (bg (af oa (af aN (J 0) (ab (.int 1))) (J 2)))) (J 0))) PU
def FI:a0:=
  bZ (nF [4,5,6,7] (J 0)) PT
def se:bD:=fnOf 4 13 FI
def Qh:a0:=
  (bE (wO (J 0) (U (J 1) (U (J 2) ar)) (bB (U (bB (U (ab (.int 0)) (U (ab (.int 0)) ar))) (U (bB (U (ab (.int 0)) (U (ab (.int 0)) ar))) (U (ab (.aW)) ar))))))
def sh:bD:=fnOf 3 3 Qh
def Qd:bp:=
  (cj (bE (bB (U (ab (.str "late")) (U (J 4) (U (J 3) (U (J 5) (U (J 6) (U (bB (U (J 8) ar)) ar)))))))))
def Qc:bp:=
  bS (fD (hl (g5 (bg (af oEq (J 2) (ab (.str "tell")))) (bg (af (m' iN) (J 6) (J 8))))) (bS (vI (J 0) (U (J 4) (U (J 5) ar)) (dg (bB (U (J 6) (U (J 6) (U (af aN (J 7) (ab (.int 3))) ar))))))
  (cj (bE (bB (U (ab (.str "kept")) (U (J 4) (U (J 3) (U (J 5) (U (J 6) (U (bB ar) ar)))))))))) (cj cH)) Qd
def Qb:bp:=
  bS (fD (hl (g5 (bg (af oEq (J 2) (ab (.str "ask")))) (bg (af (m' gI) (J 6) (J 8))))) (bS (vI (J 0) (U (J 4) (U (J 5) ar)) (dg (bB (U (J 6) (U (J 9) (U (J 10) ar))))))
  (cj (bE (bB (U (ab (.str "grant")) (U (J 4) (U (J 3) (U (J 5) (U (J 6) (U (bB (U (J 9) (U (J 10) ar))) ar)))))))))) (cj cH)) Qc
def Qa:bp:=
  bS (cj (nF [8,9,10] (bJ sh (U (J 0) (U (J 4) (U (J 5) ar)))))) Qb
def FN:bp:=
  bS (cj (nF [2,3,4,5,6,7] (J 1))) Qa
def m4:fL:=fnX 2 11 FN
def PN:a0:=
  (bE (eV 1 [0,1,2] (j3 (bJ sf (U (af aN (J 1) (ab (.int 1))) ar))) gi (bB (U (ab (.str "ask")) (U (J 1) (U (J 0) (U (af aN (J 2) (ab (.int 0))) (U (J 3) (U (bB ar) ar)))))))))
def yi:bD:=fnOf 3 3 PN
def B8:a0:=
  (c4 (bg (af (m' gI) (J 5) (J 2))) (bZ (cg 2 (J 5))
  (cg 3 (J 6))) cH)
def PR:a0:=
  (bE (bB (U (J 2) (U (J 3) ar))))
def PQ:a0:=
  bZ (wJ [4,5,6] (BJ (J 0)) B8) PR
def PO:a0:=
  bZ (cg 3 (J 1)) PQ
def FD:a0:=
  bZ (cg 2 (bB (U (ab (.int 0)) (U (ab (.int 0)) ar)))) PO
def Cx:bD:=fnOf 2 7 FD
def Qs:a0:=
  (bE (eV 1 [0,1,2,8] (j3 (bJ sf (U (af aN (J 1) (ab (.int 1))) ar))) gi (bB (U (ab (.str "tell")) (U (J 1) (U (J 0) (U (af aN (J 2) (ab (.int 0))) (U (J 3) (U (J 4) ar)))))))))
def Qr:a0:=
  bZ (cg 8 (bB (U (J 6) (U (J 3) (U (J 4) (U (bJ se (U (J 7) (U (J 0) (U (J 3) (U (J 4) ar))))) ar)))))) Qs
def F1:a0:=
  bZ (nF [6,7] (bJ Cx (U (J 5) (U (af aN (J 1) (ab (.int 2))) ar)))) Qr
def uH:bD:=fnOf 6 9 F1
def Jl:bp:=
  (fD (hl (bg (af oEq (af oMod (af fR (J 8) (af aN (dS (U (ab (.int 1)) (U (ab (.int 2)) (U (ab (.int 4)) (U (ab (.int 8)) (U (ab (.int 16)) (U (ab (.int 32)) ar))))))) (af aN (J 11) (ab (.int 2))))) (ab (.int 2))) (ab (.int 1))))) (bS (kP 12 (ka m4 (gw (U (J 0) (U (J 11) ar)))))
  (cj (ki 10 h9 (U (bB (U (af aN (J 11) (ab (.int 2))) (U (af aN (af aN (J 12) (ab (.int 5))) (ab (.int 0))) (U (af aN (af aN (J 12) (ab (.int 5))) (ab (.int 1))) ar)))) ar)))) (cj cH))
def Jm:bp:=
  (fD (hl (bg (af oEq (af oMod (af fR (J 9) (af aN (dS (U (ab (.int 1)) (U (ab (.int 2)) (U (ab (.int 4)) (U (ab (.int 8)) (U (ab (.int 16)) (U (ab (.int 32)) ar))))))) (af aN (J 13) (ab (.int 2))))) (ab (.int 2))) (ab (.int 1))))) (rg (ka m4 (gw (U (J 0) (U (J 13) ar))))) (cj cH))
def FK:bp:=
  (fD (hl (bg (bJ (l7 6) (U (af aN (af aN (J 1) (ab (.int 1))) (ab (.int 0))) (U (eV 1 [] (j3 (J 10)) gi (af aN (J 0) (ab (.int 0)))) ar))))) (vJ 13 (uk (bJ uH (U (J 2) (U (J 1) (U (bB (U (J 7) (U (J 2) ar))) (U (J 3) (U (J 4) (U (J 10) ar)))))))) Jm) (cj cH))
def P5:bp:=
  bS (vJ 11 (uk (bJ yi (U (J 2) (U (J 1) (U (bB (U (J 7) (U (J 2) ar))) ar))))) Jl) FK
def P4:bp:=
  bS (cj (jz 10 (dS ar))) P5
def P2:bp:=
  bS (cj (cg 9 (af aN (dS (U (ab (.int 63)) (U (af oMod (af fR (J 5) (ab (.int 384))) (ab (.int 64))) ar))) (af oMod (af fR (J 5) (ab (.int 3))) (ab (.int 2)))))) P4
def P1:bp:=
  bS (cj (cg 8 (af aN (dS (U (ab (.int 63)) (U (ab (.int 63)) (U (af oMod (af fR (J 5) (ab (.int 6))) (ab (.int 64))) ar)))) (af oMod (J 5) (ab (.int 3)))))) P2
def P0:bp:=
  bS (cj (cg 7 (af hx (ab (.int 1)) (cC tR (U (eV 1 [0,1] (j3 (J 6)) gi (af aN (af aN (bJ sh (U (J 1) (U (J 0) (U (af aN (J 2) (ab (.int 0))) ar)))) (ab (.int 0))) (ab (.int 0)))) ar))))) P1
def zZ:bp:=
  bS (cj (cg 6 (bJ sf (U (af aN (J 1) (ab (.int 1))) ar)))) P0
def uF:fL:=fnX 6 14 zZ
def Qg:bp:=
  (cj (bE (bJ (h4 14) (U (jZ "Asker" "stand" JQ (J 0) ar) (U (af aN (dS (U (ab (.str "asking")) (U (ab (.str "telling")) ar))) (cC rL (U (af d8 (J 1) (ab (.str "told"))) ar))) ar)))))
def z3:bp:=
  bS (cj (c4 (iW (f3 (bg (bJ (h4 14) (U (J 3) (U (J 4) ar))))) (iW (f3 (bg (bJ (h4 14) (U (jZ "Asker" "stamp" Cu (J 0) ar) (U (af d8 (J 1) (ab (.str "stamp"))) ar))))) (bg (af la (jZ "Asker" "outcome" JO (J 0) ar) (ab (.aW)))))) (bE (ab (.aA false))) cH)) Qg
def z2:bp:=
  bS (fD (hl (bg (af oEq (af aN (J 2) (ab (.int 0))) (ab (.str "late"))))) (jl (J 1) (ab (.str "top")) (dg (cC Hl (U (af d8 (J 1) (ab (.str "top"))) (U (af aN (af aN (af aN (J 2) (ab (.int 5))) (ab (.int 0))) (ab (.int 0))) ar))))) (fD (hl (g5 (bg (af oEq (af aN (J 2) (ab (.int 4))) (af d8 (J 1) (ab (.str "stamp"))))) (g5 (f3 (bg (af d8 (J 1) (ab (.str "told"))))) (bg (af (jb true) (af aN (J 2) (ab (.int 1))) (J 5)))))) (bS (rh h9 (af d8 (J 1) (ab (.str "grants"))) (U (bB (U (af aN (J 2) (ab (.int 1))) (U (af aN (af aN (J 2) (ab (.int 5))) (ab (.int 0))) (U (af aN (af aN (J 2) (ab (.int 5))) (ab (.int 1))) ar)))) ar))
  (fD (hl (bg (bJ (l7 6) (U (af aN (af aN (af d8 (J 1) (ab (.str "place"))) (ab (.int 1))) (ab (.int 0))) (U (af iv (J 5) (dS (U (af aN (J 2) (ab (.int 1))) ar))) ar))))) (bS (jl (J 1) (ab (.str "told")) (dg (ab (.aA true))))
  (cj (cg 4 (bJ uH (U (af aN (J 2) (ab (.int 2))) (U (af d8 (J 1) (ab (.str "place"))) (U (af d8 (J 1) (ab (.str "stamp"))) (U (ab (.int 1)) (U (af d8 (J 1) (ab (.str "deed"))) (U (jY (af d8 (J 1) (ab (.str "grants")))) ar)))))))))) (cj cH))) (cj cH))) z3
def Qf:bp:=
  bS (cj (cg 5 (eV 1 [] (j3 (jY (af d8 (J 1) (ab (.str "grants"))))) gi (af aN (J 0) (ab (.int 0)))))) z2
def Qe:bp:=
  bS (cj (cg 4 (dS ar))) Qf
def z1:bp:=
  bS (kP 3 (hI "Asker" "hear" m2 (J 0) (gw (U (J 2) ar)))) Qe
def ph:fL:=fnX 3 6 z1
def Qm:bp:=
  (cj (bE (bJ (h4 14) (U (af d8 (J 1) (ab (.str "asks"))) (U (bJ yi (U (J 2) (U (af d8 (J 1) (ab (.str "place"))) (U (af d8 (J 1) (ab (.str "stamp"))) ar)))) ar)))))
def Ql:bp:=
  bS (jl (J 1) (ab (.str "asks")) (hI "Asker" "bell" x' (J 0) ml)) Qm
def Qk:bp:=
  bS (jl (J 1) (ab (.str "told")) (dg (ab (.aA false)))) Ql
def Qj:bp:=
  bS (jl (J 1) (ab (.str "grants")) (nr (dg (dS ar)))) Qk
def Qi:bp:=
  bS (jl (J 1) (ab (.str "stamp")) (dg (bB (U (af d8 (J 1) (ab (.str "top"))) (U (J 2) ar))))) Qj
def FZ:bp:=
  bS (jl (J 1) (ab (.str "top")) (dg (af hx (af d8 (J 1) (ab (.str "top"))) (ab (.int 1))))) Qi
def yj:fL:=fnX 3 3 FZ
def x1:bp:=
  (bS (cj (cg 12 (af oMod (J 11) (ab (.int 8)))))
  (fD (hl (bg (af oEq (J 12) (ab (.int 0))))) (bS (cj (cg 13 (af oMod (af hx (af hx (J 2) (ab (.int 1))) (af oMod (af fR (J 11) (ab (.int 8))) (ab (.int 5)))) (ab (.int 6)))))
  (rg (ka uF (gw (U (J 8) (U (J 5) (U (J 13) (U (af hx (J 10) (ab (.int 1))) (U (bJ qI (U (af oMod (af fR (J 11) (ab (.int 40))) (af l8 (ab (.int 10)) (ab (.int 50)))) (U (J 3) ar))) (U (af fR (J 11) (ab (.int 40))) ar)))))))))) (fD (hl (bg (af oEq (J 12) (ab (.int 1))))) (fD (rj (rk (ka yj (gw (U (J 6) (U (J 7) (U (J 2) ar))))))) (cj (bE (ab (.aA false)))) (cj cH)) (bS (kP 14 (ka m4 (gw (U (J 8) (U (af aN (af d8 (J 7) (ab (.str "asks"))) (af oMod (af fR (J 11) (ab (.int 8))) (cC gX (U (af d8 (J 7) (ab (.str "asks"))) ar)))) ar)))))
  (bS (cj (c4 (g5 (bg (af oEq (J 12) (ab (.int 2)))) (bg (af su (cC gX (U (J 9) ar)) (ab (.int 0))))) (cg 14 (af aN (J 9) (af oMod (af fR (J 11) (ab (.int 8))) (cC gX (U (J 9) ar))))) cH))
  (bS (cj (ki 9 h9 (U (J 14) ar)))
  (fD (rj (rk (ka ph (gw (U (J 6) (U (J 7) (U (J 14) ar))))))) (cj (bE (ab (.aA false)))) (cj cH))))))))
def PE:bp:=
  (cj (bE (ab (.aA true))))
def PD:bp:=
  bS (Ef [10,11] (U (Ac (J 0) (wM (ab (.int 4))) (wM (ab (.int 44)))) ar) x1) PE
def PM:bp:=
  bS (cj (jz 9 (dS ar))) PD
def PL:bp:=
  bS (kP 8 (vH (.dT []))) PM
def PK:bp:=
  bS (jl (J 7) (ab (.str "asks")) (hI "Asker" "begin" sa (J 6) (gw (U (J 4) ar)))) PL
def PJ:bp:=
  bS (kP 7 (zb [.inr "place",.inr "deed",.inr "top",.inr "stamp",.inr "grants",.inr "told"] (jQ (dg (J 5)) (jQ (dg (J 4)) (jQ (dg (ab (.int 1))) (jQ (dg (bB (U (ab (.int 1)) (U (J 2) ar)))) (jQ (nr (dg (dS ar))) (jQ (dg (ab (.aA false))) ml)))))))) PK
def PI:bp:=
  bS (kP 6 (vK "Asker" x9 (gw (U (J 2) (U (J 1) ar))))) PJ
def PH:bp:=
  bS (cj (cg 5 (bB (U (ab (.int 0)) (U (J 1) (U (bB (U (bB ar) (U (bB ar) (U (bB (U (ab (.int 0)) (U (ab (.aW)) ar))) (U (ab (.aW)) ar))))) ar)))))) PI
def PG:bp:=
  bS (cj (cg 4 (bJ qI (U (af oMod (bJ l6 (U (J 0) (U (ab (.int 3)) ar))) (af l8 (ab (.int 10)) (ab (.int 50)))) (U (J 3) ar))))) PH
def PF:bp:=
  bS (cj (cg 3 (af oMod (bJ l6 (U (J 0) (U (ab (.int 2)) ar))) (ab (.int 512))))) PG
def PC:bp:=
  bS (cj (cg 2 (af oMod (bJ l6 (U (J 0) (U (ab (.int 1)) ar))) (ab (.int 6))))) PF
def FC:bp:=
  bS (cj (cg 1 (bJ uG (U (af oMod (bJ l6 (U (J 0) (U (ab (.int 0)) ar))) (ab (.int 600))) ar)))) PC
def Cw:fL:=fnX 1 15 FC
structure N7(P:ah1)(w:World)(K:aP)(mg:bk)(base:Heap)(j:Nat):Prop where
 UI:1<=j->b6 P w K mg base "is_whole" ["thing"] 1 (b5 K mg sd)
 Uy:1<=j->b6 P w K mg base "has_keeper" ["mask","keeper"] 1 (b5 K mg pg)
 U3:1<=j->b6 P w K mg base "mask_of" ["keepers"] 1 (b5 K mg uI)
 UJ:2<=j->b6 P w K mg base "keepers_of" ["mask"] 2 (b5 K mg yh)
 Ux:2<=j->b6 P w K mg base "granters" ["grants"] 2 (b5 K mg pf)
 U7:∀n,n+2<=j->b6 P w K mg base "namings" ["rule"] (n+2) (b5 K mg (pj n))
 U6:15<=j->b6 P w K mg base "named" ["rule"] 15 (b5 K mg uJ)
 Uv:∀n,n+2<=j->b6 P w K mg base "fills" ["rule","mask"] (n+2) (b5 K mg (l5 n))
 U4:16<=j->b6 P w K mg base "members_mask" ["hall"] 16 (b5 K mg yk)
 U5:17<=j->b6 P w K mg base "members_of" ["hall"] 17 (b5 K mg m6)
 UD:1<=j->b6 P w K mg base "is_name" ["thing"] 1 (b5 K mg ye)
 UE:2<=j->b6 P w K mg base "is_number" ["thing"] 2 (b5 K mg yf)
 Uw:1<=j->b6 P w K mg base "form_of" ["word"] 1 (b5 K mg Cv)
 UG:3<=j->b6 P w K mg base "is_part" ["kind","thing"] 3 (b5 K mg qH)
 UA:4<=j->b6 P w K mg base "is_deed" ["thing"] 4 (b5 K mg uE)
 Ur:1<=j->b6 P w K mg base "blank" [] 1 (b5 K mg JS)
 U9:1<=j->b6 P w K mg base "shut_of" ["slate"] 1 (b5 K mg Cy)
 UH:2<=j->b6 P w K mg base "is_shut" ["slate"] 2 (b5 K mg yg)
 Us:1<=j->b6 P w K mg base "cell_of" ["slate","name"] 1 (b5 K mg uB)
 Ut:1<=j->b6 P w K mg base "doing_of" ["slate","asker"] 1 (b5 K mg yc)
 H2:5<=j->b6 P w K mg base "do_put" ["slate","asker","deed"] 5 (b5 K mg uD)
 HX:5<=j->b6 P w K mg base "do_add" ["slate","asker","deed"] 5 (b5 K mg uC)
 U8:6<=j->b6 P w K mg base "outcome_of" ["slate","asker","deed"] 6 (b5 K mg m7)
 Uu:7<=j->b6 P w K mg base "done_on" ["slate","asker","number","deed"] 7 (b5 K mg m3)
 Uq:1<=j->b6 P w K mg base "ask_letter" ["asker","keeper","epoch","stamp"] 1 (b5 K mg JR)
 U_:1<=j->b6 P w K mg base "tell_letter" ["asker","keeper","epoch","stamp","load"] 1 (b5 K mg J2)
 Ub:2<=j->et P w K mg base "Asker" "__init__" ["self","me","hall"] 2 (d0 K mg x9)
 Uc:18<=j->et P w K mg base "Asker" "ask_members" ["self"] 18 (d0 K mg x_)
 Ud:19<=j->zw P w K mg base "Asker" "begin" ["self","deed"] 19 (d0 K mg sa)
 Ue:19<=j->et P w K mg base "Asker" "bell" ["self"] 19 (d0 K mg x')
 Ul:18<=j->et P w K mg base "Asker" "is_for_now" ["self","letter"] 18 (b5 K mg yb)
 Uh:18<=j->et P w K mg base "Asker" "go_on" ["self","pair"] 18 (d0 K mg ya)
 Uj:19<=j->et P w K mg base "Asker" "hear_grant" ["self","letter"] 19 (d0 K mg sb)
 Ui:20<=j->et P w K mg base "Asker" "hear" ["self","letter"] 20 (d0 K mg m2)
 Um:1<=j->et P w K mg base "Asker" "outcome" ["self"] 1 (b5 K mg JO)
 Up:1<=j->et P w K mg base "Asker" "stand" ["self"] 1 (b5 K mg JQ)
 Uo:1<=j->et P w K mg base "Asker" "stamp" ["self"] 1 (b5 K mg Cu)
 UM:1<=j->b6 P w K mg base "_law_cell_at" ["script","k"] 1 (b5 K mg l6)
 U0:∀n,n+1<=j->b6 P w K mg base "_law_same" ["found","due"] (n+1) (b5 K mg (h4 n))
 U2:∀n,n+1<=j->b6 P w K mg base "_law_turned" ["rule","shift"] (n+1) (b5 K mg (m5 n))
 UR:8<=j->b6 P w K mg base "_law_hall" ["cell"] 8 (b5 K mg uG)
 UX:∀n,n+1<=j->b6 P w K mg base "_law_named" ["rule"] (n+1) (b5 K mg (n4 n))
 UU:8<=j->b6 P w K mg base "_law_members" ["hall"] 8 (b5 K mg sf)
 UP:∀n,n+1<=j->b6 P w K mg base "_law_filled" ["rule","keepers"] (n+1) (b5 K mg (l7 n))
 UW:1<=j->b6 P w K mg base "_law_name" ["cell"] 1 (b5 K mg sg)
 UN:2<=j->b6 P w K mg base "_law_deed" ["cell","seed"] 2 (b5 K mg qI)
 UO:1<=j->b6 P w K mg base "_law_done" ["slate","me","number","deed"] 1 (b5 K mg se)
 UY:1<=j->b6 P w K mg base "_law_page" ["books","keeper","epoch"] 1 (b5 K mg sh)
 US:2<=j->b6 P w K mg base "_law_heard" ["books","letter"] 2 (d0 K mg m4)
 UK:9<=j->b6 P w K mg base "_law_asks" ["me","place","stamp"] 9 (b5 K mg yi)
 UL:1<=j->b6 P w K mg base "_law_best" ["grants","opening"] 1 (b5 K mg Cx)
 U1:9<=j->b6 P w K mg base "_law_tells" ["me","place","stamp","number","deed","grants"] 9 (b5 K mg uH)
 UQ:10<=j->b6 P w K mg base "_law_ghost" ["books","place","ghost","number","deed","cell"] 10 (d0 K mg uF)
 UT:21<=j->b6 P w K mg base "_law_heard_well" ["one","world","answer"] 21 (d0 K mg ph)
 UZ:20<=j->b6 P w K mg base "_law_rung" ["one","world","me"] 20 (d0 K mg yj)
 C7 {f:Addr}{fd:aiW}(F:kW K "law" "law" vn f fd):22<=j->e3 P w K mg base ej 22 f fd ["script"] (d0 K mg Cw)
theorem aC(T:Txt P w K mg base):∀j,N7 P w K mg base j
 | 0=>by constructor<;>intros<;>omega
 |j+1=>by
  have a9:=aC T j;refine⟨fun aZ=>dk T.R2 abr rfl ?_,
   fun aZ=>dk T.RT abl rfl ?_,
   fun aZ=>dk T.Sh abN rfl ?_,
   fun aZ=>dk T.R3 abt rfl ?_,
   fun aZ=>dk T.RS abk rfl ?_,
   sk (fun _=>T.G5.none (by rintro vs H Q E ⟨O,ds,r,au,_,_,_,h,_⟩;cases h)) fun n aZ=>(oY (k:=n+2) T.G5 abR rfl rfl fun f bw A outer s H E aG=>fK.un ?_:b6 P w K mg base _ _ _ (b5 K mg (fnOf 1 3 (wz (pj n))))).mono (by omega),
   fun aZ=>dk T.Sk abQ rfl ?_,
   sk (fun _=>T.G0.none (by rintro vs H Q E ⟨O,ds,r,au,_,_,_,h,_⟩;cases h)) fun n aZ=>(oY (k:=n+2) T.G0 abi rfl rfl fun f bw A outer s H E aG=>fK.un ?_:b6 P w K mg base _ _ _ (b5 K mg (fnOf 2 2 (wt (l5 n))))).mono (by omega),
   fun aZ=>dk T.Si abO rfl ?_,
   fun aZ=>dk T.Sj abP rfl ?_,
   fun aZ=>dk T.RY abn rfl ?_,
   fun aZ=>dk T.RZ abo rfl ?_,
   fun aZ=>dk T.RP abj rfl ?_,
   fun aZ=>dk T.R0 abp rfl ?_,
   fun aZ=>dk T.RV abm rfl ?_,
   fun aZ=>dk T.RC abc rfl ?_,
   fun aZ=>dk T.Sn abT rfl ?_,
   fun aZ=>dk T.R1 abq rfl ?_,
   fun aZ=>dk T.RD abd rfl ?_,
   fun aZ=>dk T.RN abg rfl ?_,
   fun aZ=>dk T.RI abf rfl ?_,
   fun aZ=>dk T.RE abe rfl ?_,
   fun aZ=>(oY (k:=5) T.Sl abS rfl rfl fun f bw A outer s H E aG=>fK.un (@pO _ _ _ _ _ _ ((Ed (i:=3) (n7 (by kernel_rfl)) rfl (.inl rfl) (ND T.y0 rfl (h_ h1 hT (es 2) g6)))) (@rf _ _ _ _ ((sX (adB (k:=5) (pp:=["slate","asker","deed"]) (lookup_all (by simp only[ajb];exact⟨(a9.H2 (by omega)).mono (by omega),(a9.HX (by omega)).mono (by omega),(H5 T).mono (by omega),(H6 T).mono (by omega),(H3 T).mono (by omega),(HZ T).mono (by omega),(H4 T).mono (by omega),(H0 T).mono (by omega),(HY T).mono (by omega),fun _ h=>nomatch h⟩)) rfl (.inl rfl) (aG.mono (by omega)) (fT (es 0) (fT (es 1) (fT (es 2) kN)))))))):b6 P w K mg base _ _ _ (b5 K mg (fnOf 3 4 wA))),
   fun aZ=>dk T.RO abh rfl ?_,
   fun aZ=>dk T.RB abb rfl ?_,
   fun aZ=>dk T.So abU rfl ?_,
   fun aZ=>(rU (k:=1) T.Rn aa0 rfl rfl fun f bw A outer s H E aG=>?_:et P w K mg base _ _ _ _ (d0 K mg (fnX 3 3 zS))),
   fun aZ=>(rU (k:=17) T.Ro aa1 rfl rfl fun f bw A outer s H E aG=>?_:et P w K mg base _ _ _ _ (d0 K mg (fnX 1 1 E4))),
   fun aZ=>(Ua (k:=18) T.Ap aa2 rfl rfl fun f bw A outer s H E aG=>?_:zw P w K mg base _ _ _ _ (d0 K mg (fnX 2 2 zT))),
   fun aZ=>(rU (k:=18) T.Rp aa3 rfl rfl fun f bw A outer s H E aG=>?_:et P w K mg base _ _ _ _ (d0 K mg (fnX 1 1 E5))),
   fun aZ=>(xo (k:=17) T.Rw aa7 rfl rfl fun f bw A outer s H E aG=>fK.un ?_:et P w K mg base _ _ _ _ (b5 K mg (fnOf 2 2 E9))),
   fun aZ=>(rU (k:=17) T.Rr aa4 rfl rfl fun f bw A outer s H E aG=>?_:et P w K mg base _ _ _ _ (d0 K mg (fnX 2 3 E6))),
   fun aZ=>(rU (k:=18) T.Ru aa6 rfl rfl fun f bw A outer s H E aG=>?_:et P w K mg base _ _ _ _ (d0 K mg (fnX 2 2 E8))),
   fun aZ=>(rU (k:=19) T.Rt aa5 rfl rfl fun f bw A outer s H E aG=>?_:et P w K mg base _ _ _ _ (d0 K mg (fnX 2 2 E7))),
   fun aZ=>(xo (k:=0) T.Rx aa8 rfl rfl fun f bw A outer s H E aG=>fK.un ?_:et P w K mg base _ _ _ _ (b5 K mg (fnOf 1 1 E_))),
   fun aZ=>(xo (k:=0) T.RA aba rfl rfl fun f bw A outer s H E aG=>fK.un ?_:et P w K mg base _ _ _ _ (b5 K mg (fnOf 1 1 Fb))),
   fun aZ=>(xo (k:=0) T.Rz aa9 rfl rfl fun f bw A outer s H E aG=>fK.un ?_:et P w K mg base _ _ _ _ (b5 K mg (fnOf 1 1 E'))),
   fun aZ=>dk T.R6 abx rfl ?_,
   sk (fun _=>T.G3.none (by rintro vs H Q E ⟨O,ds,r,au,_,_,_,h,_⟩;cases h)) fun n aZ=>(oY (k:=n+1) T.G3 abK rfl rfl fun f bw A outer s H E aG=>fK.un ?_:b6 P w K mg base _ _ _ (b5 K mg (fnOf 2 4 (F0 (h4 n))))).mono (by omega),
   sk (fun _=>T.G4.none (by rintro vs H Q E ⟨O,ds,r,au,_,_,_,h,_⟩;cases h)) fun n aZ=>(oY (k:=n+1) T.G4 abM rfl rfl fun f bw A outer s H E aG=>fK.un ?_:b6 P w K mg base _ _ _ (b5 K mg (fnOf 2 2 (wy (m5 n))))).mono (by omega),
   fun aZ=>dk T.R_ abC rfl ?_,
   sk (fun _=>T.G2.none (by rintro vs H Q E ⟨O,ds,r,au,_,_,_,h,_⟩;cases h)) fun n aZ=>(oY (k:=n+1) T.G2 abH rfl rfl fun f bw A outer s H E aG=>fK.un ?_:b6 P w K mg base _ _ _ (b5 K mg (fnOf 1 3 (wx (n4 n))))).mono (by omega),
   fun aZ=>dk T.Sb abF rfl ?_,
   sk (fun _=>T.G1.none (by rintro vs H Q E ⟨O,ds,r,au,_,_,_,h,_⟩;cases h)) fun n aZ=>(oY (k:=n+1) T.G1 abA rfl rfl fun f bw A outer s H E aG=>fK.un ?_:b6 P w K mg base _ _ _ (b5 K mg (fnOf 2 2 (FJ (l7 n))))).mono (by omega),
   fun aZ=>dk T.Sd abG rfl ?_,
   fun aZ=>dk T.R7 aby rfl ?_,
   fun aZ=>dk T.R8 abz rfl ?_,
   fun aZ=>dk T.Se abI rfl ?_,
   fun aZ=>(xp (k:=1) T.R' abD rfl rfl fun f bw A outer s H E aG=>?_:b6 P w K mg base _ _ _ (d0 K mg (fnX 2 11 FN))),
   fun aZ=>dk T.R4 abv rfl ?_,
   fun aZ=>dk T.R5 abw rfl ?_,
   fun aZ=>dk T.Sg abL rfl ?_,
   fun aZ=>(xp (k:=9) T.R9 abB rfl rfl fun f bw A outer s H E aG=>?_:b6 P w K mg base _ _ _ (d0 K mg (fnX 6 14 zZ))),
   fun aZ=>(xp (k:=20) T.Sa abE rfl rfl fun f bw A outer s H E aG=>?_:b6 P w K mg base _ _ _ (d0 K mg (fnX 3 6 z1))),
   fun aZ=>(xp (k:=19) T.Sf abJ rfl rfl fun f bw A outer s H E aG=>?_:b6 P w K mg base _ _ _ (d0 K mg (fnX 3 3 FZ))),
   fun F aZ=>(AY (k:=21) F abu rfl rfl fun bw A outer s H E aG=>?_:e3 P w K mg base ej _ _ _ _ (d0 K mg (fnX 1 15 FC)))⟩
  all_goals try intro f bw A outer s H E aG
  all_goals repeat' first
   | ((with_reducible show bb _ _ _);first
    |(with_reducible show bb _ _ (J _));exact es _
    |(with_reducible show bb _ (.BoolOp _ [_] _) _);refine adN ?_
    |(with_reducible show bb _ _ (af aN _ _));refine h_ h1 hT ?_ ?_ (fun _ _=>rfl)
    |(with_reducible show bb _ _ (bB _));refine pM ?_
    |(with_reducible show bb _ _ (bJ _ ar));refine' adA ?_ ?_ rfl
    |(with_reducible show bb _ _ (bJ _ _));refine' adz ?_ ?_ rfl ?_
    | (with_reducible show bb _ _ (ab (.int _)));first | exact g6 | exact rb (KL rfl T.A5) fun _ _=>rfl
    |(with_reducible show bb _ _ (ab .aW));exact adL
    |(with_reducible show bb _ _ (ab (.aA _)));exact ady
    |(with_reducible show bb _ _ (ab (.ty "tuple")));exact rb (u5 (v:=.ty "tuple") rfl T.B.tuple' wG rfl) fun _ _=>rfl
    |(with_reducible show bb _ _ (ab (.ty "bool")));exact rb (u5 (v:=.ty "bool") rfl T.B.QC QF rfl) fun _ _=>rfl
    |(with_reducible show bb _ _ (ab (.ty "str")));exact rb (u5 (v:=.ty "str") rfl T.B.ach QI rfl) fun _ _=>rfl
    |(with_reducible show bb _ _ (ab (.ty "int")));exact rb (u5 (v:=.ty "int") rfl T.B.IJ Gz rfl) fun _ _=>rfl
    |(with_reducible show bb _ _ (ab (.ty "list")));exact rb (u5 (v:=.ty "list") rfl T.B.XN QG rfl) fun _ _=>rfl
    | (with_reducible show bb _ _ (ab (.str _)));first | exact adQ | exact rb (KL rfl T.A6) fun _ _=>rfl
    |(with_reducible show bb _ _ (af hx _ _));refine lr YQ OG ?_ ?_
    |(with_reducible show bb _ _ (af oMod _ _));refine lr YY OO ?_ ?_
    |(with_reducible show bb _ _ (af fR _ _));refine lr YU OL ?_ ?_
    |(with_reducible show bb _ _ (af iv _ _));refine lr YT OJ ?_ ?_
    |(with_reducible show bb _ _ (af sr _ _));refine lr YR OK ?_ ?_
    |(with_reducible show bb _ _ (af l8 _ _));refine lr Y2 OQ ?_ ?_
    |(with_reducible show bb _ _ (af CW _ _));refine lr Y5 OT ?_ ?_
    |(with_reducible show bb _ _ (af uX _ _));refine lr YZ OP ?_ ?_
    |(with_reducible show bb _ _ (af CS _ _));refine lr YS OH ?_ ?_
    |(with_reducible show bb _ _ (af yu _ _));refine lr Y1 OI ?_ ?_
    |(with_reducible show bb _ _ (af CT _ _));refine lr Y3 OR ?_ ?_
    |(with_reducible show bb _ _ (af CU _ _));refine lr Y4 OS ?_ ?_
    |(with_reducible show bb _ _ (af oEq _ _));refine ra (C' aG.units) zP ?_ ?_ (ja _)
    |(with_reducible show bb _ _ (af kE _ _));refine ra Kz E1 ?_ ?_ (ja _)
    |(with_reducible show bb _ _ (af la _ _));refine ra KC E3 ?_ ?_ (ja _)
    |(with_reducible show bb _ _ (af oa _ _));refine ra Kw EZ ?_ ?_ (ja _)
    |(with_reducible show bb _ _ (af oLt _ _));refine ra KA E2 ?_ ?_ (ja _)
    |(with_reducible show bb _ _ (af (jb false) _ _));refine ra Kx (zQ false) ?_ ?_ rfl
    |(with_reducible show bb _ _ (af (qP false) _ _));refine ra Ky E0 ?_ ?_ rfl
    |(with_reducible show bb _ _ (cC gX _));refine mi QT WT rfl T.B.len GB ?_
    |(with_reducible show bb _ _ (cC hs _));refine mi (QR T.kt) WR rfl T.B.isinstance GA ?_
    |(with_reducible show bb _ _ (cC tP _));refine mi (QS T.kt) WS rfl T.B.isinstance GA ?_
    |(with_reducible show bb _ _ (cC rK _));refine mi (QP rfl) WO rfl T.B.all QE ?_
    |(with_reducible show bb _ _ (cC (tN _) _));refine mi (QV rfl) WK rfl T.B.max GC ?_
    |(with_reducible show bb _ _ (cC tR _));refine mi (QW rfl) WV rfl T.B.max GC ?_
    |(with_reducible show bb _ _ (cC (mM fB) _));refine mi (GG rfl Xg) I2 rfl T.B.sorted z_ ?_
    |(with_reducible show bb _ _ (cC (mM h3) _));refine mi (GG rfl Xh) I2 rfl T.B.sorted z_ ?_
    |(with_reducible show bb _ _ (cC qc _));refine mi (QX rfl) WW rfl T.B.sum QJ ?_
    |(with_reducible show bb _ _ (cC tO _));refine mi QO WN rfl T.B.abs QD ?_
    |(with_reducible show bb _ _ (cC tQ _));refine mi QU WU rfl T.B.len GB ?_
    |(with_reducible show bb _ _ (cC rL _));refine y_ QQ WQ rfl T.B.IJ Gz ?_
    |(with_reducible show bb _ _ (cC lN _));refine y_ Ah BU rfl T.B.tuple' wG ?_
    |(with_reducible show bb _ _ (dS _));refine adH ?_
    |(with_reducible show bb _ _ (nD _ _));refine adv ?_ ?_
    |(with_reducible show bb _ _ (wL _));refine adM ?_
    |(with_reducible show bb _ _ (b2 oBits _));refine adx ?_
    |(with_reducible show bb _ _ (eV _ _ _ _ _));refine adC (tH (xs:=[_]) (by kernel_rfl)) (by decide) ?_ rfl (fun _ _ _ _=>⟨ajE rfl,rfl⟩) (fun _ _ _ _=>?_) (fun _ _ _ _=>?_) (he:=rfl) (hN:=rfl)
    |(with_reducible show bb _ _ (rA _ _ _ _));refine adD (tH (xs:=[_,_]) (by kernel_rfl)) ?_ rfl rfl (fun _ _ _ _=>⟨ajE rfl,rfl⟩) (fun _ _ _ _=>⟨ajE rfl,rfl⟩) (fun _ _ _ _=>?_) (fun _ _ _ _=>?_) (he:=rfl) (hN:=rfl)
    |(with_reducible show bb _ _ (tD _ _ _ _));refine adE (tH (xs:=[_,_]) (by kernel_rfl)) rfl T.B.zip ?_ rfl rfl (fun _ _ _ _=>⟨ajE rfl,rfl⟩) (fun _ _ _ _=>⟨ajE rfl,rfl⟩) (fun _ _ _ _=>?_) (fun _ _ _ _=>?_) (he:=rfl) (hN:=rfl)
    |(with_reducible show bb _ _ (Ac _ _ _));refine adO ?_ ?_ ?_
    |(with_reducible show bb _ _ (Ad _ _ _));refine adP ?_ ?_ ?_
    |(with_reducible show bb _ _ (Ae _ _));refine ND T.y0 rfl ?_
    |(with_reducible show bb _ _ (Af _ _));refine adR T.BV rfl ?_
    |(with_reducible show bb _ _ (wO _ _ _));refine adS aG.units ?_ ?_ ?_
    |(with_reducible show bb _ _ (b2 (dn _ _) _));refine adw T.nG (by simp[yt]) ?_
    |(with_reducible show bb _ _ (af d8 _ _));refine adF aG.units ?_ ?_
    |(with_reducible show bb _ _ (jY _));refine adG ?_
    |(with_reducible show bb _ _ (jZ _ _ _ _ ar));refine' adK ?_ ?_ ?_
    | (with_reducible show bb _ _ (jZ _ _ _ _ _));refine' adJ ?_ ?_ ?_ ?_)
   | ((with_reducible show gm _ _ _);first
    |(with_reducible show gm _ _ (ar));exact kN
    | (with_reducible show gm _ _ (U _ _));refine fT ?_ ?_)
   | ((with_reducible show eM _ _ _);first
    |(show eM _ _ (bE _));refine sX ?_
    |(show eM _ _ (cg _ (eV _ _ _ _ _)));refine ad1 (tH (xs:=[_]) (by kernel_rfl)) (n7 (by kernel_rfl)) rfl rfl (by decide) ?_ rfl (fun _ _ _ _=>⟨ajE rfl,rfl⟩) (fun _ _ _ _=>?_) (fun _ _ _ _=>?_) (he:=rfl) (hN:=rfl)
    | (show eM _ _ (cg _ _));refine Ed (n7 (by kernel_rfl)) rfl (by first | exact ajE rfl | exact aiI rfl | exact aiI (.inl rfl) | exact aiI (aiI rfl)) ?_
    |(show eM _ _ (c4 _ _ _));refine Ec ?_ ?_ ?_
    |(show eM _ _ (jz _ (eV _ _ _ _ _)));refine Eb (tH (xs:=[_]) (by kernel_rfl)) (n7 (by kernel_rfl)) rfl rfl (by decide) ?_ rfl (fun _ _ _ _=>⟨ajE rfl,rfl⟩) (fun _ _ _ _=>?_) (fun _ _ _ _=>?_) (he:=rfl) (hN:=rfl)
    | (show eM _ _ (jz _ _));refine ad7 (n7 (by kernel_rfl)) rfl (by first | exact ajE rfl | exact aiI rfl | exact aiI (.inl rfl) | exact aiI (aiI rfl)) ?_
    | (show eM _ _ (nE _ _ _));refine ad2 akk rfl ?_ (n7 (by kernel_rfl)) rfl (by first | exact ajE rfl | exact aiI rfl | exact aiI (.inl rfl) | exact aiI (aiI rfl)) ?_
    |(show eM _ _ (wI _ _ _));refine ad3 akk rfl rfl T.B.enumerate ?_ ?_ ?_
    |(show eM _ _ (wJ _ _ _));refine ad4 akk rfl ?_ ?_ ?_
    |(show eM _ _ (rB _ _ _));refine ad5 akk rfl rfl T.B.zip ?_ ?_ ?_
    |(show eM _ _ (nF _ _));refine ad9 rfl ?_ ?_
    | (show eM _ _ (ki _ h9 _));refine za aj7 aj8 uO x8 ?_ rfl (by first | exact ajE rfl | exact aiI rfl | exact aiI (.inl rfl) | exact aiI (aiI rfl))
    | (show eM _ _ (ki _ vC _));refine za PySem.F.slot_list_extend PySem.F.type_list_extend Yb XT ?_ rfl (by first | exact ajE rfl | exact aiI rfl | exact aiI (.inl rfl) | exact aiI (aiI rfl))
    |(show eM _ _ (wN _));exact ad8 _
    | (show eM _ _ (tE));exact ad6)
   | ((with_reducible show fe _ _ _);first
    |(with_reducible show fe _ _ (bg (af oEq _ _)));refine iX (C' aG.units) zP ?_ ?_ (ja _)
    |(with_reducible show fe _ _ (bg (af ez _ _)));refine iX (yB aG.units) wq ?_ ?_ (ja _)
    |(with_reducible show fe _ _ (bg (af kE _ _)));refine iX Kz E1 ?_ ?_ (ja _)
    |(with_reducible show fe _ _ (bg (af la _ _)));refine iX KC E3 ?_ ?_ (ja _)
    |(with_reducible show fe _ _ (bg (af oa _ _)));refine iX Kw EZ ?_ ?_ (ja _)
    |(with_reducible show fe _ _ (bg (af su _ _)));refine iX YW ON ?_ ?_ (ja _)
    |(with_reducible show fe _ _ (bg (af oLt _ _)));refine iX KA E2 ?_ ?_ (ja _)
    |(with_reducible show fe _ _ (bg (af oLe _ _)));refine iX Dc zR ?_ ?_ (ja _)
    |(with_reducible show fe _ _ (bg (af (m' gI) _ _)));refine iX (YX aG.units) EY ?_ ?_ (ja _)
    |(with_reducible show fe _ _ (bg (af (m' iN) _ _)));refine iX (YV aG.units) EY ?_ ?_ (ja _)
    |(with_reducible show fe _ _ (bg (af (jb false) _ _)));refine iX Kx (zQ false) ?_ ?_ rfl
    |(with_reducible show fe _ _ (bg (af (jb true) _ _)));refine iX Y0 (zQ true) ?_ ?_ rfl
    |(with_reducible show fe _ _ (bg (af (qP false) _ _)));refine iX Ky E0 ?_ ?_ rfl
    |(with_reducible show fe _ _ (bg (i6 _ _ _ _ _)));refine aea Dc zR Dc zR ?_ ?_ ?_
    |(with_reducible show fe _ _ (bg _));refine aec ?_
    |(with_reducible show fe _ _ (f3 _));refine aeb ?_
    | refine k0.b' ?_)
   | ((with_reducible show k0 _ _ _);first
    |(with_reducible show k0 _ _ (iW _ _));refine aef ?_ ?_
    |(with_reducible show k0 _ _ (g5 _ _));refine aed ?_ ?_
    | first | refine aeg ?_ | refine aee ?_)
   | ((with_reducible show fx _ _ _);first
    |(with_reducible show fx _ _ (dg _));refine aeC ?_
    |(with_reducible show fx _ _ (nr _));refine aeB ?_
    |(with_reducible show fx _ _ (hI _ _ _ _ ml));refine' aeA ?_ ?_ ?_
    |(with_reducible show fx _ _ (hI _ _ _ _ _));refine' aez ?_ ?_ ?_ ?_
    |(with_reducible show fx _ _ (ka _ _));refine' aev ?_ ?_ rfl ?_
    |(with_reducible show fx _ _ (vK _ _ _));refine' aey T.nG ?_ ?_ rfl ?_
    |(with_reducible show fx _ _ (zb _ _));refine aew ?_
    | (with_reducible show fx _ _ (vH _));exact aex)
   | ((with_reducible show nB _ _ _);first
    |(with_reducible show nB _ _ (hl _));refine aeT ?_
    |(with_reducible show nB _ _ (rk _));refine aeU ?_
    | (with_reducible show nB _ _ (rj _));refine aeS ?_)
   | ((with_reducible show lC _ _ _);first
    |(with_reducible show lC _ _ (gw _));refine aes ?_
    |(with_reducible show lC _ _ (ml));exact aer
    | (with_reducible show lC _ _ (jQ _ _));refine aeq ?_ ?_)
   | ((with_reducible show f_ _ _ _);first
    |(show f_ _ _ (cj _));refine aeN ?_
    | (show f_ _ _ (kP _ _));refine aeP (n7 (by kernel_rfl)) rfl (by first | exact ajE rfl | exact aiI rfl | exact aiI (.inl rfl) | exact aiI (aiI rfl)) ?_
    |(show f_ _ _ (fD _ _ _));refine aeL ?_ ?_ ?_
    |(show f_ _ _ (ow _));refine aeO ?_
    |(show f_ _ _ (rg _));refine aeH ?_
    |(show f_ _ _ (fa _ _ _ _));refine aeF T.nG (by simp[yt]) ?_ ?_
    |(show f_ _ _ (jl _ _ _));refine aeG aG.units ?_ ?_ ?_
    |(show f_ _ _ (vI _ _ _));refine aeI aG.units ?_ ?_ ?_
    |(show f_ _ _ (rh h9 _ _));refine aeM aj7 aj8 uO x8 ?_ ?_
    | (show f_ _ _ (vJ _ _ _));refine aeJ akk rfl ?_ (n7 (by kernel_rfl)) rfl (by first | exact ajE rfl | exact aiI rfl | exact aiI (.inl rfl) | exact aiI (aiI rfl)) ?_
    | (show f_ _ _ (Ef _ _ _));refine aeK akk rfl rfl T.B.enumerate ?_ ?_ ?_)
   | ((with_reducible show fK _ _ _);first | exact Ee | refine rf ?_ | refine pO ?_ ?_)
   | ((with_reducible show ju _ _ _);first | ((show ju _ _ (bS _ _));refine aeQ ?_ ?_) | ((with_reducible show ju _ [] _);refine NV ?_) | refine aeR ?_ | refine NV ?_)
   | ((with_reducible show oP _ _ _);first | exact adW | refine D9 ?_)
   |((with_reducible show cB _ _);exact aG.mono (by omega))
   | ((with_reducible show b6 _ _ _ _ _ _ _ _ _);first | exact(a9.UI (by omega)) | exact(a9.Uy (by omega)) | exact(a9.U3 (by omega)) | exact(a9.UJ (by omega)) | exact Uz T | exact(a9.Ux (by omega)) | exact a9.U7 _ (by omega) | exact(a9.U6 (by omega)) | exact a9.Uv _ (by omega) | exact UC T | exact(a9.U4 (by omega)) | exact(a9.U5 (by omega)) | exact(a9.UD (by omega)) | exact(a9.UE (by omega)) | exact UB T | exact(a9.Uw (by omega)) | exact(a9.UG (by omega)) | exact(a9.UA (by omega)) | exact(a9.Ur (by omega)) | exact(a9.U9 (by omega)) | exact(a9.UH (by omega)) | exact(a9.Us (by omega)) | exact U' T | exact(a9.Ut (by omega)) | exact Va T | exact(a9.H2 (by omega)) | exact(a9.HX (by omega)) | exact H5 T | exact H6 T | exact H3 T | exact HZ T | exact H4 T | exact H0 T | exact HY T | exact(a9.U8 (by omega)) | exact(a9.Uu (by omega)) | exact(a9.Uq (by omega)) | exact(a9.U_ (by omega)) | exact(a9.UM (by omega)) | exact a9.U0 _ (by omega) | exact a9.U2 _ (by omega) | exact(a9.UR (by omega)) | exact a9.UX _ (by omega) | exact(a9.UU (by omega)) | exact a9.UP _ (by omega) | exact(a9.UW (by omega)) | exact(a9.UN (by omega)) | exact(a9.UO (by omega)) | exact(a9.UY (by omega)) | exact(a9.US (by omega)) | exact(a9.UK (by omega)) | exact(a9.UL (by omega)) | exact(a9.U1 (by omega)) | exact(a9.UQ (by omega)) | exact(a9.UT (by omega)) | exact(a9.UZ (by omega)))
   | ((with_reducible show et _ _ _ _ _ _ _ _ _ _);first | exact(a9.Ub (by omega)) | exact(a9.Uc (by omega)) | exact(a9.Ud (by omega)).all | exact(a9.Ue (by omega)) | exact(a9.Ul (by omega)) | exact Un T | exact Ug T | exact(a9.Uh (by omega)) | exact(a9.Uj (by omega)) | exact Uk T | exact(a9.Ui (by omega)) | exact(a9.Um (by omega)) | exact(a9.Up (by omega)) | exact(a9.Uo (by omega)))
   | (first | exact Dg | refine u9 (n7 (by kernel_rfl)) rfl (by first | exact ajE rfl | exact aiI rfl | exact aiI (.inl rfl) | exact aiI (aiI rfl)) ?_ | refine ado ?_ | refine D8 ?_ | refine adp rfl T.B.range ?_ | refine adq ?_ | refine adT ?_ | refine adV ?_ | refine adU rfl T.B.range ?_ | refine aeD ?_ | exact adZ | refine ad0 ?_ | exact aeu | refine aet ?_ ?_)
theorem C7(T:Txt P w K mg base)(F:kW K "law" "law" vn f fd):e3 P w K mg base ej 22 f fd ["script"] (d0 K mg Cw):=(aC T 22).C7 F (ahM _)
end
end fp
set_option maxHeartbeats 1000000
namespace aY
open PySem PySem.Spec aF
@[simp] theorem afL{x y:R}:iv x y=match x.own,y.own with
 |some xs,some ys=>if xs.length+ys.length<=ahQ then pure (.fr (xs++ys))else bad|_,_=>bad:=rfl
@[simp] theorem ahw{i j:Int}(ae:0<j)(ag:j<10 ^ 200):nu i j:=iG ae ag
theorem zM{α:Type}{xs:List α}{i:Int}{v:α}(h:ed xs i=some v):v∈xs:=by
 obtain⟨j,_,e,_⟩:=wm h;exact aiw e
theorem zN{α:Type}{xs:List α}{i:Int}(h0:0<=i)(ae:i<xs.length):∃v,ed xs i=some v:=by
 have aj:i.toNat<xs.length:=by omega
 refine⟨xs[i.toNat],?_⟩;have:=nC (xs:=xs) i.toNat (v:=xs[i.toNat]) (by simp[aj])
 rwa[Int.toNat_of_nonneg h0]at this
end aY
namespace ke
inductive aT where
 |kp (k:Nat)
 |ch (k:Nat) (ps:List aT)
mutual
def aT.names:aT->List Nat
 |.kp k=>[k]
 |.ch _ ps=>aT.dY ps
def aT.dY:List aT->List Nat
 |[]=>[]
 |r::rs=>r.names++aT.dY rs
end
mutual
def aT.deep:aT->Nat
 |.kp _=>0|.ch _ ps=>aT.lH ps+1
def aT.lH:List aT->Nat
 |[]=>0|r::rs=>max r.deep (aT.lH rs)
end
mutual
def aT.wf:aT->Prop
 |.kp k=>k<6|.ch k ps=>1<=k/\k<=ps.length/\ps.length<=6/\aT.j' ps
def aT.j':List aT->Prop
 |[]=>True|r::rs=>r.wf/\aT.j' rs
end
mutual
def aT.fills(p:Nat->Bool):aT->Bool
 |.kp k=>p k|.ch k ps=>decide (k<=aT.cnt p ps)
def aT.cnt(p:Nat->Bool):List aT->Nat
 |[]=>0|r::rs=>(if r.fills p then 1 else 0)+aT.cnt p rs
end
theorem y':∀{ps:List aT},aT.j' ps↔∀r∈ps,r.wf
 | []=>by simp[aT.j']| r::rs=>by simp[aT.j',y']
theorem rD:∀{ps:List aT}{n:Nat},aT.lH ps<n->∀r∈ps,r.deep<n
 |r::rs,n,h,x,ah=>by
  simp only[aT.lH]at h;rcases ahP.mp ah with rfl | ah
  ·omega
  ·exact rD (ps:=rs) (by omega) x ah
theorem wW(p:Nat->Bool):∀ps:List aT,(ps.filter (aT.fills p)).length=aT.cnt p ps
 |[]=>rfl|r::rs=>by
  rw[List.filter_cons];simp only[aT.cnt]
  cases h:r.fills p with
  |true=>simp[wW p rs];omega|false=>simp[wW p rs]
mutual
theorem sj:∀r:aT,r.wf->∀k∈r.names,k<6
 | .kp k,h,x,ah=>by simp only[aT.names,aij]at ah;simp only[aT.wf]at h;omega| .ch k ps,h,x,ah=>by simp only[aT.wf]at h;exact Ka ps h.2.2.2 x (by simpa only[aT.names]using ah)
theorem Ka:∀ps:List aT,aT.j' ps->∀k∈aT.dY ps,k<6
 | [],_,x,ah=>by simp[aT.dY]at ah|r::rs,h,x,ah=>by
  simp only[aT.j']at h;simp only[aT.dY,aiL]at ah;rcases ah with ah | ah
  ·exact sj r h.1 x ah
  ·exact Ka rs h.2 x ah
end
theorem uR:∀ps gJ:List aT,aT.dY (ps++gJ)=aT.dY ps++aT.dY gJ
 |[],_=>rfl|r::rs,gJ=>by
  show r.names++aT.dY (rs++gJ)=(r.names++aT.dY rs)++aT.dY gJ;rw[uR rs gJ,akr]
end ke
namespace aY
open PySem PySem.Spec aF ke
mutual
def enc:aT->D
 |.kp k=>.int (k:Nat)|.ch k ps=>.tup [.int (k:Nat),.tup (encL ps)]
def encL:List aT->List D
 |[]=>[]
 |r::rs=>enc r::encL rs
end
theorem Hc:∀ps:List aT,encL ps=ps.map enc
 |[]=>rfl| r::rs=>by rw[ahT,<-Hc rs];rfl
theorem qa(k:Nat)(ps:List aT):enc (.ch k ps)=.tup [.int (k:Nat),.tup (ps.map enc)]:=by rw[<-Hc];rfl
theorem rH(k:Nat):enc (.kp k)=.int (k:Nat):=rfl
@[simp] theorem DJ(r:aT):c8 (enc r)=.val (enc r):=by cases r<;>rfl
theorem Rm{α:Type}(xs:List α)(k:Nat):cutD xs (some (k:Int)) none=xs.drop k:=by
 unfold cutD;rw[dE.vm,dE.aaM]
 by_cases h:k<=xs.length
 ·rw[Nat.min_eq_left h]
  exact ak3 (by rw[aiA];omega)
 ·rw[Nat.min_eq_right (by omega),amv (ahM _),amv (by omega),amG]
end aY
namespace hP
def g8(m k:Nat):Bool:=m / 2 ^ k % 2==1
def xU(m:Nat):List Nat:=(aiz (if m==0 then 0 else m.log2+1)).filter (g8 m)
def ry(b:Bool)(n:Nat):Nat:=if b then n else 0
def si(jV bX bY gB hq jy:Bool):Nat:=ry jV 1+ry bX 2+ry bY 4+ry gB 8+ry hq 16+ry jy 32
def m8(p:Nat->Bool):Nat:=si (p 0) (p 1) (p 2) (p 3) (p 4) (p 5)
theorem X'(p:Nat->Bool)(k:Nat)(az:k<6):m8 p ||| 2 ^ k=m8 fun j=>p j||j==k:=by
 have all:∀jV bX bY gB hq jy:Bool,∀k:Fin 6,si jV bX bY gB hq jy ||| 2 ^ k.val=si (jV||0==k.val) (bX||1==k.val) (bY||2==k.val) (gB||3==k.val) (hq||4==k.val) (jy||5==k.val):=by decide +kernel
 exact all (p 0) (p 1) (p 2) (p 3) (p 4) (p 5) ⟨k,az⟩
theorem J'(p:Nat->Bool)(k:Nat)(az:k<6):(m8 p / 2 ^ k % 2==1)=p k:=by
 have all:∀jV bX bY gB hq jy:Bool,∀k:Fin 6,(si jV bX bY gB hq jy / 2 ^ k.val % 2==1)=[jV,bX,bY,gB,hq,jy].getD k.val false:=by decide +kernel
 have e:=all (p 0) (p 1) (p 2) (p 3) (p 4) (p 5) ⟨k,az⟩;rw[show m8 p=si (p 0) (p 1) (p 2) (p 3) (p 4) (p 5)from rfl,e];have:k=0\/k=1\/k=2\/k=3\/k=4\/k=5:=by omega
 rcases this with rfl | rfl | rfl | rfl | rfl | rfl<;>rfl
theorem X_(p:Nat->Bool):m8 p<64:=by
 have all:∀jV bX bY gB hq jy:Bool,si jV bX bY gB hq jy<64:=by decide +kernel
 exact all _ _ _ _ _ _
def bits(m:Nat):Nat:=if m==0 then 0 else m.log2+1
def maskOf(ns:List Nat):Nat:=ns.foldl (fun m k=>m ||| 2 ^ k) 0
theorem J5:∀(ns:List Nat)(p:Nat->Bool),(∀n∈ns,n<6)->ns.foldl (fun m k=>m ||| 2 ^ k) (m8 p)=m8 fun j=>p j||ns.contains j
 | [],p,_=>by simp|n::r,p,h=>by
  rw[List.foldl_cons,X' p n (h n ah0),J5 r _ fun x ah=>h x (ahR _ ah)]
  congr 1
  funext j
  rw[List.contains_cons,Bool.or_assoc]
theorem J4(ns:List Nat)(h:∀n∈ns,n<6):maskOf ns=m8 fun j=>ns.contains j:=by
 have e:=J5 ns (fun _=>false) h;have z:m8 (fun _=>false)=0:=rfl;rw[z]at e;show ns.foldl (fun m k=>m ||| 2 ^ k) 0=_;rw[e];simp
end hP
namespace nz
open hP ke
mutual
theorem Hn{p q:Nat->Bool}:∀r:aT,(∀k∈r.names,p k=q k)->r.fills p=r.fills q
 | .kp k,h=>by simp only[aT.fills];exact h k (by simp[aT.names])| .ch k ps,h=>by simp only[aT.fills];rw[GS ps fun k az=>h k (by simpa[aT.names]using az)]
theorem GS{p q:Nat->Bool}:∀ps:List aT,(∀k∈aT.dY ps,p k=q k)->aT.cnt p ps=aT.cnt q ps
 |[],_=>rfl|r::rs,h=>by
  simp only[aT.cnt];rw[Hn r fun k az=>h k (by simp[aT.dY,az]),GS rs fun k az=>h k (by simp[aT.dY,az])]
end
end nz
namespace aY
open PySem PySem.Spec aF hP ke nz
def bx(k:Nat):D:=.int (k:Int)
theorem n5(k:Nat):bx k=.int (k:Int):=rfl
theorem Oy(x:Int):aku x 1=x % 2:=W.kbt_mask x 1
theorem KD(a b:Nat):ak5 (a:Int) (b:Int)=((a ||| b:Nat):Int):=by
 have ae:decide (0<=ajd (a:Int))=false:=decide_eq_false (by unfold ajd;omega);have ag:decide (0<=ajd (b:Int))=false:=decide_eq_false (by unfold ajd;omega);have aq:(ajd (ajd (a:Int))).toNat=a:=by unfold ajd;omega
 have aD:(ajd (ajd (b:Int))).toNat=b:=by unfold ajd;omega
 unfold ak5 aku;rw[ae,ag];dsimp only;rw[aq,aD];unfold ajd;omega
theorem Wn(m:Nat):ai0 (m:Int)=hP.bits m:=by
 unfold ai0 hP.bits;rw[Int.natAbs_natCast]
 by_cases h:m=0
 ·subst h;rfl
 ·have h':(m:Int)≠0:=by omega
  rw[beq_eq_false_iff_ne.mpr h,beq_eq_false_iff_ne.mpr h']
theorem bits_le(m:Nat)(h:m<64):hP.bits m<=6:=by
 have all:∀m:_root_.Fin 64,hP.bits m.val<=6:=by decide +kernel
 exact all ⟨m,h⟩
theorem W5(m:Nat):xU m=(aiz (hP.bits m)).filter (g8 m):=rfl
theorem CB(br:List Nat)(k:Nat):hP.maskOf (br++[k])=hP.maskOf br ||| 2 ^ k:=by
 unfold hP.maskOf;rw[List.foldl_append];rfl
theorem take_snoc{α:Type}{l:List α}{i:Nat}{x:α}(h:l[i]? = some x):l.take (i+1)=l.take i++[x]:=by
 rw[alV,h];rfl
theorem CA{α β:Type}{f:α->β}{l:List α}{i:Nat}{y:β}(h:(l.map f)[i]? = some y):∃x,l[i]? = some x/\y=f x:=by
 rw[aia]at h
 cases e:l[i]? with
 |none=>rw[e]at h;cases h
 |some x=>rw[e]at h;exact⟨x,rfl,(aih h).symm⟩
theorem Qz(m k:Nat):(aku ((m:Int) / 2 ^ k) 1==1)=g8 m k:=by
 rw[Oy];unfold g8;have aq:((m:Int) / 2 ^ k) % 2=((m / 2 ^ k % 2:Nat):Int):=by
  rw[Int.natCast_emod,Int.natCast_ediv,Int.natCast_pow];rfl
 rw[aq,ajg,beq_iff_eq,beq_iff_eq];omega
theorem Lr(n:Nat):nh 0 n=(aiz n).map bx:=by
 unfold nh;refine List.map_congr_left fun i _=>?_
 show D.int (0+(i:Int))=.int (i:Int);rw[Int.zero_add]
theorem IG(k:Nat)(br:List Nat):inD (bx k) (br.map bx)=br.contains k:=by
 unfold inD;rw[List.any_map,List.contains_eq_any_beq]
 congr 1
 funext j
 show jc (.int (j:Int)) (.int (k:Int))=(k==j);rw[ajg,beq_iff_eq];simp[jc];omega
theorem lG{α:Type}{t:aO->M Bool}{el:bl}{σ:aO}(f:α->D)(p:α->Bool)(g:α->D):∀xs:List α,(∀x∈xs,t (σ.set 0 (.val (f x)))=pure (p x))->(∀x∈xs,p x=true->(el (σ.set 0 (.val (f x))) >>= R.dat)=pure (g x))->
  fO t el σ (xs.map f)=pure ((xs.filter p).map g)
 |[],_,_=>rfl|x::xs,ae,ag=>by
  have a9:=lG f p g xs (fun x ah=>ae x (ahR _ ah)) fun x ah=>ag x (ahR _ ah)
  rw[ahT];unfold fO;rw[ae x ah0,pure_bind]
  cases e:p x with
  | false=>rw[if_neg ahV,a9,List.filter_cons_of_neg (by rw[e];exact ahV)]|true=>
   have h:=ag x ah0 e;rw[if_pos rfl,<-bind_assoc,h,pure_bind,a9,pure_bind,List.filter_cons_of_pos e];rfl
theorem p7{α:Type}{el:bl}{σ:aO}(f:α->D)(g:α->D)(xs:List α)(h:∀x∈xs,(el (σ.set 0 (.val (f x))) >>= R.dat)=pure (g x)):fO gi el σ (xs.map f)=pure (xs.map g):=by
 have:=lG (t:=gi) (el:=el) (σ:=σ) f (fun _=>true) g xs (fun _ _=>rfl) fun x ah _=>h x ah
 rw[this]
 congr 2
 exact List.filter_eq_self.mpr fun _ _=>rfl
theorem A0{α:Type}{b:D->a0}(f:α->D)(p:α->Bool)(v:α->R)(I:aO->Prop):∀(xs:List α)(σ:aO),I σ->
  (∀x σ,x∈xs->I σ->(p x=true->b (f x) σ=pure (.cS (v x)))/\(p x=false->∃σ',b (f x) σ=pure (.bq σ')/\I σ'))->
  (∀x,xs.find? p=some x->gc b (xs.map f) σ=pure (.cS (v x)))/\(xs.find? p=none->∃σ',gc b (xs.map f) σ=pure (.bq σ')/\I σ')
 |[],σ,h0,_=>⟨fun x h=>(nomatch h),fun _=>⟨σ,rfl,h0⟩⟩
 |x::xs,σ,h0,step=>by
  obtain⟨s1,s2⟩:=step x σ ah0 h0
  cases e:p x with
  |true=>
   rw[aiP e];refine⟨fun y h=>?_,fun h=>(nomatch h)⟩;cases h;show(b (f x) σ >>= _)=_;rw[s1 e];rfl
  |false=>
   obtain⟨hJ,aq,ae⟩:=s2 e;have a9:=A0 f p v I xs hJ ae fun y σ a'=>step y σ (ahR _ a')
   rw[aiF (by rw[e];exact ahV)];have u:gc b ((x::xs).map f) σ=gc b (xs.map f) hJ:=by
    show(b (f x) σ >>= _)=_;rw[aq];rfl
   rw[u];exact a9
end aY
namespace aY
open PySem PySem.Spec aF
mutual
def D.D':D->Bool
 |.tup xs=>decide (xs.length<=1000)&&pN xs|.lst xs=>decide (xs.length<=1000)&&pN xs|.ref _=>true|.fn _=>true|.ty _=>true|.aW=>true|.aA _=>true|.int _=>true|.str _=>true
def pN:List D->Bool
 |[]=>true|x::xs=>x.D'&&pN xs
end
theorem Ea:∀{xs:List D},pN xs=true↔∀x∈xs,x.D'=true
 | []=>by simp[pN]| x::xs=>by simp[pN,Ea]
theorem A7:∀{xs:List D}{n:Nat},ip xs n=true↔∀x∈xs,x.bO n=true
 | [],_=>by simp[ip]| x::xs,n=>by simp[ip,A7]
def Ok(n:Nat)(d:D):Prop:=d.bO n=true/\d.D'=true
theorem Kv:Ok n .aW:=⟨rfl,rfl⟩
theorem h5{i:Int}:Ok n (.int i):=⟨rfl,rfl⟩
theorem oc(h:ah9 x=true):Ok n (.str x):=⟨h,rfl⟩
theorem pA{xs:List D}(aj:xs.length<=1000)(h:∀x∈xs,Ok n x):Ok (n+1) (.tup xs):=
 ⟨A7.mpr fun x ah=>(h x ah).1,by show(decide (xs.length<=1000)&&pN xs)=true;rw[decide_eq_true aj,Ea.mpr fun x ah=>(h x ah).2];rfl⟩
theorem Tu:∀{d:D}{n m:Nat},n<=m->d.bO n=true->d.bO m=true:=by
 intro d
 induction d using D.rec (motive_2:=fun ds=>∀n m,n<=m->ip ds n=true->ip ds m=true)with
 |aW=>exact fun _ h=>h
 |aA _=>exact fun _ h=>h
 |int _=>exact fun _ h=>h
 |str _=>exact fun _ h=>h
 |fn _=>exact fun _ h=>h
 |ty _=>exact fun _ h=>h
 |ref _=>exact fun _ h=>h
 |tup xs a9=>
  intro n m hm h
  cases n with
  |zero=>cases h
  |succ n=>
   cases m with
   |zero=>omega| succ m=>exact a9 n m (by omega) h
 |lst xs a9=>
  intro n m hm h
  cases n with
  |zero=>cases h
  |succ n=>
   cases m with
   |zero=>omega| succ m=>exact a9 n m (by omega) h
 |nil=>rfl|cons x xs um uo=>
  rename_i n m hm h;have h:(x.bO n&&ip xs n)=true:=h;rw[aix]at h;show(x.bO m&&ip xs m)=true;rw[um hm h.1,uo n m hm h.2];rfl
theorem pz(h:Ok n d)(hm:n<=m):Ok m d:=⟨Tu hm h.1,h.2⟩
theorem yx(ae:Ok n a)(ag:Ok n b):Ok (n+1) (.tup [a,b]):=pA (by simp) (by simp only[ajb];exact⟨ae,ag,fun _ h=>nomatch h⟩)
theorem C2(ae:Ok n a)(ag:Ok n b)(bK:Ok n c):Ok (n+1) (.tup [a,b,c]):=pA (by simp) (by simp only[ajb];exact⟨ae,ag,bK,fun _ h=>nomatch h⟩)
theorem Ks(ae:Ok n a)(ag:Ok n b)(bK:Ok n c)(dt:Ok n d):Ok (n+1) (.tup [a,b,c,d]):=pA (by simp) (by simp only[ajb];exact⟨ae,ag,bK,dt,fun _ h=>nomatch h⟩)
theorem Kt(ae:Ok n a)(ag:Ok n b)(bK:Ok n c)(dt:Ok n d)(eW:Ok n e)(iq:Ok n f):Ok (n+1) (.tup [a,b,c,d,e,f]):=pA (by simp) (by simp only[ajb];exact⟨ae,ag,bK,dt,eW,iq,fun _ h=>nomatch h⟩)
theorem C1:Ok (n+1) (.tup []):=pA (by simp) fun _ h=>nomatch h
@[simp] theorem agb:R.kB (.b1 xs)=false:=rfl
@[simp] theorem af8:R.kB (.v (.lst xs))=false:=rfl
@[simp] theorem af5:R.kB (.v (.aA b))=false:=rfl
@[simp] theorem agr{z:Str}:tQ [.v (.str z)]=if z.length<=ahQ then pure (.v (.int (z.length:Nat)))else bad:=rfl
@[simp] theorem afM{x y:Str}:sr (.v (.str x)) (.v (.str y))=if x.length+y.length<=ahQ then pure (.v (.str (x++y)))else bad:=rfl
theorem SW(b:Bool):oEq (.v (.aA b)) (.v (.aA b))=pure (.v (.aA true)):=by rw[rG rfl rfl];simp[jc]
theorem eq_str(h:ah9 x=true):oEq (.v (.str x)) (.v (.str x))=pure (.v (.aA true)):=by rw[rG (x:=.v (.str x)) (y:=.v (.str x)) h h];simp[jc]
theorem GZ(ns:List Int)(a b:Nat):∃ms:List Int,cutD (ns.map D.int) (some (a:Int)) (some (b:Int))=ms.map D.int/\ms.length<=b-a:=by
 unfold cutD;rw[dE.vm,dE.vm,<-List.map_drop,<-List.map_take];refine⟨_,rfl,?_⟩;rw[ajH,aiA];simp only[ahJ];omega
structure Og where
 e:Int
 p1:Int
 du:Int
 gH:Int
 eF:Int
 cA:D
def cv(a b:Int):D:=.tup [.int a,.int b]
def lb(g:Og):D:=.tup [.int g.e,cv g.p1 g.du,cv g.gH g.eF,g.cA]
@[simp] theorem afO{g:List Int->List Int->Bool}{a b c d:Int}:m' g (.v (cv a b)) (.v (cv c d))=pure (.v (.aA (g [a,b] [c,d]))):=rfl
end aY
namespace aY
open PySem PySem.Spec aF PyProof.Rows
section
variable{Q:ajl}[DecidableEq Q.α]
def kg(Q:ajl)(l:List (Q.α×D)):Prop:=l.Pairwise fun a b=>Q.blt a.1 b.1=true
theorem kg.nodup{l:List (Q.α×D)}(h:kg Q l):(l.map (·.1)).Nodup:=by
 rw[List.nodup_iff_pairwise_ne,alW];refine List.Pairwise.imp (fun{a b} h e=>?_) h;rw[e,Q.irrefl]at h;cases h
def ha(l:List (Q.α×D))(a:Q.α):List (Q.α×D):=l.filter fun q=>!decide (q.1=a)
def iT(l:List (Q.α×D))(p:Q.α×D):List (Q.α×D):=ha l p.1++[p]
def lg(l:List (Q.α×D))(p:Q.α×D):List (Q.α×D):=hi Q.blt (iT l p)
def gd(l:List (Q.α×D))(a:Q.α):Option D:=(l.find? fun q=>decide (q.1=a)).map (·.2)
theorem Ax{l:List (Q.α×D)}(a:Q.α)(h:(l.map (·.1)).Nodup):((ha l a).map (·.1)).Nodup:=h.sublist (List.filter_sublist.map _)
theorem rE{l:List (Q.α×D)}{a:Q.α}{x:Q.α×D}:x∈ha l a↔x∈l/\x.1≠a:=by
 unfold ha;rw[ajM];simp
theorem wZ(l:List (Q.α×D))(a:Q.α):(ha l a).length<=l.length:=alf _ _
theorem va{l:List (Q.α×D)}(p:Q.α×D)(h:(l.map (·.1)).Nodup):((iT l p).map (·.1)).Nodup:=by
 unfold iT;rw[aiG,List.nodup_append];refine⟨Ax _ h,by simp,fun a ao b aa=>?_⟩;obtain⟨x,ah,rfl⟩:=aiK.mp ao;rw[show b=p.1 by simpa using aa];exact(rE.mp ah).2
theorem u_{l:List (Q.α×D)}{p x:Q.α×D}:x∈iT l p↔(x∈l/\x.1≠p.1)\/x=p:=by
 unfold iT;rw[aiL,rE,aij]
theorem yI(l:List (Q.α×D))(p:Q.α×D):(iT l p).length<=l.length+1:=by
 unfold iT;rw[ahS,akx];have:=wZ l p.1;omega
theorem K6{l:List (Q.α×D)}(p:Q.α×D)(h:(l.map (·.1)).Nodup):kg Q (lg l p):=DK Q _ (va p h)
theorem vb{l:List (Q.α×D)}{p x:Q.α×D}:x∈lg l p↔(x∈l/\x.1≠p.1)\/x=p:=by
 unfold lg;rw[(yS _ _).mem_iff,u_]
theorem Tb{l:List (Q.α×D)}(aH:(l.map (·.1)).Nodup)(ah:x∈l):l.find? (fun q=>decide (q.1=x.1))=some x:=by
 induction l with
 |nil=>cases ah
 |cons y l a9=>
  rw[ahT,aiR]at aH;rcases ahP.mp ah with rfl | ah
  ·rw[aiP (by simp)]
  ·have gG:¬y.1=x.1:=fun h=>aH.1 (by rw[h];exact akJ ah)
   rw[aiF (by simpa using gG)];exact a9 aH.2 ah
theorem Tz{l:List (Q.α×D)}(aH:(l.map (·.1)).Nodup)(ah:x∈l):gd l x.1=some x.2:=by
 unfold gd;rw[Tb aH ah];rfl
theorem HE{l:List (Q.α×D)}{a:Q.α}{d:D}(h:gd l a=some d):(a,d)∈l:=by
 unfold gd at h;obtain⟨x,ah,rfl⟩:=akp.mp h;have ae:=al3 ah;have ag:x.1=a:=by have:=List.find?_some ah;simpa using this
 rw[<-ag];exact ae
theorem Ay(b:Q.α)(h:kg Q l):kg Q (ha l b):=List.Pairwise.sublist List.filter_sublist h
theorem MC(h:kg Q l):hi Q.blt l=l:=(DM Q h.nodup (.refl _) h).symm
theorem ES(h:l.Nodup):jx Q.blt l=true:=by
 induction l with
 |nil=>rfl|cons a r a9=>
  rw[aiR]at h;unfold jx;rw[a9 h.2,Bool.and_true,aiZ];intro b aa
  cases aq:Q.blt a b with
  |true=>rfl|false=>
   cases aD:Q.blt b a with
   |true=>rfl|false=>exact absurd (Q.total a b aq aD▸aa) h.1
end
section
variable{Z:fE}[DecidableEq Z.κ.α]
theorem Jd(xC:∀a,Z.un (Z.dz a)=some a){mf:bD}:∀{l:List (Z.κ.α×D)},(∀x∈l,mf [x.2]=pure (.v (Z.dz x.1)))->keysOf Z mf (l.map (·.2))=some (l.map (·.1))
 |[],_=>rfl|x::l,h=>by
  have e:xV Z mf x.2=some x.1:=by
   unfold xV;rw[h x ah0];exact xC x.1
  rw[ahT,ahT];unfold keysOf;rw[e,Jd xC fun y a'=>h y (ahR _ a')]
theorem zip_rows{α β:Type}:∀l:List (α×β),(l.map (·.1)).zip (l.map (·.2))=l
 |[]=>rfl| x::l=>by rw[ahT,ahT,aiY,zip_rows l]
theorem DN(xC:∀a,Z.un (Z.dz a)=some a){mf:bD}{l:List (Z.κ.α×D)}(h:∀x∈l,mf [x.2]=pure (.v (Z.dz x.1))){r:R}(ah:r.eH=some (l.map (·.2)))(aH:(l.map (·.1)).Nodup)(aj:l.length<64) :
  rM Z mf r=pure (.fr ((hi Z.κ.blt l).map (·.2))):=by
 unfold rM;rw[ah];dsimp only;rw[Jd xC h];dsimp only;rw[if_pos ⟨ES (Q:=Z.κ.toKeyOrd) aH,by rw[ahJ];exact aj⟩,zip_rows]
end
end aY
namespace aY
open PySem PySem.Spec aF
abbrev dQ:=h3.κ.toKeyOrd
def cy(a:List Nat):Str:=⟨a.toArray⟩
abbrev cd(s:Str):List Nat:=s.cps.toList
theorem GI(a:List Nat):cd (cy a)=a:=rfl
theorem Nt(a:List Nat):h3.un (h3.dz a)=some a:=rfl
theorem W4(a:List Nat):h3.dz a=.str (cy a):=rfl
theorem Np:cy a=cy b↔a=b:=⟨fun h=>by rw[<-GI a,h,GI],fun h=>by rw[h]⟩
theorem Hf(ao:ah9 (cy a)=true)(aa:ah9 (cy b)=true):oEq (.v (.str (cy a))) (.v (.str (cy b)))=pure (.v (.aA (decide (a=b)))):=by
 rw[rG (x:=.v (.str (cy a))) (y:=.v (.str (cy b))) ao aa];show pure (R.v (D.aA (cy a==cy b)))=_
 congr 3
 rw[ajg,beq_iff_eq,decide_eq_true_eq,Np]
theorem Kh(ao:ah9 (cy a)=true)(aa:ah9 (cy b)=true):ez (.v (.str (cy a))) (.v (.str (cy b)))=pure (.v (.aA (!decide (a=b)))):=by
 rw[AD (x:=.v (.str (cy a))) (y:=.v (.str (cy b))) ao aa];show pure (R.v (D.aA (!(cy a==cy b))))=_
 congr 4
 rw[ajg,beq_iff_eq,decide_eq_true_eq,Np]
def kh(a:List Nat):Prop:=ah9 (cy a)=true/\1<=a.length/\a.length<=8
theorem aci:ah9 (cy a)=true↔∀c∈a,c<0x110000:=by
 unfold ah9 cy;rw[List.all_toArray,aiZ];simp
theorem DZ(a:List Nat):(cy a).length=a.length:=by
 show a.toArray.size=_;simp
theorem Nn(a b:List Nat):cy a++cy b=cy (a++b):=by
 show(⟨a.toArray++b.toArray⟩:Str)=_;unfold cy;simp
theorem Ym:(("add":Str) == "put")=false:=by decide +kernel
theorem Yn:(("do_add":Str) == "do_put")=false:=by decide +kernel
end aY
namespace fp
open PySem PySem.Spec aF aY
def oE(x:Int×D):Prop:=∃n z:D,x.2=.tup [.int x.1,n,z]
theorem oE.fN{x:Int×D}(h:oE x):aN (.v x.2) (.v (.int 0))=pure (.v (.int x.1)):=by
 obtain⟨n,z,e⟩:=h;rw[e];simp
theorem oE.slot{x:Int×D}(h:oE x):c8 x.2=.val x.2:=by
 obtain⟨n,z,e⟩:=h;rw[e];rfl
theorem G9{l:List (Int×D)}(h:∀x∈l,oE x)(c le c2:D)(a:Int):yc [.tup [c,.tup (l.map (·.2)),le,c2],.int a]=pure (.v ((gd (Q:=fB.κ.toKeyOrd) l a).getD (.tup [.int a,.int 0,.aW]))):=by
 have L:=A0 (b:=fun d σ=>xZ (σ.set 2 (.val d))) (fun x:Int×D=>x.2) (fun x=>decide (x.1=a)) (fun x=>.v x.2) (fun σ=>∃s2,σ=[.val (.tup [c,.tup (l.map (·.2)),le,c2]),.val (.int a),s2]) l [.val (.tup [c,.tup (l.map (·.2)),le,c2]),.val (.int a),.emp] ⟨_,rfl⟩
  (fun x σ ah ⟨s2,ax⟩=>by
   subst ax;have fN:=(h x ah).fN;refine⟨fun q=>?_,fun q=>⟨[.val (.tup [c,.tup (l.map (·.2)),le,c2]),.val (.int a),.val x.2],?_,_,rfl⟩⟩
   ·have q:x.1=a:=of_decide_eq_true q
    simp only[xZ];simp[fN,q]
   ·have q:¬x.1=a:=of_decide_eq_false q
    simp only[xZ];simp[fN,q])
 simp only[yc,Fh,Fi];unfold gd
 cases e:l.find? (fun x=>decide (x.1=a))with
 |some x=>
  have:=L.1 x e;simp[this]
 |none=>
  obtain⟨σ',cf,s2,rfl⟩:=L.2 e;simp[cf]
theorem Jn{x:Int×D}(h:oE x):fnOf 1 1 (bE (af aN (J 0) (ab (.int 0)))) [x.2]=pure (.v (.int x.1)):=by
 have:=h.fN;simp[h.slot,this]
theorem adX{l:List (Int×D)}(h:∀x∈l,oE x)(aH:(l.map (·.1)).Nodup)(aj:l.length<63)(c le c2:D)(a:Int)(n z:D)(aC:c8 n=.val n)(hz:c8 z=.val z) :
  yl [.tup [c,.tup (l.map (·.2)),le,c2],.int a,n,z]=pure (.v (.tup [c,.tup ((lg (Q:=fB.κ.toKeyOrd) l (a,.tup [.int a,n,z])).map (·.2)),le,c2])):=by
 have b2:fO (bg (af ez (af aN (J 0) (ab (.int 0))) (J 1))) (J 0) [.emp,.val (.int a)] (l.map (·.2))=pure ((ha (Q:=fB.κ.toKeyOrd) l a).map (·.2)):=
  lG (fun x:Int×D=>x.2) (fun x=>!decide (x.1=a)) (fun x=>x.2) l (fun x ah=>by
   have fN:=(h x ah).fN;simp[fN];rfl) fun x _ _=>by simp
 have fb:l.length<ahQ:=eB (by omega);have dl:=wZ (Q:=fB.κ.toKeyOrd) l a;have d2:(ha (Q:=fB.κ.toKeyOrd) l a).length<ahQ:=eB (by omega);have eK:=DN (Z:=fB) (fun _=>rfl) (mf:=fnOf 1 1 (bE (af aN (J 0) (ab (.int 0))))) (l:=iT (Q:=fB.κ.toKeyOrd) l (a,.tup [.int a,n,z])) (fun x ah=>by
  rcases(u_ (Q:=fB.κ.toKeyOrd)).mp ah with⟨ah,_⟩ | rfl
  ·exact Jn (h x ah)
  ·exact Jn ⟨n,z,rfl⟩) (r:=.mv ((ha (Q:=fB.κ.toKeyOrd) l a).map (·.2)++[.tup [.int a,n,z]])) (by
   show some _=some _;unfold iT;rw[aiG];rfl) (va _ aH) (by have:=yI (Q:=fB.κ.toKeyOrd) l (a,.tup [.int a,n,z]);omega)
 have w3:∀(cT:bl)(σ:aO)(mf:bD),p3 fB mf cT σ=(do let x <-cT σ;rM fB mf x):=fun _ _ _=>rfl
 simp only[yl,z6,Ge,Gf];unfold lg;simp[aC,hz,b2,fb,d2,eK,w3]
abbrev pY:=List (List Nat×D)
def jq(x:List Nat×D):Prop:=kh x.1/\∃n:Int,n≠0/\x.2=.tup [.str (cy x.1),.int n]
theorem jq.fN(h:jq x):aN (.v x.2) (.v (.int 0))=pure (.v (.str (cy x.1))):=by
 obtain⟨_,n,_,e⟩:=h;rw[e];simp
theorem jq.slot(h:jq x):c8 x.2=.val x.2:=by
 obtain⟨_,n,_,e⟩:=h;rw[e];rfl
def lF:Option D->Int
 |some (.tup [_,.int n])=>n|_=>0
theorem GK{l:pY}(h:∀x∈l,jq x)(d le c2:D)(ao:kh a):uB [.tup [.tup (l.map (·.2)),d,le,c2],.str (cy a)]=pure (.v (.int (lF (gd (Q:=dQ) l a)))):=by
 have L:=A0 (b:=fun d σ=>xY (σ.set 2 (.val d))) (fun x:List Nat×D=>x.2) (fun x=>decide (x.1=a)) (fun x=>.v (.int (lF (some x.2)))) (fun σ=>∃s2,σ=[.val (.tup [.tup (l.map (·.2)),d,le,c2]),.val (.str (cy a)),s2]) l [.val (.tup [.tup (l.map (·.2)),d,le,c2]),.val (.str (cy a)),.emp] ⟨_,rfl⟩
  (fun x σ ah ⟨s2,ax⟩=>by
   subst ax;have fN:=(h x ah).fN;have eq:=Hf (h x ah).1.1 ao.1;obtain⟨_,n,_,e⟩:=h x ah;refine⟨fun q=>?_,fun q=>⟨[.val (.tup [.tup (l.map (·.2)),d,le,c2]),.val (.str (cy a)),.val x.2],?_,_,rfl⟩⟩
   ·rw[q]at eq
    simp only[xY];rw[e]at fN ⊢;simp[fN,eq,lF]
   ·rw[q]at eq
    simp only[xY];simp[fN,eq])
 simp only[uB,Fc,Fd];unfold gd
 cases e:l.find? (fun x=>decide (x.1=a))with
 |some x=>
  have:=L.1 x e;simp[this]
 |none=>
  obtain⟨σ',cf,s2,rfl⟩:=L.2 e;simp[cf,lF]
theorem Cd(h:jq x):fnOf 1 1 (bE (af aN (J 0) (ab (.int 0)))) [x.2]=pure (.v (h3.dz x.1)):=by
 have:=h.fN;rw[W4];simp[h.slot,this]
def jk(l:pY)(a:List Nat)(n:Int):pY:=if n=0 then ha (Q:=dQ) l a else lg (Q:=dQ) l (a,.tup [.str (cy a),.int n])
theorem ads(h:kg dQ l)(a:List Nat)(n:Int):kg dQ (jk l a n):=by
 unfold jk;split
 ·exact Ay a h
 ·exact K6 _ h.nodup
theorem adt(h:∀x∈l,jq x)(ao:kh a)(n:Int):∀x∈jk l a n,jq x:=fun x ah=>by
 unfold jk at ah;split at ah
 ·exact h x ((rE (Q:=dQ)).mp ah).1
 ·rename_i q
  rcases(vb (Q:=dQ)).mp ah with⟨ah,_⟩ | rfl
  ·exact h x ah
  ·exact⟨ao,n,q,rfl⟩
theorem NG{l:pY}(h:∀x∈l,jq x)(aG:kg dQ l)(aj:l.length<63)(d le c2:D)(ao:kh a)(n:Int) :
  uK [.tup [.tup (l.map (·.2)),d,le,c2],.str (cy a),.int n]=pure (.v (.tup [.tup ((jk l a n).map (·.2)),d,le,c2])):=by
 have b2:fO (bg (af ez (af aN (J 0) (ab (.int 0))) (J 1))) (J 0) [.emp,.val (.str (cy a))] (l.map (·.2))=pure ((ha (Q:=dQ) l a).map (·.2)):=
  lG (fun x:List Nat×D=>x.2) (fun x=>!decide (x.1=a)) (fun x=>x.2) l (fun x ah=>by
   have fN:=(h x ah).fN;have ne:=Kh (h x ah).1.1 ao.1;simp[fN,ne]) fun x _ _=>by simp
 have fb:l.length<ahQ:=eB (by omega);have dl:=wZ (Q:=dQ) l a;have d2:(ha (Q:=dQ) l a).length<ahQ:=eB (by omega);have w3:∀(cT:bl)(σ:aO)(mf:bD),p3 h3 mf cT σ=(do let x <-cT σ;rM h3 mf x):=fun _ _ _=>rfl
 simp only[uK,z5,Gb,Gd];unfold jk
 by_cases q:n=0
 ·have eK:=DN (Z:=h3) Nt (mf:=fnOf 1 1 (bE (af aN (J 0) (ab (.int 0))))) (l:=ha (Q:=dQ) l a) (fun x ah=>Cd (h x ((rE (Q:=dQ)).mp ah).1)) (r:=.mv ((ha (Q:=dQ) l a).map (·.2))) rfl (Ax a aG.nodup) (by omega)
  rw[MC (Q:=dQ) (Ay a aG)]at eK;rw[if_pos q];simp[q,b2,fb,d2,eK,w3]
 ·have eK:=DN (Z:=h3) Nt (mf:=fnOf 1 1 (bE (af aN (J 0) (ab (.int 0))))) (l:=iT (Q:=dQ) l (a,.tup [.str (cy a),.int n])) (fun x ah=>by
   rcases(u_ (Q:=dQ)).mp ah with⟨ah,_⟩ | rfl
   ·exact Cd (h x ah)
   ·exact Cd ⟨ao,n,q,rfl⟩) (r:=.mv ((ha (Q:=dQ) l a).map (·.2)++[.tup [.str (cy a),.int n]])) (by
    show some _=some _;unfold iT;rw[aiG];rfl) (va _ aG.nodup) (by have:=yI (Q:=dQ) l (a,.tup [.str (cy a),.int n]);omega)
  rw[if_neg q];unfold lg;simp[q,b2,fb,d2,eK,w3]
theorem EX(x:D)(ds:List D):ed (x::ds) 0=some x:=nC 0 rfl
theorem acS:q4.lookup ("put":Str)=some ("do_put":Str):=by
 unfold q4;simp only[aiB,beq_self_eq_true]
theorem Te:tS.lookup ("do_put":Str)=some uD:=by
 unfold tS;simp only[aiB,beq_self_eq_true]
theorem Za{s a r:D}(aC:c8 s=.val s)(ao:c8 a=.val a)(h:uD [s,a,.tup (.str "put"::ds)]=pure (.v r)):m7 [s,a,.tup (.str "put"::ds)]=pure (.v r):=by
 simp only[m7,wA,z4];simp[aC,ao,EX,acS,Te,h]
theorem acR:q4.lookup ("add":Str)=some ("do_add":Str):=by
 unfold q4;simp only[aiB,beq_self_eq_true,Ym]
theorem Td:tS.lookup ("do_add":Str)=some uC:=by
 unfold tS;simp only[aiB,beq_self_eq_true,Yn]
theorem Y7{s a r:D}(aC:c8 s=.val s)(ao:c8 a=.val a)(h:uC [s,a,.tup (.str "add"::ds)]=pure (.v r)):m7 [s,a,.tup (.str "add"::ds)]=pure (.v r):=by
 simp only[m7,wA,z4];simp[aC,ao,EX,acR,Td,h]
section
variable{l:pY}(h:∀x∈l,jq x)(aG:kg dQ l)(aj:l.length<63)(d le c2:D){a:List Nat}(ao:kh a)(n i:Int)
include h aG aj ao
theorem Zd:m7 [.tup [.tup (l.map (·.2)),d,le,c2],.int i,.tup [.str "put",.str (cy a),.int n]]=pure (.v (.tup [.tup [.tup ((jk l a n).map (·.2)),d,le,c2],.int (lF (gd (Q:=dQ) l a))])):=
 Za rfl rfl (by
  have aq:=NG h aG aj d le c2 ao n;have aD:=GK h d le c2 ao;simp[uD,Fg,aq,aD])
theorem Zc:m7 [.tup [.tup (l.map (·.2)),d,le,c2],.int i,.tup [.str "add",.str (cy a),.int n]]=pure (.v (.tup [.tup [.tup ((jk l a (lF (gd (Q:=dQ) l a)+n)).map (·.2)),d,le,c2],.int (lF (gd (Q:=dQ) l a)+n)])):=
 Y7 rfl rfl (by
  have aq:=NG h aG aj d le c2 ao (lF (gd (Q:=dQ) l a)+n);have aD:=GK h d le c2 ao;simp[uC,Fe,Ff,aq,aD])
end
def pV(x:Int×D):Prop:=∃(n:Int)(z:D),x.2=.tup [.int x.1,.int n,z]
theorem pV.Au{x:Int×D}(h:pV x):oE x:=by obtain⟨n,z,e⟩:=h;exact⟨_,_,e⟩
def pw:Option D->Int
 |some (.tup [_,.int n,_])=>n|_=>0
theorem Jr{l:List (Int×D)}(h:∀x∈l,pV x)(a:Int):aN (.v ((gd (Q:=fB.κ.toKeyOrd) l a).getD (.tup [.int a,.int 0,.aW]))) (.v (.int 1))=pure (.v (.int (pw (gd (Q:=fB.κ.toKeyOrd) l a)))):=by
 cases q:gd (Q:=fB.κ.toKeyOrd) l a with
 |none=>simp[pw]|some d=>
  obtain⟨n,z,e⟩:=h _ (HE q);have e:d=.tup [.int a,.int n,z]:=e;subst e;simp[pw]
theorem xK(c d le c2:D):yg [.tup [c,d,le,c2]]=(do la (.v c2) (.v .aW)):=by
 simp[yg,Fz,Cy,Ga]
section
variable{l:List (Int×D)}(h:∀x∈l,pV x)(c le c2:D)(a n:Int)
include h
theorem Ha(ds:D)(hd:c8 ds=.val ds)(q:ds=.aW\/(∃xs,ds=.tup xs)/\(c2=.str "over"\/(∃zs,c2=.tup zs)\/c2=.aW/\n<=pw (gd (Q:=fB.κ.toKeyOrd) l a))) :
  m3 [.tup [c,.tup (l.map (·.2)),le,c2],.int a,.int n,ds]=pure (.v (.tup [c,.tup (l.map (·.2)),le,c2])):=by
 have aq:=G9 (fun x ah=>(h x ah).Au) c le c2 a;have aD:=Jr h a;simp only[m3,zU,zV,zW];rcases q with rfl | ⟨⟨xs,rfl⟩,rfl | ⟨zs,rfl⟩ | ⟨rfl,q⟩⟩
 ·simp
 ·simp[xK]
 ·simp[xK]
 ·simp[xK,aq,aD,q]
theorem Sz(xs:List D)(q:pw (gd (Q:=fB.κ.toKeyOrd) l a)<n)(aj:l.length<63)(aH:(l.map (·.1)).Nodup){c' le' sh' v:D}
  (bc:m7 [.tup [c,.tup (l.map (·.2)),le,.aW],.int a,.tup xs]=pure (.v (.tup [.tup [c',.tup (l.map (·.2)),le',sh'],v]))) (bz:c8 v=.val v) :
  m3 [.tup [c,.tup (l.map (·.2)),le,.aW],.int a,.int n,.tup xs]=pure (.v (.tup [c',.tup ((lg (Q:=fB.κ.toKeyOrd) l (a,.tup [.int a,.int n,v])).map (·.2)),le',sh'])):=by
 have aq:=G9 (fun x ah=>(h x ah).Au) c le .aW a;have aD:=Jr h a;have cQ:=adX (fun x ah=>(h x ah).Au) aH aj c' le' sh' a (.int n) v rfl bz;have eA:¬n<=pw (gd (Q:=fB.κ.toKeyOrd) l a):=by omega
 simp only[m3,zU,zV,zW];simp[xK,aq,aD,eA,bc,cQ]
end
theorem YC{l:List (Int×D)}(h:∀x∈l,pV x)(a n:Int)(v:D):∀x∈lg (Q:=fB.κ.toKeyOrd) l (a,.tup [.int a,.int n,v]),pV x:=fun x ah=>by
 rcases(vb (Q:=fB.κ.toKeyOrd)).mp ah with⟨ah,_⟩ | rfl
 ·exact h x ah
 ·exact⟨n,v,rfl⟩
end fp
namespace fp
open PySem PySem.Spec aF aY ke
def Good(r:aT):Prop:=r.wf/\r.deep<=4/\r.names.length<=12
end fp
namespace fp
open PySem PySem.Spec aF aY ke hP nz
theorem D_(i:Int):sd [.int i]=pure (.v (.aA true)):=by kernel_rfl
theorem NF(xs:List D):sd [.tup xs]=pure (.v (.aA false)):=by kernel_rfl
theorem Bg(m k:Nat):pg [bx m,bx k]=pure (.v (.aA (g8 m k))):=by
 have e:=Qz m k;simp only[pg,Fn,n5];simp[e]
theorem J6(br:List Nat)(h:∀k∈br,k<=1000):uI [.lst (br.map bx)]=pure (.v (bx (maskOf br))):=by
 obtain⟨σ',e,s2,rfl⟩:=tT (b:=fun d σ=>B' (σ.set 2 (.val d))) (ds:=br.map bx) (σ:=[.b1 (br.map bx),.val (.int 0),.emp])
  (fun i σ=>∃s2,σ=[.b1 (br.map bx),.val (bx (maskOf (br.take i))),s2]) ⟨_,rfl⟩ (fun i d σ hd ⟨s2,ax⟩=>by
   subst ax;obtain⟨k,az,rfl⟩:=CA hd;have nW:=h k (aiw az);refine⟨_,.inl (?_:_=pure (fm.bq [.b1 (br.map bx),.val (bx (maskOf (br.take (i+1)))),.val (bx k)])),_,rfl⟩;rw[take_snoc az,CB,n5 (_ ||| _),<-KD];have gH:(k:Int)<=1000000:=by omega
   simp only[B',n5];simp[gH])
 rw[ahJ,ak8]at e;simp only[uI,F3,F4,F5];simp[e]
theorem W8(h:m<64):yh [bx m]=pure (.fr ((xU m).map bx)):=by
 have aa:=bits_le m h;have c:fO (bg (bJ pg (U (J 1) (U (J 0) ar)))) (J 0) [.emp,.val (bx m)] ((aiz (bits m)).map bx)=pure (((aiz (bits m)).filter (g8 m)).map bx):=
  lG bx (g8 m) bx _ (fun k _=>by simp[Bg]) fun k _ _=>by simp
 have bu:-4611686018427387904<=((bits m:Nat):Int)/\((bits m:Nat):Int)<4611686018427387904:=by omega
 have z:bits m<ahQ:=eB (by omega);rw[W5];simp only[yh,FA];simp only[n5 m]at c ⊢;simp[Wn,bu,Lr,z,c]
theorem Kc:∀(n:Nat)(r:aT),r.deep<n->r.names.length<=1000->pj n [enc r]=pure (.fr (r.names.map bx))
 |0,r,h,_=>absurd h (akO _)|n+1,.kp k,h,_=>by
  simp only[pj,wz,rH,aT.names];simp[D_,n5]
 |n+1,.ch k ps,h,aj=>by
  simp only[aT.deep]at h;simp only[aT.names]at aj ⊢;have dl:=rD (ps:=ps) (n:=n) (by omega);rw[qa];obtain⟨σ',e,s2,rfl⟩:=tT (b:=fun d σ=>Ca (pj n) (σ.set 2 (.val d))) (ds:=ps.map enc) (σ:=[.val (.tup [.int (k:Nat),.tup (ps.map enc)]),.dZ false [],.emp])
   (fun i σ=>∃s2,σ=[.val (.tup [.int (k:Nat),.tup (ps.map enc)]),.dZ false ((aT.dY (ps.take i)).map bx),s2]) ⟨_,rfl⟩ (fun i d σ hd ⟨s2,ax⟩=>by
    subst ax;obtain⟨r,aG,rfl⟩:=CA hd;have hm:=aiw aG;refine⟨_,.inl (?_:_=pure (fm.bq [.val (.tup [.int (k:Nat),.tup (ps.map enc)]),.dZ false ((aT.dY (ps.take (i+1))).map bx),.val (enc r)])),_,rfl⟩;have bG:=take_snoc aG;have le:(aT.dY (ps.take (i+1))).length<=1000:=by
     have:aT.dY ps=aT.dY (ps.take (i+1))++aT.dY (ps.drop (i+1)):=by rw[<-uR,List.take_append_drop]
     rw[this,ahS]at aj;omega
    rw[bG,uR]at le ⊢;rw[show aT.dY [r]=r.names from ai7 _]at le ⊢;rw[ahS]at le;have a9:=Kc n r (dl r hm) (by omega);have z:(aT.dY (ps.take i)).length+r.names.length<=ahQ:=ai5 (eB (by omega));simp only[Ca];simp[a9,z])
  rw[ahJ,ak8]at e;simp only[pj,wz,F9,F_,F'];simp[NF,e]
theorem named_eq{r:aT}(hw:r.wf)(hd:r.deep<12)(aj:r.names.length<=1000):uJ [enc r]=pure (.v (bx (maskOf r.names))):=by
 have ae:=Kc 12 r hd aj;have ag:=J6 r.names fun k az=>by have:=sj r hw k az;omega
 simp only[uJ,F8];simp[ae,ag]
theorem AV(m:Nat):∀(n:Nat)(r:aT),r.deep<n->r.wf->l5 n [enc r,bx m]=pure (.v (.aA (r.fills (g8 m))))
 |0,r,h,_=>absurd h (akO _)|n+1,.kp k,h,hw=>by
  have az:=Bg m k;simp only[l5,wt,rH,aT.fills];simp only[n5]at az ⊢;simp[D_,az]
 |n+1,.ch k ps,h,hw=>by
  simp only[aT.deep]at h;simp only[aT.wf]at hw;have dl:=rD (ps:=ps) (n:=n) (by omega);have wl:=y'.mp hw.2.2.2;rw[qa];have c:fO (bg (bJ (l5 n) (U (J 0) (U (J 1) ar)))) (J 0) [.emp,.val (bx m)] (ps.map enc)=pure ((ps.filter (aT.fills (g8 m))).map enc):=
   lG enc (aT.fills (g8 m)) enc ps (fun r aG=>by simp[AV m n r (dl r aG) (wl r aG)]) fun r _ _=>by simp
  have z:ps.length<ahQ:=eB (by omega);have e:decide (((k:Nat):Int)<=(aT.cnt (g8 m) ps:Nat))=decide (k<=aT.cnt (g8 m) ps):=decide_eq_decide.mpr (by omega);simp only[l5,wt,Fj,aT.fills];simp only[n5 m]at c ⊢;simp[NF,c,z,wW,e]
end fp
namespace nz
open hP ke
def rI(a k:aT):Nat:=maskOf a.names ||| maskOf k.names
theorem XZ(xs:List Nat):∀ys:List Nat,maskOf (xs++ys)=maskOf xs ||| maskOf ys:=by
 intro ys;have:∀n,∀ys:List Nat,ys.length=n->maskOf (xs++ys)=maskOf xs ||| maskOf ys:=by
  intro n
  induction n with
  |zero=>intro ys h;rw[amk.mp h,ai7];exact(Nat.or_zero _).symm|succ n a9=>
   intro ys h;rcases List.eq_nil_or_concat ys with rfl | ⟨l,k,rfl⟩
   ·cases h
   ·rw[List.concat_eq_append]at h ⊢
    rw[ahS,akx]at h;rw[<-akr,aY.CB,a9 l (by omega),aY.CB,Nat.or_assoc]
 exact this _ _ rfl
theorem Hh{a k:aT}(ao:a.wf)(az:k.wf):rI a k=m8 fun j=>(a.names++k.names).contains j:=by
 unfold rI;rw[<-XZ,J4];intro n aH;rcases aiL.mp aH with h | h
 ·exact sj a ao n h
 ·exact sj k az n h
theorem Hi{a k:aT}(ao:a.wf)(az:k.wf):rI a k<64:=by rw[Hh ao az];exact X_ _
end nz
namespace fp
open PySem PySem.Spec aF aY ke hP nz
def cR(a k:aT):D:=.tup [enc a,enc k]
theorem X6{a k:aT}(ao:Good a)(az:Good k):yk [cR a k]=pure (.v (bx (rI a k))):=by
 have ae:=named_eq (r:=a) ao.1 (by have:=ao.2.1;omega) (by have:=ao.2.2;omega);have ag:=named_eq (r:=k) az.1 (by have:=az.2.1;omega) (by have:=az.2.2;omega);unfold cR;simp only[yk,F6];simp only[n5]at ae ag ⊢;simp[ae,ag,KD,rI]
theorem BM(j:Nat)(br:List Nat):jb false (.v (bx j)) (.v (.lst (br.map bx)))=pure (.v (.aA (br.contains j))):=by
 have ep:(br.map bx).all D.flat=true:=by rw[List.all_map];exact aiZ.mpr fun _ _=>rfl
 show(if(bx j).flat=true/\(br.map bx).all D.flat=true then pure (R.v (D.aA (if false=true then !inD (bx j) (br.map bx)else inD (bx j) (br.map bx))))else bad)=_;rw[if_pos ⟨rfl,ep⟩,if_neg ahV,IG]
theorem W7:∀m:Nat,m<64->xU m=(aiz 6).filter (g8 m):=by decide +kernel
theorem W6{a k:aT}(ao:a.wf)(az:k.wf):xU (rI a k)=(aiz 6).filter fun j=>(a.names++k.names).contains j:=by
 rw[W7 _ (Hi ao az),Hh ao az];exact List.filter_congr fun j aZ=>J' _ j (ai4.mp aZ)
theorem CF{a k:aT}(ao:Good a)(az:Good k):m6 [cR a k]=pure (.fr (((aiz 6).filter fun j=>(a.names++k.names).contains j).map bx)):=by
 have m:=X6 ao az;have e:=W8 (Hi ao.1 az.1);rw[W6 ao.1 az.1]at e;have c2:c8 (cR a k)=.val (cR a k):=rfl;simp only[m6,F7];simp[c2,m,e]
def dc(a k:aT):List Nat:=(aiz 6).filter fun j=>(a.names++k.names).contains j
end fp
namespace fp
open PySem PySem.Spec aF aY hP ke nz
abbrev dx:=Int×Int
abbrev cx(s:dx):D:=.tup [.int s.1,.int s.2]
structure cz where
 k:Nat
 s:dx
 w:D
abbrev cY(g:cz):D:=.tup [bx g.k,cx g.s,g.w]
theorem TM(ps:List cz)(h:∀p∈ps,p.k<6)(aj:ps.length<=1000):pf [.lst (ps.map cY)]=pure (.v (bx (maskOf (ps.map (·.k))))):=by
 have c:fO gi (af aN (J 0) (ab (.int 0))) [.emp] (ps.map cY)=pure (ps.map (bx∘fun p=>p.k)):=p7 cY _ ps fun p _=>by simp[cY]
 have z:ps.length<ahQ:=eB (by omega);have m:=J6 (ps.map (·.k)) (fun k az=>by obtain⟨p,aI,rfl⟩:=aiK.mp az;have:=h p aI;omega);rw[akz]at m;simp only[pf,Fm];simp[c,z,m]
theorem AJ(s t:dx):oEq (.v (cx s)) (.v (cx t))=pure (.v (.aA (decide (s=t)))):=by
 rw[rG (x:=.v (cx s)) (y:=.v (cx t)) rfl rfl]
 congr 3
 obtain⟨a,b⟩:=s;obtain⟨c,d⟩:=t;rw[ajg];simp[jc,R.arg,qR]
theorem Yo(s t:dx):ez (.v (cx s)) (.v (cx t))=pure (.v (.aA (!decide (s=t)))):=by
 rw[AD (x:=.v (cx s)) (y:=.v (cx t)) rfl rfl]
 congr 4
 obtain⟨a,b⟩:=s;obtain⟨c,d⟩:=t;rw[ajg];simp[jc,R.arg,qR]
def f'(s t:dx):Bool:=decide (t.1<s.1)||decide (s.1=t.1)&&decide (t.2<s.2)
theorem JB(s t:dx):gI [s.1,s.2] [t.1,t.2]=f' s t:=by
 unfold gI f';rw[qE,qE]
 by_cases ba:s.1=t.1
 ·rw[if_pos ba,ba]
  by_cases bU:s.2=t.2
  ·rw[if_pos bU,bU]
   simp[mX]
  ·rw[if_neg bU];simp
 ·rw[if_neg ba]
  simp[ba]
def uP(b p:cz):cz:=if f' p.s b.s=true then p else b
def mH(p:cz)(ps:List cz):cz:=ps.foldl uP p
abbrev j4:bD:=fnOf 1 1 (bE (af aN (J 0) (ab (.int 1))))
theorem Ja(p:cz):l4 j4 (cY p)=some [p.s.1,p.s.2]:=by
 have e:j4 [cY p]=pure (.v (cx p.s)):=by simp[j4,cY]
 unfold l4;rw[e];rfl
theorem CC:∀(ps:List cz)(b:cz),j5 j4 (cY b) [b.s.1,b.s.2] (ps.map cY)=some (cY (mH b ps))
 |[],b=>rfl|p::ps,b=>by
  rw[ahT];unfold mH;rw[List.foldl_cons];show(match l4 j4 (cY p)with | some dz=>if gI dz [b.s.1,b.s.2]=true then j5 j4 (cY p) dz (ps.map cY)else j5 j4 (cY b) [b.s.1,b.s.2] (ps.map cY) | none=>none)=_;rw[Ja];show(if gI [p.s.1,p.s.2] [b.s.1,b.s.2]=true then j5 j4 (cY p) [p.s.1,p.s.2] (ps.map cY)else j5 j4 (cY b) [b.s.1,b.s.2] (ps.map cY))=_;rw[JB];unfold uP
  by_cases q:f' p.s b.s=true
  ·rw[if_pos q,if_pos q];exact CC ps p
  ·rw[if_neg q,if_neg q];exact CC ps b
def qk(op:D)(g:cz):D:=.tup [cx g.s,if g.s=(0,0)then op else g.w]
theorem VF(p:cz)(ps:List cz)(op:D)(bc:c8 op=.val op)(aj:(p::ps).length<64):yd [.lst ((p::ps).map cY),op]=pure (.v (qk op (mH p ps))):=by
 have cJ:uL j4 ((p::ps).map cY)=some (cY (mH p ps)):=by
  rw[ahT];show(match l4 j4 (cY p)with | some k=>j5 j4 (cY p) k (ps.map cY) | none=>none)=_;rw[Ja];exact CC ps p
 generalize mH p ps=b at *;generalize p::ps=gJ at *;have dU:=AJ b.s (0,0);have z:(gJ.map cY).length<64:=by rw[ahJ];exact aj
 have em:w8 j4 (.b1 (gJ.map cY))=pure (.v (cY b)):=by
  unfold w8;show(match uL j4 (gJ.map cY)with | some r=>if(gJ.map cY).length<64 then(pure (R.v r):M R)else bad | none=>bad)=_;rw[cJ];dsimp only;rw[if_pos z]
 unfold qk;simp only[yd,zX,Fo,Fp]
 by_cases q:b.s=(0,0)
 ·rw[q]at dU
  simp at dU;simp[bc,em,cY,q,dU]
 ·simp[q]at dU
  simp[bc,em,cY,q,dU]
end fp
namespace fp
open PySem PySem.Spec aF aY
theorem lO{n N:Nat}{b:a0}{ds:List D}(h:ds.length=n)(e:b (ds.map c8++aiH (N-n) .emp)=pure (.cS (.v d))):fnOf n N b ds=pure (.v d):=by
 rw[AB,if_pos h,e];rfl
theorem er{a b:a0}(e:a σ=pure (.bq σ')):bZ a b σ=b σ':=by rw[bZ,e];rfl
theorem q1{a b:a0}{r:R}(e:a σ=pure (.cS r)):bZ a b σ=pure (.cS r):=by rw[bZ,e];rfl
theorem k9{t:aO->M Bool}{a b:a0}(e:t σ=pure true):c4 t a b σ=a σ:=by rw[c4,e];rfl
theorem mV{t:aO->M Bool}{a b:a0}(e:t σ=pure false):c4 t a b σ=b σ:=by rw[c4,e];rfl
theorem sz{a b:aO->M Bool}(h:a σ=pure false):iW a b σ=b σ:=by show(a σ >>= _)=_;rw[h];rfl
theorem yq{a:aO->M Bool}(h:a σ=pure true):f3 a σ=pure false:=by show(a σ >>= _)=_;rw[h];rfl
theorem Yz{a:aO->M Bool}(h:a σ=pure false):f3 a σ=pure true:=by show(a σ >>= _)=_;rw[h];rfl
theorem c7{m:bl}(h:m σ=pure (.v (.aA b))):bg m σ=pure b:=by show(m σ >>= _)=_;rw[h];rfl
theorem zI{a b:aO->M Bool}(h:a σ=pure true):g5 a b σ=b σ:=by show(a σ >>= _)=_;rw[h];rfl
theorem ER{a b:aO->M Bool}(h:a σ=pure false):g5 a b σ=pure false:=by show(a σ >>= _)=_;rw[h];rfl
theorem bN{f:R->R->M R}{a b:bl}{r:M R}(e:f x y=r)(aq:a σ=pure x)(aD:b σ=pure y):af f a b σ=r:=by
 show(a σ >>= _)=_;rw[aq];show(b σ >>= _)=_;rw[aD];exact e
theorem e1{m:bl}{σ:aO}(e:m σ=pure (.v d)):cg i m σ=pure (.bq (σ.set i (.val d))):=by show(m σ >>= _)=_;rw[e];rfl
theorem lj{m:bl}(e:m σ=pure (.v d)):bE m σ=pure (.cS (.v d)):=by show(m σ >>= _)=_;rw[e];rfl
theorem zK{ms:cL}{σ:aO}{xs:List D}(h:σ[i]? = some (.dZ p xs))(e:ms σ=pure [.v d])(z:xs.length<ahQ):ki i h9 ms σ=pure (.bq (σ.set i (.dZ p (xs++[d])))):=by
 simp[h,e,z]
theorem call_of{mf:bD}{ms:cL}{rs:List R}{r:M R}(aq:ms σ=pure rs)(e:mf (rs.map R.arg)=r):bJ mf ms σ=r:=by show(ms σ >>= _)=_;rw[aq];exact e
theorem jX{f:List R->M R}{ms:cL}{r:M R}(e:f rs=r)(aq:ms σ=pure rs):cC f ms σ=r:=by show(ms σ >>= _)=_;rw[aq];exact e
theorem cons_of{m:bl}{ms:cL}(e:m σ=pure x)(aq:ms σ=pure xs):U m ms σ=pure (x::xs):=by show(m σ >>= _)=_;rw[e];show(ms σ >>= _)=_;rw[aq];rfl
theorem sI{m:bl}{σ:aO}{r:R}(e:m σ=pure r)(h:r.dat=pure d):cg i m σ=pure (.bq (σ.set i (.val d))):=by show(m σ >>= _)=_;rw[e];show(r.dat >>= _)=_;rw[h];rfl
theorem Q1{xs ys:List D}(h:xs.length+ys.length<=ahQ):iv (.fr xs) (.fr ys)=pure (.fr (xs++ys)):=if_pos h
theorem KG{σ:aO}:jz i (dS ar) σ=pure (.bq (σ.set i (.dZ false []))):=rfl
theorem M5{a b c:bl}(aq:a σ=pure (.v x))(aD:b σ=pure (.v y))(cQ:c σ=pure (.v z)):bB (U a (U b (U c ar))) σ=pure (.v (.tup [x,y,z])):=by
 show(U a (U b (U c ar)) σ >>= _)=_;rw[cons_of aq (cons_of aD (cons_of cQ rfl))];rfl
theorem ac2{a b:bl}(aq:a σ=pure (.v x))(aD:b σ=pure (.v y)):bB (U a (U b ar)) σ=pure (.v (.tup [x,y])):=by
 show(U a (U b ar) σ >>= _)=_;rw[cons_of aq (cons_of aD rfl)];rfl
theorem lI{a b:Int}(h:nu a b):fR (.v (.int a)) (.v (.int b))=pure (.v (.int (a / b))):=if_pos h
theorem p8{it:eS}{t:aO->M Bool}{ds xs:List D}(aq:it σ=pure ds)(z:ds.length<ahQ)(e:fO t el (hU n cap σ) ds=pure xs):eV n cap it t el σ=pure (.fr xs):=by
 show(it σ >>= _)=_;rw[aq];show(hr (ds.length<ahQ) >>= _)=_;unfold hr;rw[if_pos z];show(fO t el (hU n cap σ) ds >>= _)=_;rw[e];rfl
theorem As(e:m=pure (.v d)):(m >>= R.dat)=pure d:=by rw[e];rfl
theorem Hr{n N:Nat}{b:a0}{ds xs:List D}(h:ds.length=n)(e:b (ds.map c8++aiH (N-n) .emp)=pure (.cS (.fr xs))):fnOf n N b ds=pure (.fr xs):=by
 rw[AB,if_pos h,e];rfl
theorem hv{a b:Int}(h:0<b):oMod (.v (.int a)) (.v (.int b))=pure (.v (.int (a % b))):=if_pos h
theorem kk{a b:Int}:oEq (.v (.int a)) (.v (.int b))=pure (.v (.aA (decide (a=b)))):=rfl
theorem wQ{xs ys:List D}(h:xs.length+ys.length<=ahQ):iv (.v (.lst xs)) (.fr ys)=pure (.fr (xs++ys)):=if_pos h
theorem WC{i:Int}{v:D}(e:ed xs i=some v):aN (.v (.lst xs)) (.v (.int i))=pure (.v v):=by
 show(match ed xs i with | some d=>pure (R.v d) | none=>bad)=_;rw[e]
theorem IV{i:Int}{v:D}(e:ed xs i=some v):aN (.fr xs) (.v (.int i))=pure (.v v):=by
 show(match ed xs i with | some d=>pure (R.v d) | none=>bad)=_;rw[e]
theorem r9{ms:cL}{ds:List D}(e:ms σ=pure rs)(h:k3 rs=pure ds)(z:ds.length<=1000):dS ms σ=pure (.fr ds):=by
 show(ms σ >>= _)=_;rw[e];show(k3 rs >>= _)=_;rw[h];show(hr (ds.length<=1000) >>= _)=_;unfold hr;rw[if_pos z];rfl
theorem Yc{a b:Int}(h:nv a b):uX (.v (.int a)) (.v (.int b))=pure (.v (.int (a*b))):=if_pos h
theorem Di{a b n:Int}(h:0<=b/\b<=1000000/\a.natAbs<2 ^ 64)(e:a ^ b.toNat=n):l8 (.v (.int a)) (.v (.int b))=pure (.v (.int n)):=by rw[<-e];exact if_pos h
theorem Nv{is:List Nat}{m:bl}{ds:List D}(e:m σ=pure (.v (.tup ds)))(h:ds.length=is.length):nF is m σ=pure (.bq (ix is ds σ)):=by
 show(m σ >>= _)=_;rw[e];exact if_pos h
theorem IF{m:bl}(e:m σ=pure (.fr xs)):j3 m σ=pure xs:=by show(m σ >>= _)=_;rw[e];rfl
def aR{α:Type}(S:ck)(m:M α)(a:α):Prop:=m.run S=.ok a S
def bT{α:Type}(S:ck)(m:N α)(a:α)(au:ck):Prop:=m.run S=.ok a au
section
variable{α β:Type}{S S1 bj:ck}{σ σ':aO}
theorem aR.of(h:m=pure a):aR S m a:=by rw[h];rfl
theorem aR.bind{f:α->M β}(h:aR S m a)(ag:aR S (f a) b):aR S (m >>= f) b:=by
 show(match m.run S with | .ok a S1=>(f a).run S1 | .exc c S1=>.exc c S1 | .bad=>.bad)=_;rw[show m.run S=.ok a S from h];exact ag
theorem bT.bind{f:α->N β}(h:bT S m a S1)(ag:bT S1 (f a) b bj):bT S (m >>= f) b bj:=by
 show(match m.run S with | .ok a S1=>(f a).run S1 | .exc c S1=>.exc c S1 | .bad=>.bad)=_;rw[show m.run S=.ok a S1 from h];exact ag
theorem aR.to{m:M α}(h:aR S m a):bT S m.up a S:=h
theorem I3{p:Prop}[Decidable p](h:p):aR S (hr p) ():=.of (if_pos h)
theorem dy{f:R->R->M R}{a b:bl}{x y r:R}(e:f x y=pure r)(ae:aR S (a σ) x)(ag:aR S (b σ) y):aR S (af f a b σ) r:=ae.bind (ag.bind (.of e))
theorem eQ:aR S (ar σ) []:=.of rfl
theorem cO{m:bl}{ms:cL}(h:aR S (m σ) x)(ae:aR S (ms σ) xs):aR S (U m ms σ) (x::xs):=h.bind (ae.bind (.of rfl))
theorem h2{mf:bD}{ms:cL}{rs:List R}{r:R}(h:aR S (ms σ) rs)(e:aR S (mf (rs.map R.arg)) r):aR S (bJ mf ms σ) r:=h.bind e
theorem ur{f:List R->M R}{ms:cL}{r:R}(e:f rs=pure r)(h:aR S (ms σ) rs):aR S (cC f ms σ) r:=h.bind (.of e)
theorem B0{ms:cL}{ds:List D}(h:aR S (ms σ) rs)(e:k3 rs=pure ds)(z:ds.length<=1000):aR S (bB ms σ) (.v (.tup ds)):=h.bind ((aR.of e).bind ((I3 z).bind (.of rfl)))
theorem dG{m:bl}(h:aR S (m σ) (.v (.aA b))):aR S (bg m σ) b:=h.bind (.of rfl)
theorem W0{a b:aO->M Bool}(h:aR S (a σ) true):aR S (iW a b σ) true:=h.bind (.of rfl)
theorem xT{a b:aO->M Bool}(h:aR S (a σ) false)(ag:aR S (b σ) x):aR S (iW a b σ) x:=h.bind ag
theorem l3{a b:aO->M Bool}(h:aR S (a σ) true)(ag:aR S (b σ) x):aR S (g5 a b σ) x:=h.bind ag
theorem qA{a b:aO->M Bool}(h:aR S (a σ) false):aR S (g5 a b σ) false:=h.bind (.of rfl)
theorem o7{a:aO->M Bool}(h:aR S (a σ) x):aR S (f3 a σ) (!x):=h.bind (.of rfl)
theorem xR{it:eS}{t:aO->M Bool}{ds xs:List D}(h:aR S (it σ) ds)(z:ds.length<ahQ)(e:aR S (fO t el (hU n cap σ) ds) xs):aR S (eV n cap it t el σ) (.fr xs):=h.bind ((I3 z).bind (e.bind (.of rfl)))
theorem xS{α:Type}{el:bl}(g:α->D)(f:α->D):∀as:List α,(∀a∈as,aR S (el (σ.set 0 (.val (g a)))) (.v (f a)))->aR S (fO gi el σ (as.map g)) (as.map f)
 |[],_=>.of rfl|a::as,h=>(aR.of (S:=S) (m:=(pure true:M Bool)) rfl).bind ((h a (ah0 ..)).bind ((aR.of (m:=R.dat (.v (f a))) rfl).bind ((xS g f as fun x ah=>h x (ahR _ ah)).bind (.of rfl))))
theorem BX{m:bl}{r:R}(h:aR S (m σ) r)(e:r.eH=some ds):aR S (j3 m σ) ds:=h.bind (by rw[e];exact .of rfl)
theorem I4{m:bl}(h:aR S (m σ) (.fr xs)):aR S (uk m σ) xs:=h.bind (.of rfl)
theorem uv{m:bl}{r:R}(h:aR S (m σ) r)(e:r.dat=pure d):aR S (cg i m σ) (.bq (σ.set i (.val d))):=h.bind ((aR.of e).bind (.of rfl))
theorem uu{m:bl}(h:aR S (m σ) (.v d)):aR S (bE m σ) (.cS (.v d)):=h.bind (.of rfl)
theorem I7{m:bl}(h:aR S (m σ) (.fr xs)):aR S (bE m σ) (.cS (.fr xs)):=h.bind (.of rfl)
theorem BZ{t:aO->M Bool}{a b:a0}(h:aR S (t σ) true)(ag:aR S (a σ) a7):aR S (c4 t a b σ) a7:=h.bind ag
theorem BY{t:aO->M Bool}{a b:a0}(h:aR S (t σ) false)(ag:aR S (b σ) a7):aR S (c4 t a b σ) a7:=h.bind ag
theorem W2{a b:a0}(h:aR S (a σ) (.bq σ'))(ag:aR S (b σ') a7):aR S (bZ a b σ) a7:=h.bind ag
theorem I8{a b:a0}{r:R}(h:aR S (a σ) (.cS r)):aR S (bZ a b σ) (.cS r):=h.bind (.of rfl)
theorem o8{is:List Nat}{m:bl}{ds:List D}(h:aR S (m σ) (.v (.tup ds)))(e:ds.length=is.length):aR S (nF is m σ) (.bq (ix is ds σ)):=h.bind (.of (if_pos e))
theorem BW{n N:Nat}{b:a0}{ds:List D}(h:ds.length=n)(e:aR S (b (ds.map c8++aiH (N-n) .emp)) (.cS (.v d))):aR S (fnOf n N b ds) (.v d):=by
 rw[AB,if_pos h];exact e.bind (.of rfl)
theorem mW(h:S[i]? = some o):aR S (fZ (.v (.ref i))) o:=(show aR S HF S from rfl).bind (by rw[h];exact .of rfl)
theorem WY{a b:bl}{k:Key}(h:S[i]? = some (.d_ aw))(ae:aR S (a σ) (.v (.ref i)))(ag:aR S (b σ) (.v dz))(az:o9 dz=some k)(e:ik aw k=some d):aR S (af d8 a b σ) (.v d):=ae.bind (ag.bind ((mW h).bind (by show aR S (match o9 dz with | some key=>_ | none=>_) _;rw[az];show aR S (match ik aw k with | some d=>_ | none=>_) _;rw[e];exact .of rfl)))
theorem I5{m:bl}(h:S[i]? = some (.lst xs))(ae:aR S (m σ) (.v (.ref i))):aR S (jY m σ) (.mv xs):=ae.bind ((mW h).bind (.of rfl))
theorem I6{mf:bD}{mo:bl}{ms:cL}{aV:List (Str×D)}{rs:List R}{r:R}(h:S[i]? = some (.bA c aV))(ae:aR S (mo σ) (.v (.ref i)))(aH:aV.lookup m=none)(ag:aR S (ms σ) rs)(e:aR S (mf (.ref i::rs.map R.arg)) r):aR S (jZ c m mf mo ms σ) r:=ae.bind ((mW h).bind (by show aR S (if c=c/\aV.lookup m=none then _ else _) _;rw[if_pos ⟨rfl,aH⟩];exact ag.bind e))
theorem WX{m:bl}{aV:List (Str×D)}(h:S[i]? = some (.bA c aV))(ae:aR S (m σ) (.v (.ref i)))(e:aV.lookup f=some d):aR S (b2 (dn c f) m σ) (.v d):=ae.bind ((mW h).bind (by show aR S (if c=c then _ else _) _;rw[if_pos rfl,e];exact .of rfl))
theorem W3{m m9:bl}{ms:cL}{rs:List R}{k:List Key}(h:S[i]? = some (.dT aw))(ae:aR S (m σ) (.v (.ref i)))(ag:aR S (ms σ) rs)(bK:aR S (m9 σ) (.v pP))(az:qB rs=some k)(aj:rs.length<=1000):aR S (wO m ms m9 σ) (.v ((ik aw k).getD pP)):=ae.bind (ag.bind (bK.bind ((mW h).bind (by rw[az];exact .of (if_pos aj)))))
theorem dH{a b:bp}(h:bT S (a σ) (.bq σ') S1)(ag:bT S1 (b σ') a7 bj):bT S (bS a b σ) a7 bj:=h.bind ag
theorem ze{a b:bp}{r:R}(h:bT S (a σ) (.cS r) S1):bT S (bS a b σ) (.cS r) S1:=h.bind rfl
theorem mn{t:aO->N Bool}{a b:bp}(h:bT S (t σ) true S1)(ag:bT S1 (a σ) a7 bj):bT S (fD t a b σ) a7 bj:=h.bind ag
theorem mm{t:aO->N Bool}{a b:bp}(h:bT S (t σ) false S1)(ag:bT S1 (b σ) a7 bj):bT S (fD t a b σ) a7 bj:=h.bind ag
theorem s6{t:aO->N Bool}{a b:bp}(h:bT S (t σ) false S1)(ag:bT S1 (b σ) a7 bj):bT S (bS (fD t a (cj cH)) b σ) a7 bj:=dH (mm h rfl) ag
theorem aem{t:aO->M Bool}{b:bp}(h:aR S (t σ) false)(ag:bT S (b σ) a7 bj):bT S (bS (cj (c4 t a cH)) b σ) a7 bj:=dH (BY h (.of rfl)).to ag
theorem ael{m:fq}(h:bT S (m σ) (.fr xs) S1):bT S (ow m σ) (.cS (.fr xs)) S1:=h.bind rfl
theorem Eh{m:fq}{r:R}(h:bT S (m σ) r S1):bT S (rg m σ) (.bq σ) S1:=h.bind rfl
theorem vL{m:fq}{r:R}(h:bT S (m σ) r S1)(e:r.dat=pure d):bT S (kP i m σ) (.bq (σ.set i (.val d))) S1:=h.bind ((aR.of e).to.bind rfl)
theorem x_call{mf:fL}{ms:cL}{rs:List R}{r:R}(h:aR S (ms σ) rs)(aC:rs.all R.jM=true)(e:bT S (mf (rs.map R.arg)) r S1):bT S (ka mf (gw ms) σ) r S1:=(aR.to h).bind (by rw[if_pos aC];exact e)
theorem zd{mf:fL}{mo:bl}{ms:iF}{aV:List (Str×D)}{rs:List R}{r:R}(h:S[i]? = some (.bA c aV))(ae:aR S (mo σ) (.v (.ref i)))(aH:aV.lookup m=none)(ag:bT S (ms σ) rs S)(aC:rs.all R.jM=true)(e:bT S (mf (.ref i::rs.map R.arg)) r S1):bT S (hI c m mf mo ms σ) r S1:=ae.to.bind ((mW h).to.bind (by show bT S (if c=c/\aV.lookup m=none then _ else _) _ _;rw[if_pos ⟨rfl,aH⟩];exact ag.bind (by rw[if_pos aC];exact e)))
theorem aek{mf:fL}{ms:cL}{rs:List R}(h:aR S (ms σ) rs)(aC:rs.all R.jM=true)(e:bT (S++[.bA c []]) (mf (.ref S.length::rs.map R.arg)) (.v .aW) S1):bT S (vK c mf (gw ms) σ) (.v (.ref S.length)) S1:=(aR.to h).bind (by
 rw[if_pos aC];exact bT.bind (m:=tX) (a:=S) (S1:=S) rfl (bT.bind (m:=putN _) (a:=()) (S1:=S++[gR.bA c []]) rfl (bT.bind e rfl)))
theorem sY{n N:Nat}{b:bp}{ds:List D}(h:ds.length=n)(e:bT S (b (ds.map c8++aiH (N-n) .emp)) (.cS (.v d)) S1):bT S (fnX n N b ds) (.v d) S1:=by
 unfold fnX;rw[if_pos h];exact e.bind rfl
theorem aej{n N:Nat}{b:bp}{ds xs:List D}(h:ds.length=n)(e:bT S (b (ds.map c8++aiH (N-n) .emp)) (.cS (.fr xs)) S1):bT S (fnX n N b ds) (.fr xs) S1:=by
 unfold fnX;rw[if_pos h];exact e.bind rfl
theorem NM{n N:Nat}{b:bp}{ds:List D}(h:ds.length=n)(e:bT S (b (ds.map c8++aiH (N-n) .emp)) (.bq σ') S1):bT S (fnX n N b ds) (.v .aW) S1:=by
 unfold fnX;rw[if_pos h];exact e.bind rfl
theorem x_at{mo:bl}{mv:fq}{aV:List (Str×D)}{r:R}(bz:bT S (mv σ) r S1)(e:r.dat=pure d)(ae:aR S1 (mo σ) (.v (.ref i)))(h:S1[i]? = some (.bA c aV))(aj:aV.length<1000):bT S (fa c f mo mv σ) (.bq σ) (S1.set i (.bA c (iS f d aV))):=bz.bind ((aR.of e).to.bind (ae.to.bind ((mW h).to.bind (by
 show bT S1 (if c=c/\aV.length<1000 then _ else _) _ _;rw[if_pos ⟨rfl,aj⟩];rfl))))
theorem zc{mo mk:bl}{mv:fq}{aw:List (Key×D)}{r:R}{k:Key}(bz:bT S (mv σ) r S1)(e:r.dat=pure d)(ae:aR S1 (mo σ) (.v (.ref i)))(ag:aR S1 (mk σ) (.v dz))(h:S1[i]? = some (.d_ aw))(az:o9 dz=some k)(aj:aw.length<1000):bT S (jl mo mk mv σ) (.bq σ) (S1.set i (.d_ (gp aw k d))):=bz.bind ((aR.of e).to.bind (ae.to.bind (ag.to.bind ((mW h).to.bind (by
 show bT S1 (match o9 dz with | some key=>_ | none=>_) _ _;rw[az];show bT S1 (if aw.length<1000 then _ else _) _ _;rw[if_pos aj];rfl)))))
theorem NL{mo:bl}{ms:cL}{mv:fq}{aw:List (List Key×D)}{r:R}{rs:List R}{k:List Key}(bz:bT S (mv σ) r S1)(e:r.dat=pure d)(ae:aR S1 (mo σ) (.v (.ref i)))(ag:aR S1 (ms σ) rs)(h:S1[i]? = some (.dT aw))(az:qB rs=some k)(aj:rs.length<=1000/\aw.length<1000):bT S (vI mo ms mv σ) (.bq σ) (S1.set i (.dT (gp aw k d))):=bz.bind ((aR.of e).to.bind (ae.to.bind (ag.to.bind ((mW h).to.bind (by
 rw[az];show bT S1 (if rs.length<=1000/\aw.length<1000 then _ else _) _ _;rw[if_pos aj];rfl)))))
theorem NJ{mo:bl}{ms:cL}{xs:List D}(ae:aR S (mo σ) (.v (.ref i)))(ag:aR S (ms σ) [.v d])(h:S[i]? = some (.lst xs))(z:xs.length<ahQ):bT S (rh h9 mo ms σ) (.bq σ) (S.set i (.lst (xs++[d]))):=ae.to.bind (ag.to.bind ((mW h).to.bind ((aR.to (a:=(R.v .aW,xs++[d])) (.of (by show(hr (xs.length<ahQ) >>= _)=_;rw[GN z];rfl))).bind rfl)))
theorem Ei:bT S (nr (dg (dS ar)) σ) (.v (.ref S.length)) (S++[.lst []]):=rfl
theorem NN{it:eS}(h:aR S (it σ) ds)(e:bT S (kO (fun d σ=>b (σ.set i (.val d))) ds σ) a7 S1):bT S (vJ i it b σ) a7 S1:=(aR.to h).bind e
theorem sZ{b:D->bp}(h:bT S (b d σ) (.bq σ') S1)(ag:bT S1 (kO b ds σ') a7 bj):bT S (kO b (d::ds) σ) a7 bj:=h.bind ag
theorem NO{a:aO->N Bool}(h:bT S (a σ) x S1):bT S (rj a σ) (!x) S1:=h.bind rfl
theorem NI{m:fq}(h:bT S (m σ) (.v (.aA b)) S1):bT S (rk m σ) b S1:=h.bind rfl
def Fr(W:List Nat)(S au:ck):Prop:=∀j o,j∉W->S[j]? = some o->au[j]? = some o
theorem Fr.set(h:i∈W):Fr W S (S.set i o):=fun j o' aZ e=>by
 rw[ahZ (fun q:i=j=>aZ (q▸h))];exact e
theorem Fr.app:Fr W S (S++l):=fun j o _ e=>by
 rw[aic (ahN.mp e).1];exact e
theorem Fr.refl:Fr W S S:=fun _ _ _ e=>e
theorem Fr.trans(h:Fr W S S1)(ag:Fr W S1 bj):Fr W S bj:=fun j o aZ e=>ag j o aZ (h j o aZ e)
theorem get_set(h:S[i]? = some o):(S.set i o')[i]? = some o':=by
 rw[aiJ (ahN.mp h).1]
theorem HH:(S++[o])[S.length]? = some o:=by rw[ah2 (ahM _),ajw];rfl
theorem set_same(h:S[i]? = some o):S.set i o=S:=by
 obtain⟨aj,e⟩:=ahN.mp h;rw[<-e,List.set_getElem_self]
end
end fp
namespace fp
open PySem PySem.Spec aF aY ke hP nz
structure c_ where
 me:Int
 cI:Int
 h:D
 op:D
 ef:Bool
 cW:Int
 st:dx
 wi:Int
 dd:D
 fS:Str
 dw:D
 aB:List cz
 km:Nat
 ts:D
def c_.aV(a:c_)(g:Nat):List (Str×D):=[("me",.int a.me),("epoch",.int a.cI),("hall",a.h),("opening",a.op),("over_known",.aA a.ef),("greatest_round",.int a.cW),("last_stamp",cx a.st),("wishes",.int a.wi),("deed",a.dd),("standing",.str a.fS),("last_outcome",a.dw),("grants",.ref g),("kept_mask",bx a.km),("told_slate",a.ts)]
def eO(me cI:Int)(s:dx)(k:Nat):D:=.tup [.str "ask",.int me,bx k,.int cI,cx s,.tup []]
def jO(me cI:Int)(s:dx)(l:D)(k:Nat):D:=.tup [.str "tell",.int me,bx k,.int cI,cx s,l]
def i5:D:=.tup [.tup [],.tup [],.tup [.int 0,.aW],.aW]
def sl(me:Int)(h:D):c_:=⟨me,0,h,i5,false,0,(0,0),0,.aW,"calm",.aW,[],0,.aW⟩
structure fc(S:ck)(i g:Nat)(a:c_):Prop where
 bA:S[i]? = some (.bA "Asker" (a.aV g))
 ls:S[g]? = some (.lst (a.aB.map cY))
structure d9(S au:ck)(i g g':Nat)(b:c_):Prop where
 at':fc au i g' b
 fr:Fr [i,g] S au
 nw:g'=g\/S.length<=g'
 len:S.length<=au.length
def hQ(S:ck)(i g:Nat)(m:N fm)(a7:fm)(c:c_):Prop:=∃au g',bT S m a7 au/\d9 S au i g g' c
def c_.Do(a:c_)(mf:fL)(ds ys:List D)(b:c_):Prop:=∀(S:ck)(i g:Nat),fc S i g a->∃au g',bT S (mf (.ref i::ds)) (.fr ys) au/\d9 S au i g g' b
section
variable{S S1 bj:ck}{σ σ':aO}{i g g1 g2 k:Nat}{a b c:c_}{f:Str}{d:D}{mv:bl}{r:R}{bd:bp}{a7:fm}
theorem r_(h:S[i]? = some o):i<S.length:=(ahN.mp h).1
theorem fc.ne(h:fc S i g a):i≠g:=fun e=>by have:=h.bA;rw[e,h.ls]at this;cases this
theorem d9.refl(h:fc S i g a):d9 S S i g g a:=⟨h,.refl,.inl rfl,ahM _⟩
theorem d9.trans(h:d9 S S1 i g g1 b)(ag:d9 S1 bj i g1 g2 c):d9 S bj i g g2 c:=by
 refine⟨ag.at',fun j o aZ e=>ag.fr j o ?_ (h.fr j o aZ e),?_,aiS h.len ag.len⟩
 ·have:=r_ e
  simp only[ahP,ajc,or_false,not_or]at aZ ⊢;rcases h.nw with q | q
  ·rw[q];exact aZ
  ·exact⟨aZ.1,by omega⟩
 ·rcases ag.nw with q | q
  ·rw[q];exact h.nw
  ·exact .inr (aiS h.len q)
theorem eD(h:fc S i g a)(az:J k σ=pure (.v (.ref i)))(e:(a.aV g).lookup f=some d):aR S (b2 (dn "Asker" f) (J k) σ) (.v d):=WX h.bA (.of az) e
theorem Jj:(a.aV g).length<1000:=by show 14<1000;omega
theorem mP(h:fc S i g a)(b:c_)(az:J k σ=pure (.v (.ref i)))(ev:aR S (mv σ) r)(AM:r.dat=pure d)(e:iS f d (a.aV g)=b.aV g)(j0:b.aB=a.aB)(q:∀S1,fc S1 i g b->hQ S1 i g (bd σ) a7 c):hQ S i g (bS (fa "Asker" f (J k) (dg mv)) bd σ) a7 c:=by
 have ae:fc (S.set i (.bA "Asker" (iS f d (a.aV g)))) i g b:=⟨by rw[get_set h.bA,e],by rw[ahZ h.ne,j0];exact h.ls⟩;obtain⟨bj,g2,t,s⟩:=q _ ae;exact⟨bj,g2,dH (x_at ev.to AM (.of az) h.bA Jj) t,d9.trans ⟨ae,.set (by simp),.inl rfl,by rw[aiu];exact ahM _⟩ s⟩
theorem TJ(h:fc S i g a)(b:c_)(az:J k σ=pure (.v (.ref i)))(e:∀n,iS ("grants":Str) (D.ref n) (a.aV g)=b.aV n)(cJ:b.aB=[])(q:∀S1 g1,fc S1 i g1 b->hQ S1 i g1 (bd σ) a7 c):hQ S i g (bS (fa "Asker" "grants" (J k) (nr (dg (dS ar)))) bd σ) a7 c:=by
 have h0:(S++[gR.lst []])[i]? = some (.bA "Asker" (a.aV g)):=Fr.app (W:=[]) _ _ (ajc) h.bA;have ae:fc ((S++[gR.lst []]).set i (.bA "Asker" (iS ("grants":Str) (D.ref S.length) (a.aV g)))) i S.length b:=⟨by rw[get_set h0,e],by rw[ahZ (ah5 (r_ h.bA)),HH,cJ];rfl⟩;obtain⟨bj,g2,t,s⟩:=q _ _ ae;exact⟨bj,g2,dH (x_at Ei rfl (.of az) h0 Jj) t,d9.trans ⟨ae,Fr.app.trans (.set (by simp)),.inr (ahM _),by rw[aiu,ahS];omega⟩ s⟩
theorem HK{ms:cL}(h:fc S i g a)(b:c_)(az:J k σ=pure (.v (.ref i)))(ev:aR S (ms σ) [.v (cY x)])(e:b.aV g=a.aV g)(j0:b.aB=a.aB++[x])(z:a.aB.length<1000)(q:∀S1,fc S1 i g b->hQ S1 i g (bd σ) a7 c):hQ S i g (bS (rh h9 (b2 (dn "Asker" "grants") (J k)) ms) bd σ) a7 c:=by
 have ae:fc (S.set g (.lst (a.aB.map cY++[cY x]))) i g b:=⟨by rw[ahZ h.ne.symm,e];exact h.bA,by rw[get_set h.ls,j0,aiG];rfl⟩;obtain⟨bj,g2,t,s⟩:=q _ ae;exact⟨bj,g2,dH (NJ (eD h az rfl) ev h.ls (by rw[ahJ];exact eB (by omega))) t,d9.trans ⟨ae,.set (by simp),.inl rfl,by rw[aiu];exact ahM _⟩ s⟩
theorem EO(h:fc S i g a)(az:J k σ=pure (.v (.ref i))):aR S (jY (b2 (dn "Asker" "grants") (J k)) σ) (.mv (a.aB.map cY)):=I5 h.ls (eD h az rfl)
theorem xi{m:a0}(h:fc S i g a)(e:aR S (m σ) a7):hQ S i g (cj m σ) a7 a:=⟨S,g,e,.refl h⟩
theorem kq{t:aO->M Bool}(e:aR S (t σ) false)(q:hQ S i g (bd σ) a7 c):hQ S i g (bS (cj (c4 t m cH)) bd σ) a7 c:=by
 obtain⟨bj,g2,t,s⟩:=q;exact⟨bj,g2,aem e t,s⟩
theorem rS{t:aO->M Bool}(e:aR S (t σ) false)(q:hQ S i g (bd σ) a7 c):hQ S i g (bS (fD (hl t) m (cj cH)) bd σ) a7 c:=by
 obtain⟨bj,g2,t,s⟩:=q;exact⟨bj,g2,s6 e t,s⟩
theorem A'{t:aO->M Bool}{m:a0}{r:R}(h:fc S i g a)(e:aR S (t σ) true)(aD:aR S (m σ) (.cS r)):hQ S i g (bS (cj (c4 t m cH)) bd σ) (.cS r) a:=⟨S,g,ze (BZ e aD).to,.refl h⟩
theorem HL{t:aO->M Bool}{m:bp}{r:R}(e:aR S (t σ) true)(q:hQ S i g (m σ) (.cS r) c):hQ S i g (bS (fD (hl t) m (cj cH)) bd σ) (.cS r) c:=by
 obtain⟨bj,g2,t,s⟩:=q;exact⟨bj,g2,ze (mn e t),s⟩
theorem TL{m:a0}(e:aR S (m σ) (.bq σ'))(q:hQ S i g (bd σ') a7 c):hQ S i g (bS (cj m) bd σ) a7 c:=by
 obtain⟨bj,g2,t,s⟩:=q;exact⟨bj,g2,dH (aR.to e) t,s⟩
theorem xj{ms:iF}{rs:List R}(h:fc S i g a)(q:a.Do mf (rs.map R.arg) ys c)(az:J k σ=pure (.v (.ref i)))(aH:(a.aV g).lookup m=none)(ag:bT S (ms σ) rs S)(aC:rs.all R.jM=true):hQ S i g (ow (hI "Asker" m mf (J k) ms) σ) (.cS (.fr ys)) c:=by
 obtain⟨bj,g2,t,s⟩:=q _ _ _ h;exact⟨bj,g2,ael (zd h.bA (.of az) aH ag aC t),s⟩
theorem lJ{n N:Nat}{bd:bp}{ds ys:List D}(h:ds.length+1=n)(q:∀S i g,fc S i g a->hQ S i g (bd (.val (.ref i)::ds.map c8++aiH (N-n) .emp)) (.cS (.fr ys)) c):a.Do (fnX n N bd) ds ys c:=fun S i g dX=>by
 obtain⟨bj,g2,t,s⟩:=q S i g dX;exact⟨bj,g2,aej h t,s⟩
end
def c_.asks(a:c_):c_:={ a with cW:=a.cW+1,st:=(a.cW+1,a.me),fS:="asking",aB:=[] }
theorem EW{a:c_}{ms:List Nat}(hm:m6 [a.h]=pure (.fr (ms.map bx)))(aj:ms.length<=6) :
  a.Do x_ [] (ms.map (eO a.me a.cI (a.cW+1,a.me))) a.asks:=lJ rfl fun S i g h=>
 mP h { a with cW:=a.cW+1 } rfl (dy rfl (eD h rfl rfl) (.of rfl)) rfl rfl rfl fun S h=>
 mP h { a with cW:=a.cW+1,st:=(a.cW+1,a.me) } rfl (B0 (cO (eD h rfl rfl) (cO (eD h rfl rfl) eQ)) rfl (ah7 rfl)) rfl rfl rfl fun S h=>
 mP h { a with cW:=a.cW+1,st:=(a.cW+1,a.me),fS:="asking" } rfl (.of rfl) rfl rfl rfl fun S h=>
 TJ h a.asks rfl (fun _=>rfl) rfl fun S g h=>
 xi h (I7 (xR (BX (h2 (cO (eD h rfl rfl) eQ) (.of hm)) rfl) (by rw[ahJ];exact eB (by omega))
  (xS bx (eO a.me a.cI (a.cW+1,a.me)) ms fun k _=>h2 (cO (eD h rfl rfl) (cO (.of rfl) (cO (eD h rfl rfl) (cO (eD h rfl rfl) eQ)))) (.of rfl))))
theorem NK{S:ck}{mv:bl}{aV:List (Str×D)}{bd:bp}(h:S[i]? = some (.bA c aV))(ev:mv σ=pure (.v d))(az:J 0 σ=pure (.v (.ref i)))(aj:aV.length<1000)(q:bT (S.set i (.bA c (iS f d aV))) (bd σ) a7 bj):bT S (bS (fa c f (J 0) (dg mv)) bd σ) a7 bj:=dH (x_at (aR.of ev).to rfl (.of az) h aj) q
theorem qD{n:Nat}(h:n.ble 999=true):n<1000:=Nat.lt_succ_of_le (ah7 h)
theorem Wm(S:ck)(me:Int)(h:D)(dX:c8 h=.val h):∃au,bT (S++[.bA "Asker" []]) (x9 [.ref S.length,.int me,h]) (.v .aW) au/\fc au S.length (S.length+1) (sl me h)/\au.length=S.length+2:=by
 have ne:S.length+1≠S.length:=by omega
 have ap:∀{o o':gR},(S++[o])++[o']=S++[o,o']:=fun{o o'}=>by rw[akr];rfl
 have st:∀{o o':gR}{l:ck},(S++o::l).set S.length o'=S++o'::l:=fun{o o' l}=>by rw[List.set_append_right _ _ (ahM _),ajw];rfl
 have gt:∀{o:gR}{l:ck},(S++o::l)[S.length]? = some o:=fun{o l}=>by rw[ah2 (ahM _),ajw];rfl
 refine⟨S++[.bA "Asker" ((sl me h).aV (S.length+1)),.lst []],NM (σ':=[.val (.ref S.length),.val (.int me),.val h]) rfl ?_,⟨gt,?_⟩,by rw[ahS];rfl⟩
 ·show bT _ (zS [.val (.ref S.length),.val (.int me),c8 h]) _ _
  rw[dX]
  repeat' (refine NK gt (by rfl) rfl (qD rfl) ?_;rw[st])
  refine dH (x_at Ei rfl (.of rfl) (by rw[ap];exact gt) (qD rfl)) ?_;rw[ap,st,ahS];refine NK gt (by rfl) rfl (qD rfl) ?_;rw[st];have:=x_at (S:=S++[gR.bA "Asker" [("me",D.int me),("epoch",.int 0),("hall",h),("opening",i5),("over_known",.aA false),("greatest_round",.int 0),("last_stamp",cx (0,0)),("wishes",.int 0),("deed",.aW),("standing",.str "calm"),("last_outcome",.aW),("grants",.ref (S.length+1)),("kept_mask",bx 0)],.lst []]) (f:="told_slate") (mv:=dg (ab .aW)) (σ:=[.val (.ref S.length),.val (.int me),.val h]) (mo:=J 0) (i:=S.length) (d:=.aW) (r:=.v .aW) rfl rfl (.of rfl) gt (qD rfl);rw[st]at this;exact this
 ·rw[ah2 (by omega),Nat.add_sub_cancel_left];rfl
theorem iV(ah:ah9 x=true)(a':ah9 y=true):oEq (.v (.str x)) (.v (.str y))=pure (.v (.aA (x==y))):=rG (x:=.v (.str x)) (y:=.v (.str y)) ah a'
theorem acg(ah:ah9 x=true)(a':ah9 y=true):ez (.v (.str x)) (.v (.str y))=pure (.v (.aA (!(x==y)))):=AD (x:=.v (.str x)) (y:=.v (.str y)) ah a'
theorem Ku:ah9 "calm"=true:=by decide +kernel
theorem C3:ah9 "asking"=true:=by decide +kernel
theorem YO:ah9 "telling"=true:=by decide +kernel
theorem C6:ah9 "late"=true:=by decide +kernel
def c_.pZ(a:c_):Prop:=a.fS="calm"\/a.fS="asking"\/a.fS="telling"
theorem yR{a:c_}(h:a.pZ):ah9 a.fS=true:=by rcases h with h | h | h<;>rw[h]<;>decide +kernel
theorem calm_eq{a:c_}(h:a.pZ):oEq (.v (.str a.fS)) (.v (.str "calm"))=pure (.v (.aA (a.fS == "calm"))):=iV (yR h) Ku
theorem QZ{a:c_}(h:a.pZ):ez (.v (.str a.fS)) (.v (.str "calm"))=pure (.v (.aA (!(a.fS == "calm")))):=acg (yR h) Ku
structure vX(h:D)(ms:List Nat)(ep rN:Nat->Bool):Prop where
 mem:m6 [h]=pure (.fr (ms.map bx))
 len:ms.length<=6
 lt:∀k∈ms,k<6
 ne:ms≠[]
 ex:∃x y,h=.tup [x,y]/\c8 x=.val x/\c8 y=.val y/\(∀m:Nat,l5 12 [x,bx m]=pure (.v (.aA (ep m))))/\∀m:Nat,l5 12 [y,bx m]=pure (.v (.aA (rN m)))
def c_.tells(a:c_)(t:D):c_:={ a with fS:="telling",km:=0,ts:=t }
theorem Wy(d:D):kE (.v d) (.v .aW)=pure (.v (.aA (match d with | .aW=>true | _=>false))):=by cases d<;>rfl
theorem TK{a:c_}{ms:List Nat}{s:dx}{w:D}(hm:m6 [a.h]=pure (.fr (ms.map bx)))(aj:ms.length<=6)(hd:a.dd≠.aW){t:D}
  (dK:m3 [w,.int a.me,.int a.wi,a.dd]=pure (.v t)) :
  a.Do ya [.tup [cx s,w]] (ms.map (jO a.me a.cI a.st (.tup [cx s,.int a.wi,a.dd,t]))) (a.tells t):=lJ rfl fun S i g h=>
 rS (qA (dG (dy (by rw[Wy];revert hd;cases a.dd<;>first | exact fun _=>rfl | exact fun h=>absurd rfl h) (eD (d:=a.dd) h rfl rfl) (.of rfl))))<|
 mP h { a with fS:="telling" } rfl (.of rfl) rfl rfl rfl fun S h=>
 mP h { a with fS:="telling",km:=0 } rfl (.of rfl) rfl rfl rfl fun S h=>
 mP h (a.tells t) rfl (h2 (cO (.of rfl) (cO (eD h rfl rfl) (cO (eD h rfl rfl) (cO (eD h rfl rfl) eQ)))) (.of dK)) rfl rfl rfl fun S h=>
 TL (uv (B0 (cO (.of rfl) (cO (eD h rfl rfl) (cO (eD h rfl rfl) (cO (eD h rfl rfl) eQ)))) rfl (ah7 rfl)) rfl)<|
 xi h (I7 (xR (BX (h2 (cO (eD h rfl rfl) eQ) (.of hm)) rfl) (by rw[ahJ];exact eB (by omega))
  (xS bx (jO a.me a.cI a.st (.tup [cx s,.int a.wi,a.dd,t])) ms fun k _=>h2 (cO (eD h rfl rfl) (cO (.of rfl) (cO (eD h rfl rfl) (cO (eD h rfl rfl) (cO (.of rfl) eQ))))) (.of rfl))))
def fX(k:Nat)(a e:Int)(s kp:dx)(w:D):D:=.tup [.str "grant",bx k,.int a,.int e,cx s,.tup [cx kp,w]]
def W9(k:Nat)(a e:Int)(s:dx):D:=.tup [.str "kept",bx k,.int a,.int e,cx s,.tup []]
def ux(k:Nat)(a e:Int)(s p:dx):D:=.tup [.str "late",bx k,.int a,.int e,cx s,.tup [cx p]]
def c_.got(a:c_)(k:Nat)(kp:dx)(w:D):c_:={ a with aB:=a.aB++[⟨k,kp,w⟩] }
section
variable{a:c_}{ms:List Nat}{ep rN:Nat->Bool}(H:vX a.h ms ep rN){k:Nat}{me e:Int}{s kp:dx}{w:D}(aS:∀g∈a.aB,g.k<6)(aj:a.aB.length<60)(az:k<6)
theorem HN{a:c_}{i g:Nat}(h:fc S i g a)(aS:∀g∈a.aB,g.k<6)(aj:a.aB.length<=1000)(σ:aO):aR S (bJ pf (U (jY (b2 (dn "Asker" "grants") (J 0))) ar) (.val (.ref i)::σ)) (.v (bx (maskOf (a.aB.map (·.k))))):=
 h2 (cO (EO h rfl) eQ) (.of (TM a.aB aS aj))
include aS aj
theorem Bu(h:fc S i g a):aR S (bg (bJ pg (U (bJ pf (U (jY (b2 (dn "Asker" "grants") (J 0))) ar)) (U (af aN (J 1) (ab (.int 1))) ar))) [.val (.ref i),.val (fX k me e s kp w)]) (g8 (maskOf (a.aB.map (·.k))) k):=
 dG (h2 (cO (HN h aS (by omega) _) (cO (.of rfl) eQ)) (.of (Bg _ k)))
theorem Vo(q:g8 (maskOf (a.aB.map (·.k))) k=true):a.Do sb [fX k me e s kp w] [] a:=lJ rfl fun S i g h=>
 A' h (by have:=Bu (k:=k) (me:=me) (e:=e) (s:=s) (kp:=kp) (w:=w) aS aj h;rw[q]at this;exact this) (.of rfl)
include H az
theorem HM(h:fc S i g (a.got k kp w)):aR S (f3 (bg (bJ (l5 12) (U (af aN (b2 (dn "Asker" "hall") (J 0)) (ab (.int 0))) (U (bJ pf (U (jY (b2 (dn "Asker" "grants") (J 0))) ar)) ar)))) [.val (.ref i),.val (fX k me e s kp w)]) (!ep (maskOf ((a.got k kp w).aB.map (·.k)))):=by
 obtain⟨x,y,AE,_,_,f1,_⟩:=H.ex;have g3:=HN h (fun g h=>by
  rcases aiL.mp h with h | h
  ·exact aS g h
  ·rw[aij.mp h];exact az) (by show(a.aB++[_]).length<=1000;rw[ahS];show _+1<=_;omega) [.val (fX k me e s kp w)]
 exact o7 (dG (h2 (cO (dy (x:=.v (.tup [x,y])) (r:=.v x) rfl (eD h rfl (by show some a.h=_;rw[AE])) (.of rfl)) (cO g3 eQ)) (.of (f1 _))))
theorem Vl(q:g8 (maskOf (a.aB.map (·.k))) k=false)(bU:ep (maskOf ((a.got k kp w).aB.map (·.k)))=false):a.Do sb [fX k me e s kp w] [] (a.got k kp w):=lJ rfl fun S i g h=>
 kq (by have:=Bu (k:=k) (me:=me) (e:=e) (s:=s) (kp:=kp) (w:=w) aS aj h;rw[q]at this;exact this)<|
 HK h (a.got k kp w) rfl (cO (x:=.v (cY ⟨k,kp,w⟩)) (.of rfl) eQ) rfl rfl (by omega) fun S h=>
 A' h (by have:=HM (me:=me) (e:=e) (s:=s) H aS aj az h;rw[bU]at this;exact this) (.of rfl)
theorem Vn{Y:List D}{t:c_}{p:cz}{ps:List cz}(j0:(a.got k kp w).aB=p::ps)(VZ:c8 a.op=.val a.op)(q:g8 (maskOf (a.aB.map (·.k))) k=false)(bU:ep (maskOf ((a.got k kp w).aB.map (·.k)))=true)
  (go:(a.got k kp w).Do ya [qk a.op (mH p ps)] Y t):a.Do sb [fX k me e s kp w] Y t:=by
 have ay:=VF p ps a.op VZ (by rw[<-j0];show(a.aB++[_]).length<64;rw[ahS];show _+1 < _;omega);rw[<-j0]at ay;exact lJ rfl fun S i g h=>
  kq (by have:=Bu (k:=k) (me:=me) (e:=e) (s:=s) (kp:=kp) (w:=w) aS aj h;rw[q]at this;exact this)<|
  HK h (a.got k kp w) rfl (cO (x:=.v (cY ⟨k,kp,w⟩)) (.of rfl) eQ) rfl rfl (by omega) fun S h=>
  kq (by have:=HM (me:=me) (e:=e) (s:=s) H aS aj az h;rw[bU]at this;exact this)<|
  xj (rs:=[.v (qk a.op (mH p ps))]) h go rfl rfl (aR.to (cO (h2 (cO (EO h rfl) (cO (eD h rfl rfl) eQ)) (.of ay)) eQ)) rfl
end
def CM:D->Bool
 |.aW=>true|_=>false
theorem Yy(d:D):la (.v d) (.v .aW)=pure (.v (.aA (!CM d))):=by cases d<;>rfl
theorem Wk(j:Nat)(br:List Nat):jb false (.v (bx j)) (.fr (br.map bx))=pure (.v (.aA (br.contains j))):=BM j br
theorem qL{a b:Int}:ez (.v (.int a)) (.v (.int b))=pure (.v (.aA (!decide (a=b)))):=rfl
def c_.now(a:c_)(ms:List Nat)(k:Nat)(e:Int)(s:dx):Bool:=decide (e=a.cI)&&decide (s=a.st)&&ms.contains k
theorem Ww{a:c_}(h:fc S i g a)(H:vX a.h ms ep rN)(w ld:D)(k:Nat)(b e:Int)(s:dx):aR S (yb [.ref i,.tup [w,bx k,.int b,.int e,cx s,ld]]) (.v (.aA (a.now ms k e s))):=by
 refine BW rfl ?_;have t1:aR S (bg (af ez (af aN (J 1) (ab (.int 3))) (b2 (dn "Asker" "epoch") (J 0))) [.val (.ref i),.val (.tup [w,bx k,.int b,.int e,cx s,ld])]) (!decide (e=a.cI)):=dG (dy qL (.of rfl) (eD h rfl rfl));have eC:aR S (bg (af ez (af aN (J 1) (ab (.int 4))) (b2 (dn "Asker" "last_stamp") (J 0))) [.val (.ref i),.val (.tup [w,bx k,.int b,.int e,cx s,ld])]) (!decide (s=a.st)):=dG (dy (Yo s a.st) (.of rfl) (eD h rfl rfl));unfold c_.now;generalize decide (e=a.cI)=lu at *;generalize decide (s=a.st)=NH at *
 cases lu with
 |false=>exact I8 (BZ (W0 t1) (.of rfl))|true=>
  cases NH with
  |false=>exact I8 (BZ (xT t1 eC) (.of rfl))|true=>exact W2 (BY (xT t1 eC) (.of rfl)) (uu (dy (Wk k ms) (.of rfl) (h2 (cO (eD h rfl rfl) eQ) (.of H.mem))))
theorem yy:ah9 "grant"=true:=by decide +kernel
theorem YN:ah9 "kept"=true:=by decide +kernel
theorem JC:oEq (.v (.str "late")) (.v (.str "late"))=pure (.v (.aA true)):=by rw[iV C6 C6,beq_self_eq_true]
theorem t2:oEq (.v (.str "grant")) (.v (.str "late"))=pure (.v (.aA false)):=by rw[iV yy C6];rfl
theorem HI:oEq (.v (.str "grant")) (.v (.str "grant"))=pure (.v (.aA true)):=by rw[iV yy yy,beq_self_eq_true]
theorem TG:oEq (.v (.str "grant")) (.v (.str "kept"))=pure (.v (.aA false)):=by rw[iV yy YN];rfl
def c_.Ce(a:c_)(r:Int):c_:={ a with cW:=if r > a.cW then r else a.cW }
section
variable{a:c_}{ms:List Nat}{ep rN:Nat->Bool}{S:ck}{i g:Nat}(H:vX a.h ms ep rN){k:Nat}{e:Int}{s kp:dx}{w:D}
theorem yC(h:fc S i g a)(x ld:D)(k:Nat)(e:Int)(s:dx):aR S (bg (af ez (af aN (J 1) (ab (.int 2))) (b2 (dn "Asker" "me") (J 0))) [.val (.ref i),.val (.tup [x,bx k,.int a.me,.int e,cx s,ld])]) false:=
 dG (dy (qL.trans (by rw[decide_eq_true rfl];rfl)) (.of rfl) (eD (d:=.int a.me) h rfl rfl))
theorem Vp(p:dx):a.Do m2 [ux k a.me e s p] [] (a.Ce p.1):=lJ rfl fun S i g h=>
 kq (yC h (.str "late") (.tup [cx p]) k e s)<|HL (dG (dy JC (.of rfl) (.of rfl)))<|
 mP h (a.Ce p.1) rfl (ur (r:=.v (.int (a.Ce p.1).cW)) rfl (cO (eD h rfl rfl) (cO (.of rfl) eQ))) rfl rfl rfl fun S h=>xi h (.of rfl)
include H
theorem CO(h:fc S i g a)(x ld:D)(k:Nat)(b e:Int)(s:dx):aR S (f3 (bg (jZ "Asker" "is_for_now" yb (J 0) (U (J 1) ar))) [.val (.ref i),.val (.tup [x,bx k,.int b,.int e,cx s,ld])]) (!a.now ms k e s):=
 o7 (dG (I6 h.bA (.of rfl) rfl (cO (.of rfl) eQ) (Ww h H x ld k b e s)))
theorem Vq(x ld:D)(ah:oEq (.v x) (.v (.str "late"))=pure (.v (.aA false)))(q:a.now ms k e s=false):a.Do m2 [.tup [x,bx k,.int a.me,.int e,cx s,ld]] [] a:=lJ rfl fun S i g h=>
 kq (yC h x ld k e s)<|rS (dG (dy ah (.of rfl) (.of rfl)))<|A' h (by have:=CO H h x ld k a.me e s;rw[q]at this;exact this) (.of rfl)
variable(aC:a.pZ)
include aC
theorem Bo(q:a.now ms k e s=true)(c:a.fS="asking"){t:c_}(g:a.Do sb [fX k a.me e s kp w] Y t):a.Do m2 [fX k a.me e s kp w] Y t:=lJ rfl fun S i j h=>
 kq (yC h (.str "grant") (.tup [cx kp,w]) k e s)<|rS (dG (dy t2 (.of rfl) (.of rfl)))<|
 kq (by have:=CO H h (.str "grant") (.tup [cx kp,w]) k a.me e s;rw[q]at this;exact this)<|
 HL (l3 (dG (dy HI (.of rfl) (.of rfl))) (dG (dy (by rw[iV (yR aC) C3,c,beq_self_eq_true]) (eD h rfl rfl) (.of rfl))))<|
 xj (rs:=[.v (fX k a.me e s kp w)]) h g rfl rfl (aR.to (.of rfl)) rfl
theorem Vm(q:a.now ms k e s=true)(c:a.fS≠"asking"):a.Do m2 [fX k a.me e s kp w] [] a:=lJ rfl fun S i j h=>
 kq (yC h (.str "grant") (.tup [cx kp,w]) k e s)<|rS (dG (dy t2 (.of rfl) (.of rfl)))<|
 kq (by have:=CO H h (.str "grant") (.tup [cx kp,w]) k a.me e s;rw[q]at this;exact this)<|
 rS (l3 (dG (dy HI (.of rfl) (.of rfl))) (dG (dy (by rw[iV (yR aC) C3,show(a.fS == "asking")=false by simpa using c]) (eD h rfl rfl) (.of rfl))))<|
 rS (qA (dG (dy TG (.of rfl) (.of rfl))))<|xi h (.of rfl)
end
section
variable{a:c_}{ms:List Nat}(hm:m6 [a.h]=pure (.fr (ms.map bx)))(aj:ms.length<=6)
include hm aj
theorem Qv(aC:a.pZ)(c:a.fS≠"calm"):a.Do x' [] (ms.map (eO a.me a.cI (a.cW+1,a.me))) a.asks:=lJ rfl fun S i g h=>
 kq (dG (dy (by rw[calm_eq aC,show(a.fS == "calm")=false by simpa using c]) (eD h rfl rfl) (.of rfl)))<|xj (rs:=[]) h (EW hm aj) rfl rfl rfl rfl
def c_.z7(a:c_)(d:D):c_:={ a with wi:=a.wi+1,dd:=d,dw:=.aW }
theorem Qu(aC:a.fS="calm")(bc:a.ef=false)(hd:c8 d=.val d)(nn:la (.v d) (.v .aW)=pure (.v (.aA true)))(a4:uE [d]=pure (.v (.aA true))):a.Do sa [d] (ms.map (eO a.me a.cI (a.cW+1,a.me))) (a.z7 d).asks:=lJ rfl fun S i g h=>by
 show hQ S i g (zT [.val (.ref i),c8 d]) _ _;rw[hd];exact kq (l3 (dG (dy nn (.of rfl) (.of rfl))) (o7 (dG (h2 (cO (x:=.v d) (.of rfl) eQ) (.of a4)))))<|
  kq (dG (eD h rfl (by show some (D.aA a.ef)=_;rw[bc])))<|
  kq (dG (dy (by rw[QZ (a:=a) (.inl aC),aC,beq_self_eq_true];rfl) (eD h rfl rfl) (.of rfl)))<|
  mP h { a with wi:=a.wi+1 } rfl (dy rfl (eD h rfl rfl) (.of rfl)) rfl rfl rfl fun S h=>
  mP h { a with wi:=a.wi+1,dd:=d } rfl (.of rfl) rfl rfl rfl fun S h=>
  mP h (a.z7 d) rfl (.of rfl) rfl rfl rfl fun S h=>
  xj (rs:=[]) h (EW (a:=a.z7 d) hm aj) rfl rfl rfl rfl
end
abbrev kZ:=fB.κ.toKeyOrd
structure eT where
 cs:pY
 ds:List (Int×D)
 f:Int
 t:D
 c2:D
def eT.D(s:eT):aY.D:=.tup [.tup (s.cs.map (·.2)),.tup (s.ds.map (·.2)),.tup [.int s.f,s.t],s.c2]
inductive hK where
 |put (a:List Nat) (n:Int) | add (a:List Nat) (n:Int)
def hK.D:hK->aY.D
 |.put a n=>.tup [.str "put",.str (cy a),.int n]|.add a n=>.tup [.str "add",.str (cy a),.int n]
def adm:Option hK->aY.D
 |none=>.aW|some d=>d.D
def eT.cell(s:eT)(a:List Nat):Int:=lF (gd (Q:=dQ) s.cs a)
def eT.put(s:eT)(a:List Nat)(n:Int):eT:={ s with cs:=jk s.cs a n }
def l9(s:eT)(i:Int):hK->eT×aY.D
 |.put a n=>(s.put a n,.int (s.cell a))
 |.add a n=>(s.put a (s.cell a+n),.int (s.cell a+n))
structure ih(G:aY.D->Prop)(W:List (List Nat))(s:eT):Prop where
 row:∀x∈s.cs,jq x
 rise:kg dQ s.cs
 nm:∀x∈s.cs,x.1∈W
 num:∀x∈s.ds,pV x
 p':kg kZ s.ds
 fy:∀x∈s.ds,0<=x.1/\x.1<6
 fw:s.t=.aW\/∃i:Int,s.t=.int i
 c2:s.c2=.aW\/s.c2=.str "over"\/(∃xs,s.c2=.tup xs)/\G s.c2
 w0:∀x∈s.ds,aY.Ok 2 x.2
def kU(G:aY.D->Prop)(W:List (List Nat)):hK->Prop
 |.put a _=>kh a/\a∈W|.add a _=>kh a/\a∈W
theorem ab0{z:Int}(h0:0<=z)(iq:z<6):z∈([0,1,2,3,4,5]:List Int):=by
 have e:z=0\/z=1\/z=2\/z=3\/z=4\/z=5:=by omega
 rcases e with e | e | e | e | e | e<;>rw[e]<;>simp
section
variable{G:aY.D->Prop}{W:List (List Nat)}{s:eT}(h:ih G W s)
include h
theorem ih.cl:s.cs.length<=W.length:=by
 have:=alr (l₂:=W) h.rise.nodup fun x ah=>by
  obtain⟨y,a',rfl⟩:=aiK.mp ah;exact h.nm y a'
 rwa[ahJ]at this
theorem ih.dl:s.ds.length<=6:=by
 have:=alr (l₂:=([0,1,2,3,4,5]:List Int)) h.p'.nodup fun x ah=>by
  obtain⟨y,a',rfl⟩:=aiK.mp ah;exact ab0 (h.fy y a').1 (h.fy y a').2
 rw[ahJ]at this;exact this
theorem ih.cc:s.t.bO 63=true:=by rcases h.fw with e | ⟨i,e⟩<;>rw[e]<;>rfl
theorem Y_(gg:W.length<63)(i:Int)(hd:kU G W d):m7 [s.D,.int i,d.D]=pure (.v (.tup [(l9 s i d).1.D,(l9 s i d).2])):=by
 have aj:s.cs.length<63:=by have:=h.cl;omega
 have cc:=h.cc;obtain⟨cs,ds,f,t,c2⟩:=s
 cases d with
 |put a n=>exact Zd h.row h.rise aj _ _ _ hd.1 n i|add a n=>exact Zc h.row h.rise aj _ _ _ hd.1 n i
end
def eT.last(s:eT)(i:Int):Int:=pw (gd (Q:=kZ) s.ds i)
def kj(s:eT)(i n:Int):Option hK->eT
 |none=>s|some d=>if(CM s.c2)=true/\s.last i<n then{ (l9 s i d).1 with ds:=lg (Q:=kZ) s.ds (i,.tup [.int i,.int n,(l9 s i d).2]) }else s
theorem Y9(s:eT)(i:Int)(d:hK):(l9 s i d).1.ds=s.ds:=by
 cases d<;>rfl
section
variable{G:aY.D->Prop}{W:List (List Nat)}{s:eT}(h:ih G W s)
include h
theorem Zb(i:Int)(d:hK):c8 (l9 s i d).2=.val (l9 s i d).2:=by
 cases d<;>rfl
theorem SA(gg:W.length<63)(i n:Int)(hd:∀x,d=some x->kU G W x):m3 [s.D,.int i,.int n,adm d]=pure (.v (kj s i n d).D):=by
 cases d with
 |none=>exact Ha h.num _ _ _ i n .aW rfl (.inl rfl)|some d=>
  have hd:=hd d rfl;unfold kj;dsimp only;have dT:∃xs,d.D=.tup xs:=by cases d<;>exact⟨_,rfl⟩
  obtain⟨xs,dT⟩:=dT
  by_cases c:(CM s.c2)=true/\s.last i<n
  ·rw[if_pos c]
   have dU:=Y_ h gg i hd;have c1:=Y9 s i d;have os:=Zb h i d;have xA:s.c2=.aW:=by
    rcases h.c2 with e | e | ⟨⟨xs,e⟩,_⟩
    ·exact e
    ·rw[e]at c;cases c.1
    ·rw[e]at c;cases c.1
   have uc:=h.dl;have VT:=h.p'.nodup;have VW:=h.num;generalize l9 s i d=o at *;obtain⟨⟨Rh,lK,qb,t',sh'⟩,v⟩:=o;obtain⟨cs,ds,f,t,c2⟩:=s;dsimp only at c1 os xA dU uc ⊢;subst c1 xA;show m3 [_,_,_,d.D]=_;unfold eT.D at dU ⊢;dsimp only at dU ⊢;rw[dT]at dU ⊢;have aq:=Sz VW (.tup (cs.map (·.2))) (.tup [.int f,t]) i n xs c.2 (show lK.length<63 by omega) VT (c':=.tup (Rh.map (·.2))) (le':=.tup [.int qb,t']) (sh':=sh') (v:=v);exact aq dU os
  ·rw[if_neg c]
   show m3 [_,_,_,d.D]=_;rw[dT];refine Ha h.num _ _ _ i n (.tup xs) rfl (.inr ⟨⟨_,rfl⟩,?_⟩);rcases h.c2 with e | e | ⟨⟨zs,e⟩,_⟩
   ·refine .inr (.inr ⟨e,?_⟩)
    rw[e]at c;have:¬s.last i<n:=fun z=>c ⟨rfl,z⟩
    unfold eT.last at this;omega
   ·exact .inl e
   ·exact .inr (.inl ⟨zs,e⟩)
end
section
variable{G:aY.D->Prop}{W:List (List Nat)}{s:eT}(h:ih G W s)
include h
theorem ih.put(ao:kh a)(hw:a∈W)(n:Int):ih G W (s.put a n) where
 row:=adt h.row ao n
 rise:=ads h.rise a n
 nm:=fun x ah=>by
  have ah:x∈jk s.cs a n:=ah;unfold jk at ah;split at ah
  ·exact h.nm x ((rE (Q:=dQ)).mp ah).1
  ·rcases(vb (Q:=dQ)).mp ah with⟨ah,_⟩ | rfl
   ·exact h.nm x ah
   ·exact hw
 num:=h.num
 p':=h.p'
 fy:=h.fy
 fw:=h.fw
 c2:=h.c2
 w0:=h.w0
theorem Y'(i:Int)(hd:kU G W d):ih G W (l9 s i d).1:=by
 cases d with
 |put a n=>exact h.put hd.1 hd.2 n|add a n=>exact h.put hd.1 hd.2 _
theorem Y8(i:Int)(d:hK):aY.Ok 1 (l9 s i d).2:=by
 cases d<;>exact h5
theorem G'{i:Int}(h0:0<=i)(iq:i<6)(n:Int)(hd:∀x,d=some x->kU G W x):ih G W (kj s i n d):=by
 cases d with
 |none=>exact h|some d=>
  have o:=Y' h i (hd d rfl);unfold kj;dsimp only;split
  ·refine⟨o.row,o.rise,o.nm,?_,?_,?_,o.fw,o.c2,?_⟩
   ·exact YC h.num i n _
   ·exact K6 _ h.p'.nodup
   ·intro x ah
    rcases(vb (Q:=kZ)).mp ah with⟨ah,_⟩ | rfl
    ·exact h.fy x ah
    ·exact⟨h0,iq⟩
   ·intro x ah
    rcases(vb (Q:=kZ)).mp ah with⟨ah,_⟩ | rfl
    ·exact h.w0 x ah
    ·exact C2 h5 h5 (Y8 h i d)
  ·exact h
theorem ih.ok(gg:W.length<=1000)(oX:∀z,G z->aY.Ok 9 z):aY.Ok 10 s.D:=by
 have aE:=h.cl;have hd:=h.dl;refine Ks (n:=9) (pz (n:=3) (pA (n:=2) (by rw[ahJ];omega) fun x ah=>?_) (by decide)) (pz (n:=3) (pA (n:=2) (by rw[ahJ];omega) fun x ah=>?_) (by decide)) (pz (n:=1) (yx h5 ?_) (by decide)) ?_
 ·obtain⟨y,a',rfl⟩:=aiK.mp ah
  obtain⟨w,n,_,e⟩:=h.row y a';rw[e];exact pz (n:=1) (yx (oc w.1) h5) (by decide)
 ·obtain⟨y,a',rfl⟩:=aiK.mp ah
  exact h.w0 y a'
 ·rcases h.fw with e | ⟨i,e⟩
  ·rw[e];exact Kv
  ·rw[e];exact h5
 ·rcases h.c2 with e | e | ⟨_,g⟩
  ·rw[e];exact Kv
  ·rw[e];exact oc (by decide +kernel)
  ·exact oX _ g
end
abbrev eG(k:Nat):List Key:=[.inl (k:Nat),.inl 0]
def lb(pr kp:dx)(w:D):D:=.tup [cx pr,cx kp,w]
def iw(aw:List (List Key×D))(k:Nat):D:=(ik aw (eG k)).getD (lb (0,0) (0,0) .aW)
theorem XC{S:ck}(h:S[i]? = some (.dT aw))(k:Nat):aR S (sh [.ref i,bx k,.int 0]) (.v (iw aw k)):=
 BW rfl (uu (W3 h (.of rfl) (.of rfl) (.of rfl) rfl (ah7 rfl)))
theorem cmp_gt(s t:dx):m' gI (.v (cx s)) (.v (cx t))=pure (.v (.aA (f' s t))):=by
 show pure (R.v (.aA (gI [s.1,s.2] [t.1,t.2])))=_;rw[JB]
theorem XH(s t:dx):iN [s.1,s.2] [t.1,t.2] = !f' t s:=by
 unfold iN f';rw[qE,qE]
 by_cases ba:s.1=t.1
 ·rw[if_pos ba,ba]
  by_cases bU:s.2=t.2
  ·rw[if_pos bU,bU]
   simp[mX]
  ·rw[if_neg bU,ajg];simp
 ·rw[if_neg ba,ajg]
  simp;omega
theorem GR(s t:dx):m' iN (.v (cx s)) (.v (cx t))=pure (.v (.aA (!f' t s))):=by
 show pure (R.v (.aA (iN [s.1,s.2] [t.1,t.2])))=_;rw[XH]
theorem u0:ah9 "ask"=true:=by decide +kernel
theorem u1:ah9 "tell"=true:=by decide +kernel
theorem EM:oEq (.v (.str "ask")) (.v (.str "ask"))=pure (.v (.aA true)):=by rw[iV u0 u0,beq_self_eq_true]
theorem OC:oEq (.v (.str "ask")) (.v (.str "tell"))=pure (.v (.aA false)):=by rw[iV u0 u1];rfl
theorem MS:oEq (.v (.str "tell")) (.v (.str "ask"))=pure (.v (.aA false)):=by rw[iV u1 u0];rfl
theorem M4:oEq (.v (.str "tell")) (.v (.str "tell"))=pure (.v (.aA true)):=by rw[iV u1 u1,beq_self_eq_true]
section
variable{aw:List (List Key×D)}{k:Nat}{me:Int}{s pr kp:dx}{w:D}(aI:iw aw k=lb pr kp w)
include aI
variable{S:ck}{i:Nat}(ay:S[i]? = some (.dT aw))
include ay
theorem u4{aq aD cQ:bl}(h0:cQ σ=pure (.v (.ref i)))(ae:aq σ=pure (.v (bx k)))(ag:aD σ=pure (.v (.int 0))):aR S (bJ sh (U cQ (U aq (U aD ar))) σ) (.v (lb pr kp w)):=
 h2 (cO (.of h0) (cO (.of ae) (cO (.of ag) eQ))) (aI▸XC ay k)
theorem Ia(hz:aw.length<1000)(jw:f' s pr=true):bT S (m4 [.ref i,eO me 0 s k]) (.v (fX k me 0 s kp w)) (S.set i (.dT (gp aw (eG k) (lb s kp w)))):=
 sY rfl (dH (aR.to (o8 (.of rfl) rfl)) (dH (aR.to (o8 (u4 aI ay rfl rfl rfl) rfl)) (ze (mn (aR.to (l3 (dG (dy EM (.of rfl) (.of rfl))) (dG (dy ((cmp_gt s pr).trans (by rw[jw])) (.of rfl) (.of rfl))))) (dH (NL (k:=eG k) rfl rfl (.of rfl) (.of rfl) ay rfl ⟨ah7 rfl,hz⟩) rfl)))))
theorem Vt(jw:f' s pr=false):bT S (m4 [.ref i,eO me 0 s k]) (.v (ux k me 0 s pr)) S:=
 sY rfl (dH (aR.to (o8 (.of rfl) rfl)) (dH (aR.to (o8 (u4 aI ay rfl rfl rfl) rfl)) (s6 (aR.to (l3 (dG (dy EM (.of rfl) (.of rfl))) (dG (dy ((cmp_gt s pr).trans (by rw[jw])) (.of rfl) (.of rfl))))) (s6 (aR.to (qA (dG (dy OC (.of rfl) (.of rfl))))) rfl))))
variable{b n dd t:D}
theorem Vs(hz:aw.length<1000)(jw:f' pr s=false):bT S (m4 [.ref i,jO me 0 s (.tup [b,n,dd,t]) k]) (.v (W9 k me 0 s)) (S.set i (.dT (gp aw (eG k) (lb s s t)))):=
 sY rfl (dH (aR.to (o8 (.of rfl) rfl)) (dH (aR.to (o8 (u4 aI ay rfl rfl rfl) rfl)) (s6 (aR.to (qA (dG (dy MS (.of rfl) (.of rfl))))) (ze (mn (aR.to (l3 (dG (dy M4 (.of rfl) (.of rfl))) (dG (dy ((GR s pr).trans (by rw[jw];rfl)) (.of rfl) (.of rfl))))) (dH (NL (k:=eG k) rfl rfl (.of rfl) (.of rfl) ay rfl ⟨ah7 rfl,hz⟩) rfl))))))
theorem Vv(jw:f' pr s=true):bT S (m4 [.ref i,jO me 0 s (.tup [b,n,dd,t]) k]) (.v (ux k me 0 s pr)) S:=
 sY rfl (dH (aR.to (o8 (.of rfl) rfl)) (dH (aR.to (o8 (u4 aI ay rfl rfl rfl) rfl)) (s6 (aR.to (qA (dG (dy MS (.of rfl) (.of rfl))))) (s6 (aR.to (l3 (dG (dy M4 (.of rfl) (.of rfl))) (dG (dy ((GR s pr).trans (by rw[jw];rfl)) (.of rfl) (.of rfl))))) rfl))))
end
theorem Aw(aw:List (List Key×D))(k:List Key)(d:D):(gp aw k d).length<=aw.length+1:=by
 unfold gp;split
 ·rw[ahJ];omega
 ·rw[ahS];exact ahM _
theorem SH{k j:List Key}(h:j≠k)(d:D):∀aw:List (List Key×D),ik (gp aw k d) j=ik aw j:=by
 intro aw;unfold gp ik;split
 ·rename_i nP
  clear nP
  induction aw with
  |nil=>rfl|cons p aw a9=>
   rw[ahT]
   by_cases c:p.1=k
   ·rw[if_pos c,aiF (by simpa using fun z=>h (z.symm.trans c)),aiF (by simpa using fun z=>h (z.symm.trans c))]
    exact a9
   ·rw[if_neg c]
    by_cases af:p.1=j
    ·rw[aiP (by simpa using af),aiP (by simpa using af)]
    ·rw[aiF (by simpa using af),aiF (by simpa using af)]
     exact a9
 ·rw[List.find?_append]
  cases e:aw.find? fun kv=>decide (kv.1=j)with
  | none=>rw[aiF (by simpa using aks h)];rfl|some x=>rfl
theorem Xk{j k:Nat}(h:j≠k):eG j≠eG k:=fun z=>h (by injection z with z;injection z with z;omega)
theorem KR{j k:Nat}(h:j≠k)(aw:List (List Key×D))(d:D):iw (gp aw (eG k) d) j=iw aw j:=by unfold iw;rw[SH (Xk h)]
end fp
namespace fp
open PySem PySem.Spec aF aY
theorem Em{xs:List D}{i:Nat}{d:D}(h:(iY xs xs)[i]? = some d):∃x,xs[i]? = some x/\d=.tup [x,x]:=by
 unfold iY at h;rw[aia]at h
 cases e:(xs.zip xs)[i]? with
 |none=>rw[e]at h;cases h
 |some p=>
  rw[e]at h;cases h;obtain⟨a,b⟩:=akN.mp e;rw[a]at b;exact⟨p.1,a,by show D.tup [p.1,p.2]=_;rw[<-aih b]⟩
theorem jg{t:aO->M Bool}{a b:a0}(e:t σ=pure false):bZ (c4 t a cH) b σ=b σ:=er (mV e)
theorem wh{a b:bl}{r:M R}(e:a σ=pure (.v (.aA true)))(aD:b σ=r):nD a b σ=r:=by show(a σ >>= _)=_;rw[e];exact aD
theorem Ms(n:Nat):h4 (n+1) [.aW,.aW]=pure (.v (.aA true)):=lO rfl ((jg (c7 rfl)).trans (q1 ((k9 (c7 rfl)).trans (lj rfl))))
theorem Mq(n:Nat)(b:Bool):h4 (n+1) [.aA b,.aA b]=pure (.v (.aA true)):=lO rfl ((jg (c7 rfl)).trans ((jg (c7 rfl)).trans (q1 ((k9 (c7 rfl)).trans (lj (wh rfl (bN (SW b) rfl rfl)))))))
theorem same_int(n:Nat)(i:Int):h4 (n+1) [.int i,.int i]=pure (.v (.aA true)):=lO rfl ((jg (c7 rfl)).trans ((jg (c7 rfl)).trans ((jg (c7 rfl)).trans (q1 ((k9 (c7 rfl)).trans (lj (wh rfl (wh rfl (bN (kk.trans (by rw[decide_eq_true rfl])) rfl rfl)))))))))
theorem same_str(n:Nat)(h:ah9 x=true):h4 (n+1) [.str x,.str x]=pure (.v (.aA true)):=lO rfl ((jg (c7 rfl)).trans ((jg (c7 rfl)).trans ((jg (c7 rfl)).trans ((jg (c7 rfl)).trans (lj (wh rfl (bN (eq_str h) rfl rfl)))))))
theorem Kf(b:Bool):ez (.v (.aA b)) (.v (.aA b))=pure (.v (.aA false)):=by cases b<;>rfl
theorem Hu{is:List Nat}{ms:cL}(aq:ms σ=pure rs)(hz:s8 rs=some ds)(e:gc (lp is b) ds σ=pure (.bq σ')):rB is ms b σ=pure (.bq σ'):=by
 show(ms σ >>= _)=_;rw[aq];show(match s8 rs with | some ds=>gc (lp is b) ds σ | none=>bad)=_;rw[hz];exact e
theorem Mr(n:Nat)(s:Slot)(h:∀x∈xs,h4 n [x,x]=pure (.v (.aA true))):∃σ',gc (lp [2,3] (B_ (h4 n))) (iY xs xs) [s,s,.emp,.emp]=pure (.bq σ'):=by
 obtain⟨σ',e,s2,s3,rfl⟩:=tT (b:=lp [2,3] (B_ (h4 n))) (ds:=iY xs xs) (σ:=[s,s,.emp,.emp])
  (fun i σ=>∃s2 s3,σ=[s,s,s2,s3]) ⟨_,_,rfl⟩ (fun i d σ ah ⟨s2,s3,ax⟩=>by
   subst ax;obtain⟨x,V9,rfl⟩:=Em ah;exact⟨_,.inl (mV (σ:=[s,s,.val x,.val x]) (yq (c7 (call_of (rs:=[.v x,.v x]) rfl (h x (aiw V9)))))),_,_,rfl⟩)
 exact⟨_,e⟩
theorem same_refl:∀(n:Nat)(d:D),Ok n d->h4 (n+1) [d,d]=pure (.v (.aA true)):=by
 intro n
 induction n with
 |zero=>
  intro d h
  cases d with
  |aW=>exact Ms 0|aA b=>exact Mq 0 b|int i=>exact same_int 0 i|str x=>exact same_str 0 h.1| _=>exact absurd h.1 (by intro z;cases z)
 |succ n a9=>
  intro d h;have parts:∀xs:List D,ip xs n=true->(decide (xs.length<=1000)&&pN xs)=true->(∀x∈xs,h4 (n+1) [x,x]=pure (.v (.aA true))):=fun xs ae ag=>by
   rw[aix]at ag;exact fun x ah=>a9 x ⟨A7.mp ae x ah,Ea.mp ag.2 x ah⟩
  cases d with
  |aW=>exact Ms _|aA b=>exact Mq _ b|int i=>exact same_int _ i|str x=>exact same_str _ h.1|tup xs=>
   obtain⟨σ',S⟩:=Mr (n+1) (.val (.tup xs)) (parts xs h.1 h.2);exact lO rfl (q1 ((k9 (c7 rfl)).trans ((jg ((sz (yq (c7 rfl))).trans (c7 (bN (Kf true) rfl rfl)))).trans ((jg (c7 (bN (qL.trans (by rw[decide_eq_true rfl];rfl)) rfl rfl))).trans ((er (Hu (cons_of rfl rfl) rfl S)).trans (lj rfl))))))
  |lst xs=>
   obtain⟨σ',S⟩:=Mr (n+1) (.b1 xs) (parts xs h.1 h.2);exact lO rfl (q1 ((k9 (c7 rfl)).trans ((jg ((sz (yq (c7 rfl))).trans (c7 (bN (Kf false) rfl rfl)))).trans ((jg (c7 (bN (qL.trans (by rw[decide_eq_true rfl];rfl)) rfl rfl))).trans ((er (Hu (cons_of rfl rfl) rfl S)).trans (lj rfl))))))
  | _=>exact absurd h.1 (by intro z;cases z)
theorem wU(ns:List Int)(k:Nat):l6 [.lst (ns.map D.int),.int (k:Nat)]=pure (.v (.int (ns.getD k 0))):=by
 simp only[l6,FE,FF]
 by_cases h:k<ns.length
 ·simp[h,OD h]
 ·simp[h]
end fp
namespace ke
mutual
def hG(s:Nat):aT->aT
 |.kp k=>.kp ((k+s) % 6)|.ch k ps=>.ch k (j9 s ps)
def j9(s:Nat):List aT->List aT
 |[]=>[]
 |r::rs=>hG s r::j9 s rs
end
theorem DY(s:Nat):∀ps:List aT,j9 s ps=ps.map (hG s)
 |[]=>rfl| r::rs=>by rw[ahT,<-DY s rs];rfl
theorem acZ(s k:Nat)(ps:List aT):hG s (.ch k ps)=.ch k (ps.map (hG s)):=by rw[<-DY];rfl
theorem acY(s:Nat)(ps:List aT):(j9 s ps).length=ps.length:=by rw[DY,ahJ]
mutual
theorem MZ(s:Nat):∀r:aT,(hG s r).deep=r.deep
 |.kp _=>rfl| .ch k ps=>by show aT.lH (j9 s ps)+1=aT.lH ps+1;rw[MW s ps]
theorem MW(s:Nat):∀ps:List aT,aT.lH (j9 s ps)=aT.lH ps
 |[]=>rfl| r::rs=>by show max (hG s r).deep (aT.lH (j9 s rs))=max r.deep (aT.lH rs);rw[MZ s r,MW s rs]
end
mutual
theorem M1(s:Nat):∀r:aT,(hG s r).names.length=r.names.length
 |.kp _=>rfl| .ch k ps=>by show(aT.dY (j9 s ps)).length=(aT.dY ps).length;rw[MX s ps]
theorem MX(s:Nat):∀ps:List aT,(aT.dY (j9 s ps)).length=(aT.dY ps).length
 |[]=>rfl| r::rs=>by show((hG s r).names++aT.dY (j9 s rs)).length=(r.names++aT.dY rs).length;rw[ahS,ahS,M1 s r,MX s rs]
end
mutual
theorem M3(s:Nat):∀r:aT,r.wf->(hG s r).wf
 | .kp k,_=>Nat.mod_lt _ (by decide)|.ch k ps,h=>by
  have h':1<=k/\k<=ps.length/\ps.length<=6/\aT.j' ps:=h;show 1<=k/\k<=(j9 s ps).length/\(j9 s ps).length<=6/\aT.j' (j9 s ps);rw[acY];exact⟨h'.1,h'.2.1,h'.2.2.1,MY s ps h'.2.2.2⟩
theorem MY(s:Nat):∀ps:List aT,aT.j' ps->aT.j' (j9 s ps)
 |[],_=>trivial|r::rs,h=>⟨M3 s r h.1,MY s rs h.2⟩
end
end ke
namespace fp
open PySem PySem.Spec aF aY ke hP nz
theorem Cj:∀(n:Nat)(r:aT),r.deep<n->r.names.length<=1000->∃o,n4 n [enc r]=pure o/\o.own=some (r.names.map bx)
 |0,r,h,_=>absurd h (akO _)|n+1,.kp k,h,_=>by
  refine⟨.fr [bx k],?_,rfl⟩;simp only[n4,wx,rH];simp[n5]
 |n+1,.ch k ps,h,aj=>by
  simp only[aT.deep]at h;simp only[aT.names]at aj ⊢;have dl:=rD (ps:=ps) (n:=n) (by omega);refine⟨.v (.lst ((aT.dY ps).map bx)),?_,rfl⟩;rw[qa];obtain⟨σ',e,s2,rfl⟩:=tT (b:=fun d σ=>B9 (n4 n) (σ.set 2 (.val d))) (ds:=ps.map enc) (σ:=[.val (.tup [.int (k:Nat),.tup (ps.map enc)]),.val (.lst []),.emp])
   (fun i σ=>∃s2,σ=[.val (.tup [.int (k:Nat),.tup (ps.map enc)]),.val (.lst ((aT.dY (ps.take i)).map bx)),s2]) ⟨_,rfl⟩ (fun i d σ hd ⟨s2,ax⟩=>by
    subst ax;obtain⟨r,aG,rfl⟩:=CA hd;have hm:=aiw aG;refine⟨_,.inl (?_:_=pure (fm.bq [.val (.tup [.int (k:Nat),.tup (ps.map enc)]),.val (.lst ((aT.dY (ps.take (i+1))).map bx)),.val (enc r)])),_,rfl⟩;have bG:=take_snoc aG;have le:(aT.dY (ps.take (i+1))).length<=1000:=by
     have:aT.dY ps=aT.dY (ps.take (i+1))++aT.dY (ps.drop (i+1)):=by rw[<-uR,List.take_append_drop]
     rw[this,ahS]at aj;omega
    rw[bG,uR]at le ⊢;rw[show aT.dY [r]=r.names from ai7 _]at le ⊢;rw[ahS]at le;obtain⟨o,a9,bc⟩:=Cj n r (dl r hm) (by omega);have z:(aT.dY (ps.take i)).length+r.names.length<=ahQ:=ai5 (eB (by omega));simp only[B9];simp[a9,bc,z])
  rw[ahJ,ak8]at e;simp only[n4,wx,FW,FX,FY];simp[e]
theorem Cg{a k:aT}(ao:Good a)(az:Good k):sf [cR a k]=pure (.fr ((dc a k).map bx)):=by
 obtain⟨n_,aq,ae⟩:=Cj 6 a (by have:=ao.2.1;omega) (by have:=ao.2.2;omega);obtain⟨n',aD,ag⟩:=Cj 6 k (by have:=az.2.1;omega) (by have:=az.2.2;omega);have z:a.names.length+k.names.length<=ahQ:=ai5 (eB (by have:=ao.2.2;have:=az.2.2;omega));have El:6<ahQ:=eB (by decide);have b':iv n_ n'=pure (.fr ((a.names++k.names).map bx)):=by
  unfold iv;rw[ae,ag];simp[z]
 have c:fO (bg (af (jb false) (J 0) (J 1))) (J 0) [.emp,.val (.lst ((a.names++k.names).map bx))] ((aiz 6).map bx)=pure ((dc a k).map bx):=
  lG bx (fun j=>(a.names++k.names).contains j) bx _ (fun j _=>by
   have q:=BM j (a.names++k.names);generalize(a.names++k.names).map bx=L at q ⊢;generalize(a.names++k.names).contains j=B at q ⊢;simp[q]) fun j _ _=>by simp
 unfold cR;simp only[sf,FO,FP];generalize(a.names++k.names).map bx=L at b' c;generalize iv=afk at b' ⊢;simp[aq,aD,b',Lr,El,c]
theorem Ck(s:Nat):∀(n:Nat)(r:aT),r.deep<n->r.wf->m5 n [enc r,.int (s:Nat)]=pure (.v (enc (hG s r)))
 |0,r,h,_=>absurd h (akO _)|n+1,.kp k,h,hw=>by
  simp only[m5,wy,rH,hG];simp
 |n+1,.ch k ps,h,hw=>by
  simp only[aT.deep]at h;simp only[aT.wf]at hw;have dl:=rD (ps:=ps) (n:=n) (by omega);have wl:=y'.mp hw.2.2.2;rw[qa];have c:fO gi (bJ (m5 n) (U (J 0) (U (J 1) ar))) [.emp,.val (.int (s:Nat))] (ps.map enc)=pure (ps.map (enc∘hG s)):=
   p7 enc _ ps (fun r aG=>by simp[Ck s n r (dl r aG) (wl r aG)])
  have z:ps.length<ahQ:=eB (by omega);rw[acZ,qa,akz];generalize ps.map (enc∘hG s)=Y at c ⊢;simp only[m5,wy,F2];generalize m5 n=F at c ⊢;have vN:(ps.map enc).length<ahQ:=by rw[ahJ];exact z
  generalize ps.map enc=Z at c vN ⊢;simp[c,vN]
theorem M0{r:aT}(h:Good r):Good (hG s r):=⟨M3 s r h.1,by rw[MZ];exact h.2.1,by rw[M1];exact h.2.2⟩
def q6:aT:=.ch 2 [.kp 0,.kp 1,.kp 2]
def rws:aT:=.ch 1 [.ch 2 [.kp 0,.kp 1],.ch 2 [.kp 2,.kp 3]]
def cols:aT:=.ch 2 [.ch 1 [.kp 0,.kp 1],.ch 1 [.kp 2,.kp 3]]
def ft:List (aT×aT):=[(q6,q6),(.kp 0,.kp 0),(.ch 1 [.kp 0,.kp 1,.kp 2],.ch 3 [.kp 0,.kp 1,.kp 2]),(.ch 3 [.kp 0,.kp 1,.kp 2],.ch 1 [.kp 0,.kp 1,.kp 2]),
 (rws,cols),(cols,rws),(.ch 3 [.kp 0,.kp 1,.kp 2,.kp 3,.kp 4],.ch 3 [.kp 4,.kp 3,.kp 2,.kp 1,.kp 0]),
 (.ch 2 [.kp 0,.kp 0,.kp 1,.kp 2],.ch 3 [.kp 0,.kp 0,.kp 1,.kp 2]),(.ch 2 [.kp 0,.kp 1],.ch 1 [.kp 0,.kp 1]),
 (.ch 2 [.kp 0,.ch 1 [.kp 1,.kp 2]],.ch 1 [.kp 0,.ch 2 [.kp 1,.kp 2]])]
def gs(p:aT×aT):D:=cR p.1 p.2
theorem VO:∀p∈ft,Good p.1/\Good p.2:=by
 simp only[ft,ajb,q6,rws,cols,Good];simp[aT.wf,aT.j',aT.deep,aT.lH,aT.names,aT.dY]
theorem T8(c:Int):z0 [.val (.int c),.emp,.emp,.emp,.emp,.emp,.emp]=wu [.val (.int c),.val (enc q6),.val (enc rws),.val (enc cols),.val (.lst (ft.map gs)),.emp,.emp]:=by
 have z:∀{xs ys:List D},xs.length+ys.length<=10->xs.length+ys.length<=ahQ:=fun h=>ai5 (eB (by omega))
 have e:ft.map gs=(ft.take 4).map gs++((ft.drop 4).take 3).map gs++((ft.drop 7).take 2).map gs++(ft.drop 9).map gs:=rfl;rw[e];exact(er (e1 (d:=enc q6) rfl)).trans ((er (e1 (d:=enc rws) rfl)).trans ((er (e1 (d:=enc cols) rfl)).trans ((er (sI (r:=.fr ((ft.take 4).map gs)) (d:=.lst ((ft.take 4).map gs)) rfl rfl)).trans ((er (sI (bN (wQ (xs:=(ft.take 4).map gs) (ys:=((ft.drop 4).take 3).map gs) (z (ah7 rfl))) rfl rfl) rfl)).trans ((er (sI (bN (wQ (xs:=(ft.take 4).map gs++((ft.drop 4).take 3).map gs) (ys:=((ft.drop 7).take 2).map gs) (z (ah7 rfl))) rfl rfl) rfl)).trans (er (sI (bN (wQ (xs:=(ft.take 4).map gs++((ft.drop 4).take 3).map gs++((ft.drop 7).take 2).map gs) (ys:=(ft.drop 9).map gs) (z (ah7 rfl))) rfl rfl) rfl)))))))
theorem XB(c:Int):∃a k,uG [.int c]=pure (.v (cR a k))/\Good a/\Good k:=by
 have ag4:=mod_lt (a:=c) (b:=10) (by decide);have iq:=mod_lt (a:=c / 10) (b:=6) (by decide);obtain⟨i,ay,aj⟩:∃i:Nat,c % 10=(i:Nat)/\i<10:=⟨(c % 10).toNat,by omega,by omega⟩;obtain⟨s,aC⟩:∃s:Nat,c / 10 % 6=(s:Nat):=⟨(c / 10 % 6).toNat,by omega⟩;obtain⟨p,aI⟩:∃p,ft[i]? = some p:=⟨_,ait (show i<ft.length from aj)⟩;obtain⟨ga,tZ⟩:=VO p (aiw aI);refine⟨hG s p.1,hG s p.2,?_,M0 ga,M0 tZ⟩;have t1:=Ck s 6 p.1 (by have:=ga.2.1;omega) ga.1;have eC:=Ck s 6 p.2 (by have:=tZ.2.1;omega) tZ.1;have fN:aN (.v (.lst (ft.map gs))) (.v (.int (i:Nat)))=pure (.v (gs p)):=by
  show(match ed (ft.map gs) (i:Int)with | some v=>pure (R.v v) | none=>bad)=_;rw[nC (v:=gs p) i (by rw[aia,aI];rfl)]
 have tx:wu [.val (.int c),.val (enc q6),.val (enc rws),.val (enc cols),.val (.lst (ft.map gs)),.emp,.emp]=pure (.cS (.v (cR (hG s p.1) (hG s p.2)))):=by
  simp only[wu,FL];generalize ft.map gs=L at fN ⊢;generalize enc q6=lu;generalize enc rws=NH;generalize enc cols=ahC;unfold gs cR at fN;unfold cR;have lq:c8 (enc p.1)=.val (enc p.1):=by cases p.1<;>rfl
  have hH:c8 (enc p.2)=.val (enc p.2):=by cases p.2<;>rfl
  generalize enc p.1=zh at *;generalize enc p.2=zi at *;generalize enc (hG s p.1)=NT at *;generalize enc (hG s p.2)=NU at *;simp[ay,aC,fN,t1,eC,lq,hH]
 have pre:=T8 c;rw[tx]at pre;simp only[uG];generalize z0=B at pre ⊢;simp[pre]
theorem Q8(l:List Nat):wV (cy l)=l.map fun c=>D.str (ch c):=rfl
theorem vp(h:n<=1000):n<=ahQ:=by rw[ah8];omega
def kD(c:Nat):Bool:=decide (97<=c/\c<=122)
theorem zH:("abcdefghijklmnopqrstuvwxyz":Str).cps.toList=(aiz 26).map fun k=>97+k:=by decide +kernel
theorem Wj(c:Nat):sS (ch c) "abcdefghijklmnopqrstuvwxyz"=kD c:=by
 unfold sS;rw[show ch c=⟨#[c]⟩from rfl,StrLaws.found_one,zH];unfold kD;rw[ajg,decide_eq_true_eq,decide_eq_true_eq];simp only[aiK,ai4];constructor
 ·rintro⟨k,az,rfl⟩;omega
 ·intro h;exact⟨c-97,by omega,by omega⟩
theorem Yi(l:List Nat):fO gi (af (qP false) (J 0) (ab (.str "abcdefghijklmnopqrstuvwxyz"))) [.emp] (l.map fun c=>D.str (ch c))=pure (l.map fun c=>D.aA (kD c)):=
 p7 (fun c=>D.str (ch c)) (fun c=>D.aA (kD c)) l fun c _=>by simp[Wj]
structure pT(l:List Nat):Prop where
 p1:1<=l.length
 yD:l.length<=8
 al:l.all kD=true
theorem pT.ok(h:pT l):ah9 (cy l)=true:=aci.mpr fun c aE=>by
 have:=aiZ.mp h.al c aE;simp[kD]at this;omega
theorem Wx(h:pT l):ye [.str (cy l)]=pure (.v (.aA true)):=by
 have aC:l.length<=ahQ:=vp (by have:=h.yD;omega);have ui:l.length<ahQ:=by rw[ah8];have:=h.yD;omega
 have aa:lD (l.map fun c=>D.aA (kD c))=some (l.map kD):=Gv kD _;have aE:=Yi l;have hall:(l.map kD).all id=true:=by rw[List.all_map];exact h.al
 have TN:(1:Int)<=(l.length:Int):=by have:=h.p1;omega
 have TP:(l.length:Int)<=8:=by have:=h.yD;omega
 simp only[ye,Fv,Fw];simp[DZ,aC,TN,TP,Q8,aE,aa,hall,ui]
theorem Oq{i:Int}(h0:0<=i)(h:i<26):∃c,aN (.v (.str "abcdefghijklmnopqrstuvwxyz")) (.v (.int i))=pure (.v (.str (cy [c])))/\kD c=true:=by
 obtain⟨c,e⟩:=zN (xs:=("abcdefghijklmnopqrstuvwxyz":Str).cps.toList) (i:=i) h0 (by rw[zH];simpa using h);refine⟨c,?_,?_⟩
 ·show(match ed ("abcdefghijklmnopqrstuvwxyz":Str).cps.toList i with
   |some c=>if("abcdefghijklmnopqrstuvwxyz":Str).length<=ahQ then(pure (R.v (.str ⟨#[c]⟩)):M R)else bad| none=>bad)=_
  rw[e];dsimp only;rw[if_pos (vp (by decide +kernel))];rfl
 ·have:=zM e
  rw[zH]at this;obtain⟨k,az,rfl⟩:=aiK.mp this;have:=ai4.mp az;simp[kD];omega
theorem XU:("m":Str)=cy [109]:=by decide +kernel
theorem SR:("":Str)=cy []:=by decide +kernel
theorem Ci(c:Int):∃a,sg [.int c]=pure (.v (.str (cy a)))/\pT a:=by
 have ag7:=mod_lt (a:=c) (b:=8) (by decide);obtain⟨z,hz,ahf⟩:∃z:Nat,1+c % 8=(z:Nat)/\1<=z/\z<=8:=⟨(1+c % 8).toNat,by omega,by omega,by omega⟩;have HQ:=mod_lt (a:=c / 64) (b:=26) (by decide);obtain⟨x,aq,ah⟩:=Oq HQ.1 HQ.2;have afh:0<z:=by omega
 obtain⟨σ',e,a,s4,rfl,bc,aj⟩:=tT (b:=fun d σ=>x2 (σ.set 4 (.val d))) (ds:=nh 0 z) (σ:=[.val (.int c),.val (.int (z:Nat)),.val (.int (c / 8 % (z:Nat))),.val (.str (cy [])),.emp])
  (fun i σ=>∃(a:List Nat)(s4:Slot),σ=[.val (.int c),.val (.int (z:Nat)),.val (.int (c / 8 % (z:Nat))),.val (.str (cy a)),s4]/\a.all kD=true/\a.length=i)
  ⟨[],_,rfl,rfl,rfl⟩ (fun i d σ hd ⟨a,s4,ax,bc,aj⟩=>by
   subst ax;have ay:i<z:=by
    have:=(ahN.mp hd).1
    rwa[show(nh 0 z).length=z by simp[nh]]at this
   obtain⟨j,rfl⟩:∃j:Int,d=.int j:=by
    have:=aiw hd;simp only[nh]at this;obtain⟨j,_,rfl⟩:=aiK.mp this;exact⟨_,rfl⟩
   have d2:a.length+1<=ahQ:=vp (by omega)
   by_cases q:j=c / 8 % (z:Nat)
   ·refine⟨_,.inl (?_:_=pure (fm.bq [.val (.int c),.val (.int (z:Nat)),.val (.int (c / 8 % (z:Nat))),.val (.str (cy (a++[x]))),.val (.int j)])),_,_,rfl,by rw[List.all_append,bc];simpa using ah,by rw[ahS,aj];rfl⟩
    simp only[x2];simp[q,aq,DZ,Nn,d2]
   ·refine⟨_,.inl (?_:_=pure (fm.bq [.val (.int c),.val (.int (z:Nat)),.val (.int (c / 8 % (z:Nat))),.val (.str (cy (a++[109]))),.val (.int j)])),_,_,rfl,by rw[List.all_append,bc];decide,by rw[ahS,aj];rfl⟩
    simp only[x2,XU];simp[q,DZ,Nn,d2])
 have aj:a.length=z:=by rw[aj];simp[nh]
 refine⟨a,?_,⟨by omega,by omega,bc⟩⟩;have fb:(z:Int)<4611686018427387904:=by omega
 simp only[sg,FQ,FR,FT,FU,FV,SR];simp[hz,afh,e,fb]
theorem w2(ah:ah9 x=true)(a':ah9 y=true):oEq (.v (.str x)) (.v (.str y))=pure (.v (.aA (x==y))):=rG (x:=.v (.str x)) (y:=.v (.str y)) ah a'
theorem C4:ah9 "name"=true:=by decide +kernel
theorem C5:ah9 "number"=true:=by decide +kernel
theorem Zi(h:pT l):qH [.str "name",.str (cy l)]=pure (.v (.aA true)):=by
 have f:=Wx h;have q:=w2 C4 C4;rw[show(("name":Str) == "name")=true by simp]at q;simp only[qH,zY];generalize cy l=x at f ⊢;simp[q,f]
theorem YB{n:Int}(h:-(10 ^ 60)<n/\n<10 ^ 60):yf [.int n]=pure (.v (.aA true)):=by
 have w:=D_ n;have e:decide ((if n<0 then -n else n)<1000000000000000000000000000000000000000000000000000000000000)=true:=by
  rw[decide_eq_true_eq];have ae:=h.1;have ag:=h.2;split<;>omega
 simp only[yf,Fx];rw[<-e];simp[w]
theorem Zj{n:Int}(h:-(10 ^ 60)<n/\n<10 ^ 60):qH [.str "number",.int n]=pure (.v (.aA true)):=by
 have f:=YB h;have q:=w2 C5 C4;rw[show(("number":Str) == "name")=false by decide +kernel]at q;have bU:=w2 C5 C5;rw[show(("number":Str) == "number")=true by simp]at bU;simp only[qH,zY,Fy];simp[q,bU,f]
theorem To:r7.lookup ("put":Str)=some (.tup [.str "name",.str "number"]):=rfl
theorem Hv:r7.lookup ("add":Str)=some (.tup [.str "name",.str "number"]):=rfl
theorem Rl(x:D)(ps:List D):cutD (x::ps) (some 1) none=ps:=Rm (x::ps) 1
structure Ex(d:D):Prop where
 ex:∃(w:Str)(l:List Nat)(n:Int),d=.tup [.str w,.str (cy l),.int n]/\r7.lookup w=some (.tup [.str "name",.str "number"])/\pT l/\(-(10 ^ 60)<n/\n<10 ^ 60)
theorem Wv(h:Ex d):uE [d]=pure (.v (.aA true)):=by
 obtain⟨w,l,n,rfl,a7,aj,aH⟩:=h.ex;have p1:=Zi aj;have du:=Zj aH;have vN:2<ahQ:=by rw[ah8];omega
 generalize cy l=x at p1 ⊢;have qC:qz gi (bJ qH (U (J 0) (U (J 1) ar))) [.emp,.emp] [(.str "name",.str x),(.str "number",.int n)]=pure [.aA true,.aA true]:=by
  simp[qz,p1,du]
 simp only[uE,Fq,Fs,Ft,Fu,Cv,Fl];simp[a7,Rl,qC,lD,vN,vM,R.walk]
mutual
theorem Kb:∀r:aT,r.wf->r.names≠[]
 |.kp k,_=>fun h=>nomatch h
 |.ch k ps,h=>by
  have h':1<=k/\k<=ps.length/\ps.length<=6/\aT.j' ps:=h;show aT.dY ps≠[];exact Yj ps h'.2.2.2 (by omega)
theorem Yj:∀ps:List aT,aT.j' ps->0<ps.length->aT.dY ps≠[]
 |[],_,h=>absurd h (aii _)|r::rs,h,_=>by
  show r.names++aT.dY rs≠[];exact fun e=>Kb r h.1 (List.append_eq_nil_iff.mp e).1
end
theorem qJ(a k:aT):(dc a k).length<=6:=by
 have:=alf (fun j=>(a.names++k.names).contains j) (aiz 6);simpa[dc]using this
theorem CE{a k:aT}(ao:Good a):0<(dc a k).length:=by
 obtain⟨x,ah⟩:=List.exists_mem_of_ne_nil _ (Kb a ao.1);refine amw (a:=x) ?_;unfold dc;rw[ajM,ai4];exact⟨sj a ao.1 x ah,List.contains_iff_mem.mpr (alg _ ah)⟩
theorem C8{xs:List D}(aj:xs.length<=1000)(h:∀x∈xs,Ok n x):Ok (n+1) (.lst xs):=
 have q:=pA aj h
 ⟨q.1,q.2⟩
theorem Lu:∀{l:List (Z.κ.α×D)},(∀x∈l,vg Z x.2=some x.1)->og Z (l.map (·.2))=some (l.map (·.1))
 |[],_=>rfl|x::l,h=>by
  rw[ahT,ahT];unfold og;rw[h x ah0,Lu fun y a'=>h y (ahR _ a')]
theorem NW{α β:Type}:∀l:List (α×β),(l.map (·.1)).zip (l.map (·.2))=l
 |[]=>rfl| x::l=>by rw[ahT,ahT,aiY,NW l]
theorem DL[DecidableEq Z.κ.α]{l:List (Z.κ.α×D)}(h:∀x∈l,vg Z x.2=some x.1){r:R}(ah:r.eH=some (l.map (·.2)))(aH:(l.map (·.1)).Nodup)(aj:l.length<64):mM Z [r]=pure (.fr ((hi Z.κ.blt l).map (·.2))):=by
 rw[SQ,ah];dsimp only;rw[Lu h];show(if jx Z.κ.blt (l.map (·.1))=true/\(l.map (·.1)).length<64 then _ else _)=_;rw[if_pos ⟨ES (Q:=Z.κ.toKeyOrd) aH,by rw[ahJ];exact aj⟩,NW]
theorem Bi(ao:kh a)(hd:aN (.v dd) (.v (.int 1))=pure (.v (.str (cy a)))):∀{cs:pY},(∀x∈cs,jq x)->(cs.map (·.1)).Nodup->∃L:List Int,n1 (bg (af oEq (J 0) (af aN (J 2) (ab (.int 1))))) (J 1) [.emp,.emp,.val dd] (cs.map (·.2))=pure (L.map D.int)/\L.sum=lF (gd (Q:=dQ) cs a)
 |[],_,_=>⟨[],rfl,rfl⟩
 |x::cs,h,aH=>by
  obtain⟨aeh,n,gG,ex⟩:=h x ah0;rw[ahT,aiR]at aH;obtain⟨L,e,s⟩:=Bi ao hd (cs:=cs) (fun y a'=>h y (ahR _ a')) aH.2;have t:bg (af oEq (J 0) (af aN (J 2) (ab (.int 1)))) [.val (.str (cy x.1)),.val (.int n),.val dd]=pure (decide (x.1=a)):=c7 (bN (Hf aeh.1 ao.1) rfl (bN hd rfl rfl));rw[ahT,ex];unfold gd
  by_cases c:x.1=a
  ·rw[decide_eq_true c]at t
   have Od:L.sum=0:=by
    rw[s];have:gd (Q:=dQ) cs a=none:=by
     unfold gd;rw[alH.mpr fun y a' z=>aH.1 (aiK.mpr ⟨y,a',(of_decide_eq_true z).trans c.symm⟩)];rfl
    rw[this];rfl
   refine⟨n::L,?_,?_⟩
   ·show(bg (af oEq (J 0) (af aN (J 2) (ab (.int 1)))) [.val (.str (cy x.1)),.val (.int n),.val dd] >>= _)=_
    rw[t];show(n1 _ _ _ _ >>= _)=_;rw[e];rfl
   ·rw[aiP (by simpa using c),List.sum_cons,Od]
    show n+0=lF (some x.2);rw[ex,Int.add_zero];rfl
  ·rw[decide_eq_false c]at t
   refine⟨L,?_,?_⟩
   ·show(bg (af oEq (J 0) (af aN (J 2) (ab (.int 1)))) [.val (.str (cy x.1)),.val (.int n),.val dd] >>= _)=_
    rw[t];exact e
   ·rw[aiF (by simpa using c)]
    exact s
theorem MK{L:List Int}:qc [.fr (L.map D.int)]=pure (.v (.int L.sum)):=by
 show(match nums (L.map D.int)with | some bs=>pure (R.v (.int bs.sum)) | none=>bad)=_;rw[CQ (fun i=>i),List.map_id']
theorem GU{it:eS}{t:aO->M Bool}{ds xs:List D}(aq:it σ=pure ds)(z:ds.length<ahQ)(e:n1 t el (hU 2 cap σ) ds=pure xs):rA cap it t el σ=pure (.fr xs):=by
 show(it σ >>= _)=_;rw[aq];show(hr (ds.length<ahQ) >>= _)=_;rw[GN z];show(n1 t el (hU 2 cap σ) ds >>= _)=_;rw[e];rfl
theorem Ze{m:bl}{σ:aO}(e:m σ=pure (.fr xs)):jz i m σ=pure (.bq (σ.set i (.dZ false xs))):=by show(m σ >>= _)=_;rw[e];rfl
def ldI:a0:=(bZ (cg 10 (cC qc (U (rA [3] (iu (J 4)) (bg (af oEq (J 0) (af aN (J 2) (ab (.int 1))))) (J 1)) ar)))
  (bZ (cg 11 (af aN (J 3) (ab (.int 2))))
  (bZ (cg 9 (J 10))
  (bZ (c4 (bg (af oEq (af aN (J 3) (ab (.int 0))) (ab (.str "add")))) (bZ (cg 11 (af hx (J 10) (af aN (J 3) (ab (.int 2)))))
  (cg 9 (J 11))) cH)
  (bZ (jz 12 (eV 1 [3] (iu (J 4)) (bg (af ez (af aN (J 0) (ab (.int 0))) (af aN (J 1) (ab (.int 1))))) (J 0)))
  (bZ (c4 (bg (af ez (J 11) (ab (.int 0)))) (ki 12 h9 (U (bB (U (af aN (J 3) (ab (.int 1))) (U (J 11) ar))) ar)) cH)
  (cg 4 (cC lN (U (cC (mM h3) (U (J 12) ar)) ar)))))))))
def n8(s:eT):hK->Int×Int
 |.put a n=>(n,s.cell a)
 |.add a n=>(s.cell a+n,s.cell a+n)
def sm:hK->List Nat
 |.put a _=>a|.add a _=>a
def e5(d:hK):Prop:=(∃a n,d=.put a n)\/∃a n,d=.add a n
theorem aai:oEq (.v (.str "put")) (.v (.str "add"))=pure (.v (.aA false)):=by rw[iV (by decide +kernel) (by decide +kernel)];rfl
theorem aaf:oEq (.v (.str "add")) (.v (.str "add"))=pure (.v (.aA true)):=by rw[iV (by decide +kernel) (by decide +kernel),beq_self_eq_true]
theorem aak:oEq (.v (.str "put")) (.v (.str "move"))=pure (.v (.aA false)):=by rw[iV (by decide +kernel) (by decide +kernel)];rfl
theorem aah:oEq (.v (.str "add")) (.v (.str "move"))=pure (.v (.aA false)):=by rw[iV (by decide +kernel) (by decide +kernel)];rfl
theorem aaj:oEq (.v (.str "put")) (.v (.str "end"))=pure (.v (.aA false)):=by rw[iV (by decide +kernel) (by decide +kernel)];rfl
theorem aag:oEq (.v (.str "add")) (.v (.str "end"))=pure (.v (.aA false)):=by rw[iV (by decide +kernel) (by decide +kernel)];rfl
section
variable{s:eT}(row:∀x∈s.cs,jq x)(rise:kg dQ s.cs)(aj:s.cs.length<60)
include row rise aj
theorem Jx(ao:kh a)(hd:aN (.v dd) (.v (.int 1))=pure (.v (.str (cy a))))(w:Int)(s0 s1 s2 s5 gK hA mb ni jf gu:Slot) :
  bZ (jz 12 (eV 1 [3] (iu (J 4)) (bg (af ez (af aN (J 0) (ab (.int 0))) (af aN (J 1) (ab (.int 1))))) (J 0)))
  (bZ (c4 (bg (af ez (J 11) (ab (.int 0)))) (ki 12 h9 (U (bB (U (af aN (J 3) (ab (.int 1))) (U (J 11) ar))) ar)) cH)
  (cg 4 (cC lN (U (cC (mM h3) (U (J 12) ar)) ar)))) [s0,s1,s2,.val dd,.val (.tup (s.cs.map (·.2))),s5,gK,hA,mb,ni,jf,.val (.int w),gu]=pure (.bq [s0,s1,s2,.val dd,.val (.tup ((jk s.cs a w).map (·.2))),s5,gK,hA,mb,ni,jf,.val (.int w),.dZ false ((if w=0 then ha (Q:=dQ) s.cs a else iT (Q:=dQ) s.cs (a,.tup [.str (cy a),.int w])).map (·.2))]):=by
 have b2:fO (bg (af ez (af aN (J 0) (ab (.int 0))) (af aN (J 1) (ab (.int 1))))) (J 0) [.emp,.val dd] (s.cs.map (·.2))=pure ((ha (Q:=dQ) s.cs a).map (·.2)):=
  lG (fun x:List Nat×D=>x.2) (fun x=>!decide (x.1=a)) (fun x=>x.2) s.cs (fun x ah=>c7 (bN (Kh (row x ah).1.1 ao.1) (bN (row x ah).fN rfl rfl) (bN hd rfl rfl))) fun x _ _=>As rfl
 have jd:∀x:List Nat×D,jq x->vg h3 x.2=some x.1:=fun x ah=>by obtain⟨_,m,_,e⟩:=ah;rw[e];rfl
 have cE:∀x∈ha (Q:=dQ) s.cs a,jq x:=fun x ah=>row x ((rE (Q:=dQ)).mp ah).1
 have dl:(ha (Q:=dQ) s.cs a).length<=s.cs.length:=alf _ _;refine(er (Ze (p8 rfl (by rw[ahJ];exact eB (by omega)) b2))).trans ?_
 by_cases c:w=0
 ·refine(er (mV (c7 (bN (qL.trans (by rw[decide_eq_true c];rfl)) rfl rfl)))).trans ?_
  refine(e1 (jX rfl (cons_of (jX (DL (Z:=h3) (l:=ha (Q:=dQ) s.cs a) (fun x ah=>jd x (cE x ah)) rfl (Ax _ rise.nodup) (by omega)) rfl) rfl))).trans ?_;unfold jk;rw[if_pos c,if_pos c,MC (Q:=dQ) (Ay a rise)];rfl
 ·refine(er ((k9 (c7 (bN (qL.trans (by rw[decide_eq_false c];rfl)) rfl rfl))).trans (zK rfl (cons_of (ac2 (bN hd rfl rfl) rfl) rfl) (by rw[ahJ];exact eB (by omega))))).trans ?_
  refine(e1 (jX rfl (cons_of (jX (DL (Z:=h3) (l:=iT (Q:=dQ) s.cs (a,.tup [.str (cy a),.int w])) (fun x ah=>?_) (by show some _=some _;unfold iT;rw[aiG];rfl) (va _ rise.nodup) (by have:=yI (Q:=dQ) s.cs (a,.tup [.str (cy a),.int w]);omega)) rfl) rfl))).trans ?_
  ·rcases(u_ (Q:=dQ)).mp ah with⟨ah,_⟩ | rfl
   ·exact jd x (row x ah)
   ·rfl
  ·unfold jk
   rw[if_neg c,if_neg c];unfold lg iT;rw[aiG];rfl
theorem XE(eg:e5 d)(ao:kh (sm d))(s0 s1 s2 s5 gK hA mb ni jf iU gu:Slot):∃eR,ldI [s0,s1,s2,.val d.D,.val (.tup (s.cs.map (·.2))),s5,gK,hA,mb,ni,jf,iU,gu]=pure (.bq [s0,s1,s2,.val d.D,.val (.tup ((jk s.cs (sm d) (n8 s d).1).map (·.2))),s5,gK,hA,mb,.val (.int (n8 s d).2),.val (.int (s.cell (sm d))),.val (.int (n8 s d).1),eR]):=by
 have z:(s.cs.map (·.2)).length<ahQ:=by rw[ahJ];exact eB (by omega)
 rcases eg with⟨a,m,rfl⟩ | ⟨a,m,rfl⟩
 ·obtain⟨L,e,hB⟩:=Bi (a:=a) ao (dd:=(hK.put a m).D) rfl row rise.nodup
  have hB:L.sum=s.cell a:=hB;refine⟨_,(er (e1 (jX (MK.trans (by rw[hB];rfl)) (cons_of (GU rfl z e) rfl)))).trans ((er (e1 rfl)).trans ((er (e1 rfl)).trans ((er (mV (c7 (bN aai rfl rfl)))).trans (Jx row rise aj ao rfl m _ _ _ _ _ _ _ _ _ _))))⟩
 ·obtain⟨L,e,hB⟩:=Bi (a:=a) ao (dd:=(hK.add a m).D) rfl row rise.nodup
  have hB:L.sum=s.cell a:=hB;refine⟨_,(er (e1 (jX (MK.trans (by rw[hB];rfl)) (cons_of (GU rfl z e) rfl)))).trans ((er (e1 rfl)).trans ((er (e1 rfl)).trans ((er ((k9 (c7 (bN aaf rfl rfl))).trans ((er (e1 rfl)).trans (e1 rfl)))).trans (Jx row rise aj ao rfl (s.cell a+m) _ _ _ _ _ _ _ _ _ _))))⟩
end
def pa(i n:Int)(x:Int×D):Bool:=decide (x.1=i)&&decide (n<=pw (some x.2))
theorem HD{a b:Int}:oa (.v (.int a)) (.v (.int b))=pure (.v (.aA (decide (a≥b)))):=rfl
theorem xk{a b:Int}:su (.v (.int a)) (.v (.int b))=pure (.v (.aA (decide (a > b)))):=rfl
theorem Jy(xs:List D):gX [.v (.lst xs)]=pure (.v (.int (xs.length:Nat))):=rfl
section
variable{G:aY.D->Prop}{W:List (List Nat)}{s:eT}(h:ih G W s)
include h
theorem Xw(i n:Int):fO (g5 (bg (af oEq (af aN (J 0) (ab (.int 0))) (J 1))) (bg (af oa (af aN (J 0) (ab (.int 1))) (J 2)))) (J 0) [.emp,.val (.int i),.val (.int n)] (s.ds.map (·.2))=pure ((s.ds.filter (pa i n)).map (·.2)):=
 lG (fun x:Int×D=>x.2) (pa i n) (fun x=>x.2) s.ds (fun x ah=>by
  obtain⟨m,z,e⟩:=h.num x ah;unfold pa;rw[e]
  by_cases c:x.1=i
  ·rw[decide_eq_true c]
   exact(zI (c7 (bN (kk.trans (by rw[decide_eq_true c])) (bN rfl rfl rfl) rfl))).trans (c7 (bN HD (bN rfl rfl rfl) rfl))
  ·rw[decide_eq_false c]
   exact ER (c7 (bN (kk.trans (by rw[decide_eq_false c])) (bN rfl rfl rfl) rfl))) fun x _ _=>As rfl
theorem Xv{i n:Int}(aH:1<=n):decide ((((s.ds.filter (pa i n)).map (·.2)).length:Int) > 0)=decide (n<=s.last i):=by
 rw[ahJ,show ∀m:Nat,decide ((m:Int) > 0)=decide (m > 0)from fun m=>by simp]
 by_cases c:n<=s.last i
 ·rw[decide_eq_true c]
  unfold eT.last at c
  cases q:gd (Q:=kZ) s.ds i with
  |none=>rw[q]at c;have c:n<=0:=c;omega|some d=>
   rw[q]at c;have m:(i,d)∈s.ds.filter (pa i n):=ajM.mpr ⟨HE q,by unfold pa;rw[decide_eq_true c];simp⟩;exact decide_eq_true (amw m)
 ·rw[decide_eq_false c]
  refine decide_eq_false fun z=>c ?_
  obtain⟨x,ah⟩:=List.exists_mem_of_length_pos z;obtain⟨ah,q⟩:=ajM.mp ah;unfold pa at q;obtain⟨ba,bU⟩:=Bool.and_eq_true_iff.mp q;have ba:=of_decide_eq_true ba;unfold eT.last;rw[<-ba,Tz h.p'.nodup ah];exact of_decide_eq_true bU
theorem SE(i:Int):fO (bg (af ez (af aN (J 0) (ab (.int 0))) (J 1))) (J 0) [.emp,.val (.int i)] (s.ds.map (·.2))=pure ((ha (Q:=kZ) s.ds i).map (·.2)):=
 lG (fun x:Int×D=>x.2) (fun x=>!decide (x.1=i)) (fun x=>x.2) s.ds (fun x ah=>by
  obtain⟨m,z,e⟩:=h.num x ah;rw[e];exact c7 (bN qL (bN rfl rfl rfl) rfl)) fun x _ _=>As rfl
theorem Ju(aC:s.c2=.aW)(gg:W.length<59)(i:Int){n:Int}(aH:1<=n)(eg:e5 d)(hd:kU G W d):se [s.D,.int i,.int n,d.D]=pure (.v (kj s i n (some d)).D):=by
 have cA:c8 d.D=.val d.D:=by rcases eg with⟨a,m,rfl⟩ | ⟨a,m,rfl⟩<;>rfl
 have nq:kh (sm d):=by rcases eg with⟨a,m,rfl⟩ | ⟨a,m,rfl⟩<;>exact hd.1
 have nn:kE (.v d.D) (.v .aW)=pure (.v (.aA false)):=by rcases eg with⟨a,m,rfl⟩ | ⟨a,m,rfl⟩<;>rfl
 have uY:l9 s i d=(s.put (sm d) (n8 s d).1,.int (n8 s d).2):=by rcases eg with⟨a,m,rfl⟩ | ⟨a,m,rfl⟩<;>rfl
 obtain⟨w,q',adY,adu⟩:∃w:Str,aN (.v d.D) (.v (.int 0))=pure (.v (.str w))/\oEq (.v (.str w)) (.v (.str "move"))=pure (.v (.aA false))/\oEq (.v (.str w)) (.v (.str "end"))=pure (.v (.aA false)):=by
  rcases eg with⟨a,m,rfl⟩ | ⟨a,m,rfl⟩
  ·exact⟨_,rfl,aak,aaj⟩
  ·exact⟨_,rfl,aah,aag⟩
 have dl:=h.dl;have cl:s.cs.length<60:=by have:=h.cl;omega
 have pP:(s.ds.map (·.2)).length<ahQ:=by rw[ahJ];exact eB (by omega)
 have iO:=Xv h (i:=i) aH;refine lO rfl ?_;show FI [.val s.D,.val (.int i),.val (.int n),c8 d.D,.emp,.emp,.emp,.emp,.emp,.emp,.emp,.emp,.emp]=_;rw[cA];refine(er (Nv (ds:=[.tup (s.cs.map (·.2)),.tup (s.ds.map (·.2)),.tup [.int s.f,s.t],s.c2]) rfl rfl)).trans ?_;rw[aC];refine(er (sI (p8 rfl pP (Xw h i n)) rfl)).trans ?_;unfold kj;dsimp only
 by_cases c:n<=s.last i
 ·rw[decide_eq_true c]at iO
  rw[if_neg fun z=>absurd z.2 (Int.not_lt.mpr c)];exact q1 ((k9 ((sz (c7 (bN nn rfl rfl))).trans ((sz (c7 rfl)).trans (c7 (bN (xk.trans (by rw[iO])) (jX (Jy _) rfl) rfl))))).trans (lj rfl))
 ·rw[decide_eq_false c]at iO
  rw[if_pos ⟨by rw[aC];rfl,Int.not_le.mp c⟩];refine(er (mV ((sz (c7 (bN nn rfl rfl))).trans ((sz (c7 rfl)).trans (c7 (bN (xk.trans (by rw[iO])) (jX (Jy _) rfl) rfl)))))).trans ?_;refine(er (e1 rfl)).trans ?_;obtain⟨eR,Wi⟩:=XE h.row h.rise cl eg nq (.val s.D) (.val (.int i)) (.val (.int n)) (.val (.tup (s.ds.map (·.2)))) (.val (.tup [.int s.f,s.t])) (.val .aW) (.val (.lst ((s.ds.filter (pa i n)).map (·.2)))) (.val (.int 1)) .emp .emp .emp;refine(er ((mV (c7 (bN adY (bN q' rfl rfl) rfl))).trans ((mV (c7 (bN adu (bN q' rfl rfl) rfl))).trans Wi))).trans ?_;rw[uY];refine(er (e1 (jX rfl (cons_of (jX (DL (Z:=fB) (l:=iT (Q:=kZ) s.ds (i,.tup [.int i,.int n,.int (n8 s d).2])) (fun x ah=>?_) (by show some _=some _;unfold iT;rw[aiG];rfl) (va _ h.p'.nodup) (by have:=yI (Q:=kZ) s.ds (i,.tup [.int i,.int n,.int (n8 s d).2]);omega)) (cons_of (bN (Q1 ?_) (p8 rfl pP (SE h i)) rfl) rfl)) rfl)))).trans ?_
  ·rcases(u_ (Q:=kZ)).mp ah with⟨ah,_⟩ | rfl
   ·obtain⟨m,z,e⟩:=h.num x ah
    rw[e];rfl
   ·rfl
  ·have:=wZ (Q:=kZ) s.ds i
   refine vp ?_;rw[ahJ];show _+1<=1000;omega
  ·refine Eq.trans (lj (d:=.tup [.tup ((jk s.cs (sm d) (n8 s d).1).map (·.2)),.tup ((lg (Q:=kZ) s.ds (i,.tup [.int i,.int n,.int (n8 s d).2])).map (·.2)),.tup [.int s.f,s.t],.aW]) rfl) ?_
   rw[<-aC];rfl
end
theorem S_{b:D->a0}(h:b d σ=pure (.bq σ')):gc b (d::ds) σ=gc b ds σ':=by
 show(b d σ >>= _)=_;rw[h];rfl
theorem Ll{m:bl}(e:m σ=pure (.fr xs)):bE m σ=pure (.cS (.fr xs)):=by show(m σ >>= _)=_;rw[e];rfl
def dh(a k:aT):D:=.tup [.int 0,cR a k,i5]
section
variable{a k:aT}(ao:Good a)(az:Good k)
include ao az
theorem Js(me:Int)(s:dx):yi [.int me,dh a k,cx s]=pure (.fr ((dc a k).map (eO me 0 s))):=
 Hr rfl (Ll (p8 (IF (call_of rfl (Cg ao az))) (by rw[ahJ];have:=qJ a k;exact eB (by omega)) (p7 bx (eO me 0 s) (dc a k) fun _ _=>rfl)))
end
def dF(b:dx×D)(g:cz):dx×D:=if f' g.s b.1=true then(g.s,g.w)else b
theorem Gi{B:D->a0}(nN:∀g σ,B (cY g) σ=B8 (ix [4,5,6] [bx g.k,cx g.s,g.w] σ))(s0 s1:Slot):∀(aB:List cz)(b:dx×D)(s4 s5 gK:Slot),∃iy h8 hj,gc B (aB.map cY) [s0,s1,.val (cx b.1),.val b.2,s4,s5,gK]=pure (.bq [s0,s1,.val (cx (aB.foldl dF b).1),.val (aB.foldl dF b).2,iy,h8,hj])
 |[],b,s4,s5,gK=>⟨s4,s5,gK,rfl⟩
 |g::aB,b,s4,s5,gK=>by
  obtain⟨iy,h8,hj,e⟩:=Gi nN s0 s1 aB (dF b g) (.val (bx g.k)) (.val (cx g.s)) (.val g.w);refine⟨iy,h8,hj,(S_ (σ':=[s0,s1,.val (cx (dF b g).1),.val (dF b g).2,.val (bx g.k),.val (cx g.s),.val g.w]) ((nN g _).trans ?_)).trans e⟩;unfold dF
  by_cases c:f' g.s b.1=true
  ·rw[if_pos c]
   exact(k9 (c7 (bN ((cmp_gt g.s b.1).trans (by rw[c])) rfl rfl))).trans ((er (e1 rfl)).trans (e1 rfl))
  ·rw[if_neg c]
   exact mV (c7 (bN ((cmp_gt g.s b.1).trans (by rw[Bool.eq_false_iff.mpr c])) rfl rfl))
theorem Xy(aB:List cz)(bc:c8 op=.val op):Cx [.lst (aB.map cY),op]=pure (.v (.tup [cx (aB.foldl dF ((0,0),op)).1,(aB.foldl dF ((0,0),op)).2])):=by
 obtain⟨iy,h8,hj,e⟩:=Gi (B:=fun d σ=>match d with
  |.tup ax=>if ax.length=[4,5,6].length then B8 (ix [4,5,6] ax σ)else bad| _=>bad) (fun _ _=>rfl) (.b1 (aB.map cY)) (.val op) aB ((0,0),op) .emp .emp .emp
 refine lO rfl ?_;show FD [.b1 (aB.map cY),c8 op,.emp,.emp,.emp,.emp,.emp]=_;rw[bc];exact(er (e1 rfl)).trans ((er (e1 rfl)).trans ((er e).trans (lj rfl)))
section
variable{a k:aT}(ao:Good a)(az:Good k)
include ao az
theorem Jv(me:Int)(s:dx)(n:Int)(hd:c8 d=.val d){aB:List cz}(hw:se [(aB.foldl dF ((0,0),i5)).2,.int me,.int n,d]=pure (.v w)) :
  uH [.int me,dh a k,cx s,.int n,d,.lst (aB.map cY)]=pure (.fr ((dc a k).map (jO me 0 s (.tup [cx (aB.foldl dF ((0,0),i5)).1,.int n,d,w])))):=by
 refine Hr rfl ?_;show F1 [.val (.int me),.val (dh a k),.val (cx s),.val (.int n),c8 d,.b1 (aB.map cY),.emp,.emp,.emp]=_;rw[hd];exact(er (Nv (call_of rfl (Xy aB rfl)) rfl)).trans ((er (e1 (by
  show(U _ _ _ >>= _)=_;rw[cons_of rfl (cons_of rfl (cons_of rfl (cons_of (call_of rfl hw) rfl)))];rfl))).trans (Ll (p8 (IF (call_of (rs:=[.v (cR a k)]) rfl (Cg ao az))) (by rw[ahJ];have:=qJ a k;exact eB (by omega)) (p7 bx (jO me 0 s (.tup [cx (aB.foldl dF ((0,0),i5)).1,.int n,d,w])) (dc a k) fun _ _=>rfl))))
end
def iA(W:List (List Nat))(s:dx)(w:D):Prop:=(s=(0,0)/\w=.aW)\/(1<=s.1/\∃t:eT,w=t.D/\ih (fun _=>False) W t/\t.c2=.aW)
theorem wB:∀(ps:List cz)(b:cz)(c:dx×D),(∀g∈ps,iA W g.s g.w)->(b.s=(0,0)\/1<=b.s.1)->c.1=b.s->c.2=(if b.s=(0,0)then op else b.w)->qk op (mH b ps)=.tup [cx (ps.foldl dF c).1,(ps.foldl dF c).2]
 |[],b,c,_,_,ae,ag=>by
  show D.tup [cx b.s,if b.s=(0,0)then op else b.w]=.tup [cx c.1,c.2];rw[ae,ag]
 |g::ps,b,c,aS,aa,ae,ag=>by
  have az:=aS g ah0;show qk op (mH (uP b g) ps)=.tup [cx (ps.foldl dF (dF c g)).1,(ps.foldl dF (dF c g)).2];have Tt:g.s=(0,0)\/1<=g.s.1:=az.elim (fun z=>.inl z.1) fun z=>.inr z.1
  by_cases q:f' g.s b.s=true
  ·have ne:g.s≠(0,0):=fun z=>by
    rw[z]at q;rcases aa with aa | aa
    ·rw[aa]at q;cases q
    ·unfold f' at q
     simp at q;omega
   have aq:uP b g=g:=if_pos q;have aD:dF c g=(g.s,g.w):=by unfold dF;rw[ae,if_pos q]
   rw[aq,aD];exact wB ps g _ (fun x ah=>aS x (ahR _ ah)) Tt rfl (if_neg ne).symm
  ·have aq:uP b g=b:=if_neg q
   have aD:dF c g=c:=by unfold dF;rw[ae,if_neg q]
   rw[aq,aD];exact wB ps b c (fun x ah=>aS x (ahR _ ah)) aa ae ag
theorem z8:∀(aB:List cz)(c:dx×D),(∀g∈aB,iA W g.s g.w)->(c.1=(0,0)\/1<=c.1.1)->(∃t:eT,c.2=t.D/\ih (fun _=>False) W t/\t.c2=.aW)->∃t:eT,(aB.foldl dF c).2=t.D/\ih (fun _=>False) W t/\t.c2=.aW
 |[],_,_,_,h=>h|g::aB,c,aS,h0,h=>by
  show ∃t:eT,(aB.foldl dF (dF c g)).2=t.D/\_;unfold dF
  by_cases q:f' g.s c.1=true
  ·rw[if_pos q]
   rcases aS g ah0 with⟨z,_⟩ | ⟨z,bG⟩
   ·rw[z]at q
    rcases h0 with h0 | h0
    ·rw[h0]at q;cases q
    ·unfold f' at q
     simp at q;omega
   ·exact z8 aB _ (fun x ah=>aS x (ahR _ ah)) (.inr z) bG
  ·rw[if_neg q]
   exact z8 aB c (fun x ah=>aS x (ahR _ ah)) h0 h
def Gs:eT:=⟨[],[],0,.aW,.aW⟩
theorem QA(W:List (List Nat)):ih (fun _=>False) W Gs:=⟨fun _ h=>(nomatch h),alU,fun _ h=>(nomatch h),fun _ h=>(nomatch h),alU,fun _ h=>(nomatch h),.inl rfl,.inl rfl,fun _ h=>(nomatch h)⟩
theorem Gj{aB:List cz}(aS:∀g∈aB,iA W g.s g.w):∃t:eT,(aB.foldl dF ((0,0),i5)).2=t.D/\ih (fun _=>False) W t/\t.c2=.aW:=
 z8 aB _ aS (.inl rfl) ⟨Gs,rfl,QA W,rfl⟩
theorem Qw(aS:∀g∈p::ps,iA W g.s g.w)(op:D):qk op (mH p ps)=.tup [cx ((p::ps).foldl dF ((0,0),op)).1,((p::ps).foldl dF ((0,0),op)).2]:=by
 rcases aS p ah0 with⟨z,_⟩ | ⟨z,_⟩
 ·have e:dF ((0,0),op) p=((0,0),op):=by unfold dF;rw[z];exact if_neg (show ¬f' (0,0) (0,0)=true by decide)
  show _=D.tup [cx (ps.foldl dF (dF _ p)).1,(ps.foldl dF (dF _ p)).2];rw[e];exact wB ps p _ (fun x ah=>aS x (ahR _ ah)) (.inl z) z.symm (if_pos z).symm
 ·have a1:f' p.s (0,0)=true:=by unfold f';simp;omega
  have ne:p.s≠(0,0):=fun q=>by rw[q]at z;exact absurd z (by decide)
  have e:dF ((0,0),op) p=(p.s,p.w):=by unfold dF;exact if_pos a1
  show _=D.tup [cx (ps.foldl dF (dF _ p)).1,(ps.foldl dF (dF _ p)).2];rw[e];exact wB ps p _ (fun x ah=>aS x (ahR _ ah)) (.inr z) rfl (if_neg ne).symm
theorem XG(xs:List D):gX [.fr xs]=pure (.v (.int (xs.length:Nat))):=rfl
theorem Wl(j:Nat)(br:List Nat):jb false (.v (bx j)) (.b1 (br.map bx))=pure (.v (.aA (br.contains j))):=BM j br
theorem Cf(br:List Nat):∀(n:Nat)(r:aT),r.deep<n->r.wf->l7 n [enc r,.lst (br.map bx)]=pure (.v (.aA (r.fills fun j=>br.contains j)))
 |0,r,h,_=>absurd h (akO _)|n+1,.kp k,h,hw=>by
  rw[rH];exact lO rfl (q1 ((k9 (Yz (c7 rfl))).trans (lj (bN (Wl k br) rfl rfl))))
 |n+1,.ch k ps,h,hw=>by
  simp only[aT.deep]at h;simp only[aT.wf]at hw;have dl:=rD (ps:=ps) (n:=n) (by omega);have wl:=y'.mp hw.2.2.2;rw[qa];have c:fO (bg (bJ (l7 n) (U (J 0) (U (J 1) ar)))) (J 0) [.emp,.b1 (br.map bx)] (ps.map enc)=pure ((ps.filter (aT.fills fun j=>br.contains j)).map enc):=
   lG enc (aT.fills fun j=>br.contains j) enc ps (fun r aG=>c7 (call_of rfl (Cf br n r (dl r aG) (wl r aG)))) fun r _ _=>rfl
  have z:(ps.map enc).length<ahQ:=by rw[ahJ];exact eB (by omega)
  have e:decide ((((ps.filter (aT.fills fun j=>br.contains j)).map enc).length:Int)≥(k:Nat))=(aT.ch k ps).fills fun j=>br.contains j:=by
   rw[ahJ,wW];exact decide_eq_decide.mpr (by omega)
  exact lO rfl ((jg (yq (c7 rfl))).trans (lj (bN (HD.trans (by rw[e])) (jX (XG _) (cons_of (p8 rfl z c) rfl)) (bN rfl rfl rfl))))
theorem SI(k:List Key)(d:D):∀aw:List (List Key×D),ik (gp aw k d) k=some d:=by
 intro aw;unfold gp ik;split
 ·rename_i nP
  induction aw with
  |nil=>cases nP
  |cons p aw a9=>
   rw[ahT]
   by_cases c:p.1=k
   ·rw[if_pos c,aiP (by simpa using c)];rfl
   ·rw[if_neg c,aiF (by simpa using c)]
    refine a9 ?_;rw[ajs]at nP;simpa[c]using nP
 ·rename_i nP
  rw[List.find?_append,alH.mpr fun x ah z=>nP (List.any_eq_true.mpr ⟨x,ah,z⟩),aiP (by simp)];rfl
theorem ZP(k:Nat)(aw:List (List Key×D))(d:D):iw (gp aw (eG k) d) k=d:=by unfold iw;rw[SI];rfl
def iz(W:List (List Nat))(aw:List (List Key×D)):Prop:=∀k:Nat,∃pr kp w,iw aw k=lb pr kp w/\0<=pr.1/\iA W kp w
theorem iz.nil(W:List (List Nat)):iz W []:=fun _=>⟨(0,0),(0,0),.aW,rfl,akI _,.inl ⟨rfl,rfl⟩⟩
theorem iz.put(h:iz W aw)(k:Nat)(h0:0<=pr.1)(az:iA W kp w):iz W (gp aw (eG k) (lb pr kp w)):=fun j=>by
 by_cases c:j=k
 ·rw[c,ZP];exact⟨pr,kp,w,rfl,h0,az⟩
 ·rw[KR c];exact h j
def nf:D->Int
 |.tup [.tup [.int r,_],_,_]=>r|_=>0
theorem CD:∀(l:List Int)(b:Int),b<=iP b l/\∀x∈l,x<=iP b l
 |[],b=>⟨akI _,fun _ h=>(nomatch h)⟩
 |y::l,b=>by
  unfold iP
  by_cases c:b<y
  ·rw[if_pos c]
   have:=CD l y;exact⟨by omega,fun x ah=>by rcases ahP.mp ah with rfl | ah;exact this.1;exact this.2 x ah⟩
  ·rw[if_neg c]
   have:=CD l b;exact⟨this.1,fun x ah=>by rcases ahP.mp ah with rfl | ah;omega;exact this.2 x ah⟩
theorem ZZ{k:Nat}(az:k<6):∃p:Int,nu 0 p/\aN (.fr [.int 1,.int 2,.int 4,.int 8,.int 16,.int 32]) (.v (bx k))=pure (.v (.int p)):=by
 rcases(by omega:k=0\/k=1\/k=2\/k=3\/k=4\/k=5)with rfl | rfl | rfl | rfl | rfl | rfl
 ·exact⟨1,iG (by decide) (by decide),rfl⟩
 ·exact⟨2,iG (by decide) (by decide),rfl⟩
 ·exact⟨4,iG (by decide) (by decide),rfl⟩
 ·exact⟨8,iG (by decide) (by decide),rfl⟩
 ·exact⟨16,iG (by decide) (by decide),rfl⟩
 ·exact⟨32,iG (by decide) (by decide),rfl⟩
theorem Gr{i j k:Nat}{A:Int}(bz:J i σ=pure (.v (.int A)))(az:k<6)(ah:af aN (J j) (ab (.int 2)) σ=pure (.v (bx k))) :
  ∃b,bg (af oEq (af oMod (af fR (J i) (af aN (dS (U (ab (.int 1)) (U (ab (.int 2)) (U (ab (.int 4)) (U (ab (.int 8)) (U (ab (.int 16)) (U (ab (.int 32)) ar))))))) (af aN (J j) (ab (.int 2))))) (ab (.int 2))) (ab (.int 1))) σ=pure b:=by
 obtain⟨p,aI,e⟩:=ZZ az;exact⟨_,c7 (bN kk (bN (hv (by decide)) (bN (lI (a:=A) (b:=p) aI) bz (bN e (r9 rfl rfl (ah7 rfl)) ah)) rfl) rfl)⟩
theorem IK{xs:List Int}{i:Int}(h0:0<=i)(ae:i<xs.length):∃A:Int,aN (.fr (xs.map D.int)) (.v (.int i))=pure (.v (.int A)):=by
 obtain⟨v,e⟩:=zN (xs:=xs.map D.int) h0 (by rw[ahJ];exact ae);obtain⟨A,_,rfl⟩:=aiK.mp (zM e);exact⟨A,IV e⟩
section
variable{W:List (List Nat)}{top g A:Int}(ae:1<=top)(bn:Nat)(s1 s2 s3 s4 s5 gK hA ni ea:Slot)
include ae
theorem A_:∀(ms:List Nat)(aw:List (List Key×D))(aB:List cz)(iU gu:Slot)(S:ck),S[bn]? = some (.dT aw)->ms.Nodup->(∀k∈ms,k<6)->iz W aw->(∀k∈ms,nf (iw aw k)<top)->(∀x∈aB,iA W x.s x.w)->aw.length+ms.length<1000->aB.length+ms.length<1000->
  ∃(dO:List (List Key×D))(i7:List cz)(fk eR:Slot),bT S (kO (fun d σ=>Jl (σ.set 11 (.val d))) (ms.map (eO g 0 (top,g))) [.val (.ref bn),s1,s2,s3,s4,s5,gK,hA,.val (.int A),ni,.dZ false (aB.map cY),iU,gu,ea]) (.bq [.val (.ref bn),s1,s2,s3,s4,s5,gK,hA,.val (.int A),ni,.dZ false (i7.map cY),fk,eR,ea]) (S.set bn (.dT dO))/\iz W dO/\(∀x∈i7,iA W x.s x.w)/\dO.length<=aw.length+ms.length/\i7.length<=aB.length+ms.length
 | [],aw,aB,iU,gu,S,cq,_,_,aa,_,aS,_,_=>⟨aw,aB,iU,gu,by rw[set_same cq];rfl,aa,aS,ahM _,ahM _⟩
 |k::ms,aw,aB,iU,gu,S,cq,eI,iq,aa,bG,aS,bP,ct=>by
  rw[ahX]at bP ct;obtain⟨Kl,eI⟩:=aiR.mp eI;obtain⟨pr,kp,w,aI,iR,az⟩:=aa k;have pt:=bG k ah0;rw[aI]at pt;have pt:pr.1<top:=pt;have jw:f' (top,g) pr=true:=by unfold f';simp;omega
  obtain⟨b,cJ⟩:=Gr (i:=8) (j:=11) (A:=A) (σ:=[.val (.ref bn),s1,s2,s3,s4,s5,gK,hA,.val (.int A),ni,.dZ false (aB.map cY),.val (eO g 0 (top,g) k),gu,ea]) rfl (iq k ah0) rfl
  cases b with
  |false=>
   obtain⟨dO,i7,fk,eR,e,bu,b4,oe,ng⟩:=A_ ms aw aB (.val (eO g 0 (top,g) k)) gu S cq eI (fun x ah=>iq x (ahR _ ah)) aa (fun x ah=>bG x (ahR _ ah)) aS (by omega) (by omega);exact⟨dO,i7,fk,eR,sZ (mm (aR.of cJ).to rfl) e,bu,b4,by rw[ahX];omega,by rw[ahX];omega⟩
  |true=>
   have dl:=Aw aw (eG k) (lb (top,g) kp w);obtain⟨dO,i7,fk,eR,e,bu,b4,oe,ng⟩:=A_ ms (gp aw (eG k) (lb (top,g) kp w)) (aB++[⟨k,kp,w⟩]) (.val (eO g 0 (top,g) k)) (.val (fX k g 0 (top,g) kp w)) _ (get_set cq) eI (fun x ah=>iq x (ahR _ ah)) (aa.put k (by show 0<=top;omega) az) (fun x ah=>by rw[KR (show x≠k from fun z=>Kl (z▸ah))];exact bG x (ahR _ ah)) (fun x ah=>by
    rcases aiL.mp ah with ah | ah
    ·exact aS x ah
    ·rw[aij.mp ah];exact az) (by omega) (by rw[ahS];show aB.length+1+_ < _;omega)
   rw[ahS]at ng;have ng:i7.length<=aB.length+1+ms.length:=ng;rw[aiG,List.set_set]at e;exact⟨dO,i7,fk,eR,sZ (mn (aR.of cJ).to (dH (vL (x_call (.of rfl) rfl (Ia aI cq (by omega) jw)) rfl) (aR.of (zK rfl (cons_of (M5 (bN rfl rfl rfl) (bN rfl (bN rfl rfl rfl) rfl) (bN rfl (bN rfl rfl rfl) rfl)) rfl) (by rw[ahJ];exact eB (by omega)))).to)) e,bu,b4,by rw[ahX];omega,by rw[ahX];omega⟩
end
section
variable{W:List (List Nat)}{top g A:Int}(ae:1<=top){b n dd w:D}(hw:iA W (top,g) w)(bn:Nat)(s1 s2 s3 s4 s5 gK hA mb jf iU gu:Slot)
include ae hw
theorem xh:∀(ms:List Nat)(aw:List (List Key×D))(ea:Slot)(S:ck),S[bn]? = some (.dT aw)->(∀k∈ms,k<6)->iz W aw->aw.length+ms.length<1000->
  ∃(dO:List (List Key×D))(fv:Slot),bT S (kO (fun d σ=>Jm (σ.set 13 (.val d))) (ms.map (jO g 0 (top,g) (.tup [b,n,dd,w]))) [.val (.ref bn),s1,s2,s3,s4,s5,gK,hA,mb,.val (.int A),jf,iU,gu,ea]) (.bq [.val (.ref bn),s1,s2,s3,s4,s5,gK,hA,mb,.val (.int A),jf,iU,gu,fv]) (S.set bn (.dT dO))/\iz W dO/\dO.length<=aw.length+ms.length
 | [],aw,ea,S,cq,_,aa,_=>⟨aw,ea,by rw[set_same cq];rfl,aa,ahM _⟩
 |k::ms,aw,ea,S,cq,iq,aa,bP=>by
  rw[ahX]at bP;obtain⟨pr,kp,q',aI,iR,az⟩:=aa k;have Be:∀x∈ms,x<6:=fun x ah=>iq x (ahR _ ah)
  obtain⟨q,cJ⟩:=Gr (i:=9) (j:=13) (A:=A) (σ:=[.val (.ref bn),s1,s2,s3,s4,s5,gK,hA,mb,.val (.int A),jf,iU,gu,.val (jO g 0 (top,g) (.tup [b,n,dd,w]) k)]) rfl (iq k ah0) rfl
  cases q with
  |false=>
   obtain⟨dO,fv,e,bu,b4⟩:=xh ms aw (.val (jO g 0 (top,g) (.tup [b,n,dd,w]) k)) S cq Be aa (by omega);exact⟨dO,fv,sZ (mm (aR.of cJ).to rfl) e,bu,by rw[ahX];omega⟩
  |true=>
   cases jw:f' pr (top,g)with
   |true=>
    obtain⟨dO,fv,e,bu,b4⟩:=xh ms aw (.val (jO g 0 (top,g) (.tup [b,n,dd,w]) k)) S cq Be aa (by omega);exact⟨dO,fv,sZ (mn (aR.of cJ).to (Eh (x_call (.of rfl) rfl (Vv aI cq jw)))) e,bu,by rw[ahX];omega⟩
   |false=>
    have dl:=Aw aw (eG k) (lb (top,g) (top,g) w);obtain⟨dO,fv,e,bu,b4⟩:=xh ms (gp aw (eG k) (lb (top,g) (top,g) w)) (.val (jO g 0 (top,g) (.tup [b,n,dd,w]) k)) _ (get_set cq) Be (aa.put k (by show 0<=top;omega) hw) (by omega);rw[List.set_set]at e;exact⟨dO,fv,sZ (mn (aR.of cJ).to (Eh (x_call (.of rfl) rfl (Vs aI cq (by omega) jw)))) e,bu,by rw[ahX];omega⟩
end
theorem ym{a k:aT}(h:j∈dc a k):j<6:=ai4.mp (ajM.mp h).1
theorem X5(a k:aT):(dc a k).Nodup:=List.nodup_range.filter _
theorem SD{s:eT}(aC:s.c2=.aW)(i n:Int)(eg:e5 d):(kj s i n (some d)).c2=.aW:=by
 unfold kj;dsimp only;split
 ·rcases eg with⟨a,m,rfl⟩ | ⟨a,m,rfl⟩<;>exact aC
 ·exact aC
theorem S'(ao:Good a){aB:List cz}(aj:aB.length<1000){mZ r':bl}{r:R}(ae:mZ σ=pure (.v (enc a)))(ag:r' σ=pure r)(aG:r.eH=some (aB.map cY)) :
  bg (bJ (l7 6) (U mZ (U (eV 1 [] (j3 r') gi (af aN (J 0) (ab (.int 0)))) ar))) σ=pure (a.fills fun j=>(aB.map (·.k)).contains j):=by
 have a7:=Cf (aB.map (·.k)) 6 a (by have:=ao.2.1;omega) ao.1;have afa:(aB.map cY).length<ahQ:=by rw[ahJ];exact eB (by omega)
 have tZ:fO gi (af aN (J 0) (ab (.int 0))) (hU 1 [] σ) (aB.map cY)=pure ((aB.map (·.k)).map bx):=(p7 (σ:=hU 1 [] σ) cY (fun x=>bx x.k) aB fun x _=>rfl).trans (by rw[akz];rfl);have aD:j3 r' σ=pure (aB.map cY):=by show(r' σ >>= _)=_;rw[ag];show(match r.eH with | some xs=>pure xs | none=>bad)=_;rw[aG]
 exact c7 (call_of (cons_of ae (cons_of (p8 aD afa tZ) rfl)) a7)
section
variable{a k:aT}(ao:Good a)(az:Good k){W:List (List Nat)}
include ao az
theorem XA(gg:W.length<59){aw:List (List Key×D)}{S:ck}(cq:S[bn]? = some (.dT aw))(aa:iz W aw)(hz:aw.length+12<1000){g:Int}(tU:0<=g)(tW:g<6){n:Int}(aH:1<=n)(eg:e5 d)(hd:kU (fun _=>False) W d)(c:Int) :
  ∃dO,bT S (uF [.ref bn,dh a k,.int g,.int n,d.D,.int c]) (.v .aW) (S.set bn (.dT dO))/\iz W dO/\dO.length<=aw.length+12:=by
 have cA:c8 d.D=.val d.D:=by rcases eg with⟨a,m,rfl⟩ | ⟨a,m,rfl⟩<;>rfl
 have m1:=qJ a k;have afg:((dc a k).map bx).length<ahQ:=by rw[ahJ];exact eB (by omega)
 have Zh:aR S (fO gi (af aN (af aN (bJ sh (U (J 1) (U (J 0) (U (af aN (J 2) (ab (.int 0))) ar)))) (ab (.int 0))) (ab (.int 0))) [.emp,.val (.ref bn),.val (dh a k)] ((dc a k).map bx)) ((dc a k).map fun j=>.int (nf (iw aw j))):=
  xS bx (fun j=>.int (nf (iw aw j))) (dc a k) fun j _=>by
   obtain⟨pr,kp,w,aI,_⟩:=aa j;rw[aI];exact dy (x:=.v (cx pr)) rfl (dy rfl (u4 aI cq rfl rfl rfl) (.of rfl)) (.of rfl)
 obtain⟨b,bs,AA⟩:∃b bs,((dc a k).map fun j=>nf (iw aw j))=b::bs:=by
  cases e:(dc a k).map fun j=>nf (iw aw j)with
  |nil=>have:=CE (k:=k) ao;rw[List.map_eq_nil_iff.mp e]at this;cases this
  |cons b bs=>exact⟨b,bs,rfl⟩
 have m9:tR [.fr ((dc a k).map fun j=>.int (nf (iw aw j)))]=pure (.v (.int (iP b bs))):=by
  show(match nums ((dc a k).map fun j=>D.int (nf (iw aw j)))with | some (b::bs)=>pure (R.v (.int (iP b bs))) | _=>bad)=_;rw[CQ,AA]
 have pq:=CD bs b;have all:∀j∈dc a k,nf (iw aw j)<=iP b bs:=fun j aZ=>by
  have:nf (iw aw j)∈b::bs:=AA▸aiK.mpr ⟨j,aZ,rfl⟩;rcases ahP.mp this with e | h
  ·rw[e];exact pq.1
  ·exact pq.2 _ h
 have jV:0<=b:=by
  have:b∈((dc a k).map fun j=>nf (iw aw j)):=AA▸ah0;obtain⟨j,_,e⟩:=aiK.mp this;obtain⟨pr,kp,w,aI,iR,_⟩:=aa j;rw[aI]at e;have e:pr.1=b:=e;omega
 have ae:1<=1+iP b bs:=by omega
 generalize bG:iP b bs=m at *;obtain⟨A,SO⟩:=IK (xs:=[63,63,c / 6 % 64]) (i:=c % 3) (amq _ (by decide)) (alF _ (by decide));obtain⟨B,SP⟩:=IK (xs:=[63,c / 384 % 64]) (i:=c / 3 % 2) (amq _ (by decide)) (alF _ (by decide));obtain⟨xX,aB,fk,eR,aq,bX,aS,bP,Cq⟩:=A_ (W:=W) (g:=g) (A:=A) ae bn (.val (dh a k)) (.val (.int g)) (.val (.int n)) (.val d.D) (.val (.int c)) (.val (.lst ((dc a k).map bx))) (.val (.int (1+m))) (.val (.int B)) .emp (dc a k) aw [] .emp .emp S cq (X5 a k) (fun _ h=>ym h) aa (fun j aZ=>by have:=all j aZ;omega) (fun _ h=>(nomatch h)) (by omega) (by show 0+_ < _;omega);have Cq:aB.length<=0+(dc a k).length:=Cq;obtain⟨t,w6,tok,y5⟩:=Gj (W:=W) aS;have Vi:se [(aB.foldl dF ((0,0),i5)).2,.int g,.int n,d.D]=pure (.v (kj t g n (some d)).D):=by rw[w6];exact Ju tok y5 gg g aH eg hd
 have Xl:iA W (1+m,g) (kj t g n (some d)).D:=.inr ⟨ae,_,rfl,G' tok tU tW n fun x ah=>by cases ah;exact hd,SD y5 g n eg⟩;have T5:=get_set (o':=.dT xX) cq;obtain⟨Xp,fv,aD,bY,ct⟩:=xh (W:=W) (g:=g) (A:=B) (b:=cx (aB.foldl dF ((0,0),i5)).1) (n:=.int n) (dd:=d.D) ae Xl bn (.val (dh a k)) (.val (.int g)) (.val (.int n)) (.val d.D) (.val (.int c)) (.val (.lst ((dc a k).map bx))) (.val (.int (1+m))) (.val (.int A)) (.dZ false (aB.map cY)) fk eR (dc a k) xX .emp _ T5 (fun _ h=>ym h) bX (by omega);rw[List.set_set]at aD;have xr:bg (bJ (l7 6) (U (af aN (af aN (J 1) (ab (.int 1))) (ab (.int 0))) (U (eV 1 [] (j3 (J 10)) gi (af aN (J 0) (ab (.int 0)))) ar))) [.val (.ref bn),.val (dh a k),.val (.int g),.val (.int n),.val d.D,.val (.int c),.val (.lst ((dc a k).map bx)),.val (.int (1+m)),.val (.int A),.val (.int B),.dZ false (aB.map cY),fk,eR,.emp]=pure (a.fills fun j=>(aB.map (·.k)).contains j):=
  S' ao (by omega) rfl rfl rfl
 have pre:∀{σ':aO}{au:ck},bT (S.set bn (.dT xX)) (FK [.val (.ref bn),.val (dh a k),.val (.int g),.val (.int n),.val d.D,.val (.int c),.val (.lst ((dc a k).map bx)),.val (.int (1+m)),.val (.int A),.val (.int B),.dZ false (aB.map cY),fk,eR,.emp]) (.bq σ') au->bT S (uF [.ref bn,dh a k,.int g,.int n,d.D,.int c]) (.v .aW) au:=fun{σ' au} q=>NM (σ':=σ') rfl (by
  show bT S (zZ [.val (.ref bn),.val (dh a k),.val (.int g),.val (.int n),c8 d.D,.val (.int c),.emp,.emp,.emp,.emp,.emp,.emp,.emp,.emp]) _ _;rw[cA];exact dH (aR.of (sI (call_of rfl (Cg ao az)) rfl)).to<|
   dH (aR.to (uv (dy (r:=.v (.int (1+m))) rfl (.of rfl) (ur m9 (cO (xR (.of rfl) afg Zh) eQ))) rfl))<|
   dH (aR.of (e1 (bN SO (r9 (cons_of rfl (cons_of rfl (cons_of (bN (hv (by decide)) (bN (lI (iG (by decide) (by decide))) rfl rfl) rfl) rfl))) rfl (ah7 rfl)) (bN (hv (by decide)) rfl rfl)))).to<|
   dH (aR.of (e1 (bN SP (r9 (cons_of rfl (cons_of (bN (hv (by decide)) (bN (lI (iG (by decide) (by decide))) rfl rfl) rfl) rfl)) rfl (ah7 rfl)) (bN (hv (by decide)) (bN (lI (iG (by decide) (by decide))) rfl rfl) rfl)))).to<|
   dH (aR.of KG).to<|dH (NN (I4 (.of (call_of rfl (Js ao az g (1+m,g))))) aq) q)
 cases q:a.fills fun j=>(aB.map (·.k)).contains j with
 |false=>
  rw[q]at xr;exact⟨xX,pre (mm (aR.of xr).to rfl),bX,by omega⟩
 |true=>
  rw[q]at xr;exact⟨Xp,pre (mn (aR.of xr).to (NN (I4 (.of (call_of rfl (Jv ao az g (1+m,g) n cA Vi)))) aD)),bY,by omega⟩
end
structure gy where
 pl:D
 dd:D
 tp:Int
 st:dx
 aB:List cz
 tl:Bool
 as:List D
def gy.L(n:gy)(q:Nat):List (Key×D):=[(.inr "place",n.pl),(.inr "deed",n.dd),(.inr "top",.int n.tp),(.inr "stamp",cx n.st),(.inr "grants",.ref q),(.inr "told",.aA n.tl),(.inr "asks",.lst n.as)]
structure fJ(S:ck)(i g w q:Nat)(A:c_)(n:gy):Prop where
 fy:fc S i g A
 d_:S[w]? = some (.d_ (n.L q))
 ls:S[q]? = some (.lst (n.aB.map cY))
 ne:g≠q
structure mF(S au:ck)(i g w q g' eA:Nat)(A:c_)(n:gy):Prop where
 at':fJ au i g' w eA A n
 fr:Fr [i,g,w,q] S au
 nw:(g'=g\/S.length<=g')/\(eA=q\/S.length<=eA)
 len:S.length<=au.length
def gS(S:ck)(i g w q:Nat)(m:N fm)(a7:fm)(A:c_)(n:gy):Prop:=∃au g' eA,bT S m a7 au/\mF S au i g w q g' eA A n
def p2(mf:fL)(ds:List D)(A:c_)(n:gy)(s':c_)(e0:gy):Prop:=∀(S:ck)(i g w q:Nat),fJ S i g w q A n->∃au g' eA,bT S (mf (.ref i::.ref w::ds)) (.v (.aA true)) au/\mF S au i g w q g' eA s' e0
section
variable{S S1 bj:ck}{σ σ':aO}{i g w q g1 g2 ba bU k xQ:Nat}{A jn oy:c_}{n fu dv:gy}{f:Str}{d:D}{mv:bl}{r:R}{bd:bp}{a7:fm}
theorem mF.refl(h:fJ S i g w q A n):mF S S i g w q g q A n:=⟨h,.refl,⟨.inl rfl,.inl rfl⟩,ahM _⟩
theorem mF.trans(h:mF S S1 i g w q g1 ba jn fu)(ag:mF S1 bj i g1 w ba g2 bU oy dv):mF S bj i g w q g2 bU oy dv:=by
 have l:=h.len;have nw:=h.nw;have ahm:=ag.nw;refine⟨ag.at',fun j o aZ e=>ag.fr j o ?_ (h.fr j o aZ e),by omega,aiS h.len ag.len⟩;have:=r_ e;simp only[ahP,ajc,or_false,not_or]at aZ ⊢;omega
theorem fJ.other(h:fJ S i g w q A n):w≠i/\w≠g/\w≠q/\q≠i:=by
 refine⟨fun e=>?_,fun e=>?_,fun e=>?_,fun e=>?_⟩
 ·have:=h.d_;rw[e,h.fy.bA]at this;cases this
 ·have:=h.d_;rw[e,h.fy.ls]at this;cases this
 ·have:=h.d_;rw[e,h.ls]at this;cases this
 ·have:=h.ls;rw[e,h.fy.bA]at this;cases this
theorem fJ.step(h:fJ S i g w q A n)(s:d9 S S1 i g g1 jn):mF S S1 i g w q g1 q jn n:=by
 obtain⟨hk,gj,ov,sW⟩:=h.other;have:=h.ne;have ahk:=r_ h.ls;have nw:=s.nw;exact⟨⟨s.at',s.fr _ _ (by simp[hk,gj]) h.d_,s.fr _ _ (by simp[sW,this.symm]) h.ls,by omega⟩,fun j o aZ e=>s.fr j o (fun z=>aZ (by simp only[ahP,ajc,or_false]at z ⊢;omega)) e,⟨nw,.inl rfl⟩,s.len⟩
theorem w_get(h:fJ S i g w q A n)(az:J k σ=pure (.v (.ref w)))(e:ik (n.L q) (.inr f)=some d):aR S (af d8 (J k) (ab (.str f)) σ) (.v d):=WY h.d_ (.of az) (.of rfl) rfl e
theorem NB(h:fJ S i g w q A n)(az:J k σ=pure (.v (.ref w))):aR S (jY (af d8 (J k) (ab (.str "grants"))) σ) (.mv (n.aB.map cY)):=I5 h.ls (w_get h az rfl)
theorem B5:(n.L q).length<1000:=by show 7<1000;omega
theorem oh{a:bp}(h:gS S i g w q (a σ) (.bq σ') jn fu)(ag:∀S1 g1 ba,fJ S1 i g1 w ba jn fu->gS S1 i g1 w ba (bd σ') a7 oy dv):gS S i g w q (bS a bd σ) a7 oy dv:=by
 obtain⟨S1,g1,ba,t,s⟩:=h;obtain⟨bj,g2,bU,eC,s2⟩:=ag S1 g1 ba s.at';exact⟨bj,g2,bU,dH t eC,s.trans s2⟩
theorem vj{m:a0}(h:fJ S i g w q A n)(e:aR S (m σ) a7):gS S i g w q (cj m σ) a7 A n:=⟨S,g,q,e,.refl h⟩
theorem DE{m:a0}(e:aR S (m σ) (.bq σ'))(h:gS S i g w q (bd σ') a7 A n):gS S i g w q (bS (cj m) bd σ) a7 A n:=by
 obtain⟨S1,g1,ba,t,s⟩:=h;exact⟨S1,g1,ba,dH (aR.to e) t,s⟩
theorem Lx{t:aO->M Bool}{a b:bp}(e:aR S (t σ) true)(h:gS S i g w q (a σ) a7 A n):gS S i g w q (fD (hl t) a b σ) a7 A n:=by
 obtain⟨S1,g1,ba,t,s⟩:=h;exact⟨S1,g1,ba,mn (aR.to e) t,s⟩
theorem DD{t:aO->M Bool}{a b:bp}(e:aR S (t σ) false)(h:gS S i g w q (b σ) a7 A n):gS S i g w q (fD (hl t) a b σ) a7 A n:=by
 obtain⟨S1,g1,ba,t,s⟩:=h;exact⟨S1,g1,ba,mm (aR.to e) t,s⟩
theorem vk(h:fJ S i g w q A n)(e0:gy)(az:J k σ=pure (.v (.ref w)))(ev:aR S (mv σ) r)(AM:r.dat=pure d)(e:gp (n.L q) (.inr f) d=e0.L q)(j0:e0.aB=n.aB):gS S i g w q (jl (J k) (ab (.str f)) (dg mv) σ) (.bq σ) A e0:=by
 obtain⟨hk,gj,ov,sW⟩:=h.other;refine⟨_,g,q,zc ev.to AM (.of az) (.of rfl) h.d_ rfl B5,⟨⟨?_,?_⟩,?_,?_,h.ne⟩,.set (by simp),⟨.inl rfl,.inl rfl⟩,by rw[aiu];exact ahM _⟩
 ·rw[ahZ hk];exact h.fy.bA
 ·rw[ahZ gj];exact h.fy.ls
 ·rw[get_set h.d_,e]
 ·rw[ahZ ov,j0];exact h.ls
theorem aaG(h:fJ S i g w q A n)(e0:gy)(az:J k σ=pure (.v (.ref w)))(e:∀m,gp (n.L q) (.inr "grants") (.ref m)=e0.L m)(j0:e0.aB=[]):gS S i g w q (jl (J k) (ab (.str "grants")) (nr (dg (dS ar))) σ) (.bq σ) A e0:=by
 obtain⟨hk,gj,ov,sW⟩:=h.other;have a1:∀{j:Nat}{o:gR},S[j]? = some o->(S++[gR.lst []])[j]? = some o:=fun z=>Fr.app (W:=[]) _ _ (ajc) z
 have lw:=r_ h.d_;have Cq:=r_ h.fy.ls;refine⟨_,g,S.length,zc Ei rfl (.of az) (.of rfl) (a1 h.d_) rfl B5,⟨⟨?_,?_⟩,?_,?_,by omega⟩,Fr.app.trans (.set (by simp)),⟨.inl rfl,.inr (ahM _)⟩,by rw[aiu,ahS];omega⟩
 ·rw[ahZ hk];exact a1 h.fy.bA
 ·rw[ahZ gj];exact a1 h.fy.ls
 ·rw[get_set (a1 h.d_),e]
 ·rw[ahZ (by omega),HH,j0];rfl
theorem aaC{ms:cL}(h:fJ S i g w q A n)(e0:gy)(az:J k σ=pure (.v (.ref w)))(ev:aR S (ms σ) [.v (cY x)])(e:e0.L q=n.L q)(j0:e0.aB=n.aB++[x])(z:n.aB.length<1000):gS S i g w q (rh h9 (af d8 (J k) (ab (.str "grants"))) ms σ) (.bq σ) A e0:=by
 obtain⟨hk,gj,ov,sW⟩:=h.other;have ne:=h.ne;refine⟨_,g,q,NJ (w_get h az rfl) ev h.ls (by rw[ahJ];exact eB (by omega)),⟨⟨?_,?_⟩,?_,?_,ne⟩,.set (by simp),⟨.inl rfl,.inl rfl⟩,by rw[aiu];exact ahM _⟩
 ·rw[ahZ sW];exact h.fy.bA
 ·rw[ahZ ne.symm];exact h.fy.ls
 ·rw[ahZ ov.symm,e];exact h.d_
 ·rw[get_set h.ls,j0,aiG];rfl
theorem aaF{ms:iF}{rs:List R}(h:fJ S i g w q A n)(p:A.Do mf (rs.map R.arg) ys jn)(az:J xQ σ=pure (.v (.ref i)))(aH:(A.aV g).lookup m=none)(ag:bT S (ms σ) rs S)(aC:rs.all R.jM=true):gS S i g w q (kP k (hI "Asker" m mf (J xQ) ms) σ) (.bq (σ.set k (.val (.lst ys)))) jn n:=by
 obtain⟨bj,g2,t,s⟩:=p _ _ _ h.fy;exact⟨bj,g2,q,vL (zd h.fy.bA (.of az) aH ag aC t) rfl,h.step s⟩
theorem aaE(h:fJ S i g w q A n)(e0:gy)(p:A.Do mf [] ys jn)(az:J xQ σ=pure (.v (.ref i)))(aH:(A.aV g).lookup m=none)(jF:J k σ=pure (.v (.ref w)))(e:gp (n.L q) (.inr "asks") (.lst ys)=e0.L q)(j0:e0.aB=n.aB):gS S i g w q (jl (J k) (ab (.str "asks")) (hI "Asker" m mf (J xQ) ml) σ) (.bq σ) jn e0:=by
 obtain⟨bj,g2,t,s⟩:=p _ _ _ h.fy;have ae:=h.step s;obtain⟨hk,gj,ov,sW⟩:=ae.at'.other;refine⟨_,g2,q,zc (zd h.fy.bA (.of az) aH (rs:=[]) rfl rfl t) rfl (.of jF) (.of rfl) ae.at'.d_ rfl B5,ae.trans ⟨⟨⟨?_,?_⟩,?_,?_,ae.at'.ne⟩,.set (by simp),⟨.inl rfl,.inl rfl⟩,by rw[aiu];exact ahM _⟩⟩
 ·rw[ahZ hk];exact ae.at'.fy.bA
 ·rw[ahZ gj];exact ae.at'.fy.ls
 ·rw[get_set ae.at'.d_,e]
 ·rw[ahZ ov,j0];exact ae.at'.ls
theorem vG{CG N:Nat}{bd:bp}{ds:List D}(h:ds.length+2=CG)(p:∀S i g w q,fJ S i g w q A n->gS S i g w q (bd (.val (.ref i)::.val (.ref w)::ds.map c8++aiH (N-CG) .emp)) (.cS (.v (.aA true))) jn fu):p2 (fnX CG N bd) ds A n jn fu:=fun S i g w q dX=>by
 obtain⟨bj,g2,bU,t,s⟩:=p S i g w q dX;exact⟨bj,g2,bU,sY h t,s⟩
end
def Mx:Bool->Str
 |true=>"telling"|false=>"asking"
def eo(me:Int)(h dd:D)(tp:Int)(st:dx)(aB:List cz)(tl:Bool)(km:Nat)(ts:D):c_:=⟨me,0,h,i5,false,tp,st,1,dd,Mx tl,.aW,aB,km,ts⟩
section
variable{S:ck}{i g w q:Nat}{n:gy}
theorem xE{A:c_}(h:fJ S i g w q A n)(t8:Ok 13 (.lst Y))(SY:A.st=n.st)(r0:A.dw=.aW)(Io:A.fS=Mx n.tl)(s2 s5:Slot) :
  gS S i g w q (z3 [.val (.ref i),.val (.ref w),s2,.val (.lst Y),.val (.lst Y),s5]) (.cS (.v (.aA true))) A n:=by
 have fS:ah9 A.fS=true:=by rw[Io];cases n.tl;exact C3;exact YO
 have fN:aN (.fr [.str "asking",.str "telling"]) (.v (.int (if n.tl then 1 else 0)))=pure (.v (.str A.fS)):=by rw[Io];cases n.tl<;>rfl
 have mZ:∀{m f:Str}{b:a0}{d:D}{σ:aO},J 0 σ=pure (.v (.ref i))->(A.aV g).lookup m=none->(A.aV g).lookup f=some d->b=bE (b2 (dn "Asker" f) (J 0))->aR S (jZ "Asker" m (fnOf 1 1 b) (J 0) ar σ) (.v d):=fun h0 ae ag e=>I6 h.fy.bA (.of h0) ae eQ (BW rfl (by rw[e];exact uu (eD h.fy rfl ag)))
 have eC:aR S (f3 (bg (bJ (h4 14) (U (jZ "Asker" "stamp" Cu (J 0) ar) (U (af d8 (J 1) (ab (.str "stamp"))) ar)))) [.val (.ref i),.val (.ref w),s2,.val (.lst Y),.val (.lst Y),s5]) false:=o7 (dG (b:=true) (h2 (cO (mZ (d:=cx A.st) rfl rfl rfl rfl) (cO (w_get (d:=cx n.st) h rfl rfl) eQ)) (.of (by
  show h4 14 [cx A.st,cx n.st]=_;rw[SY];exact same_refl 13 _ (pz (n:=1) (yx h5 h5) (by decide))))))
 have t1:aR S (f3 (bg (bJ (h4 14) (U (J 3) (U (J 4) ar)))) [.val (.ref i),.val (.ref w),s2,.val (.lst Y),.val (.lst Y),s5]) false:=o7 (dG (b:=true) (h2 (rs:=[.v (.lst Y),.v (.lst Y)]) (.of rfl) (.of (same_refl 13 _ t8))));exact DE (BY (xT t1 (xT eC (dG (dy (Yy A.dw |>.trans (by rw[r0];rfl)) (mZ (d:=A.dw) rfl rfl rfl rfl) (.of rfl))))) (.of rfl))<|
  vj h (uu (h2 (cO (mZ (d:=.str A.fS) rfl rfl rfl rfl) (cO (dy fN (.of (r9 rfl rfl (ah7 rfl))) (ur rfl (cO (w_get h rfl rfl) eQ))) eQ)) (.of (same_refl 13 _ (oc fS)))))
theorem WZ(aB:List cz)(σ:aO):aR S (fO gi (af aN (J 0) (ab (.int 0))) (hU 1 [] σ) (aB.map cY)) ((aB.map (·.k)).map bx):=.of ((p7 (σ:=hU 1 [] σ) cY (fun x=>bx x.k) aB fun x _=>rfl).trans (by rw[akz];rfl))
theorem xD(h:fJ S i g w q A n)(e:A.Do m2 [ff] Y s')(aj:n.aB.length<1000)(p:∀S1 g1 ba,fJ S1 i g1 w ba s' n->gS S1 i g1 w ba (z2 [.val (.ref i),.val (.ref w),.val ff,.val (.lst Y),.val (.lst []),.val (.lst ((n.aB.map (·.k)).map bx))]) a7 oy dv) :
  gS S i g w q (z1 [.val (.ref i),.val (.ref w),.val ff,.emp,.emp,.emp]) a7 oy dv:=
 oh (aaF (rs:=[.v ff]) h e rfl rfl rfl rfl) fun S g q h=>by
 refine DE (σ':=[.val (.ref i),.val (.ref w),.val ff,.val (.lst Y),.val (.lst []),.emp]) (uv (r:=.fr []) (d:=.lst []) (.of rfl) rfl) ?_;refine DE (σ':=[.val (.ref i),.val (.ref w),.val ff,.val (.lst Y),.val (.lst []),.val (.lst ((n.aB.map (·.k)).map bx))]) (uv (r:=.fr ((n.aB.map (·.k)).map bx)) (d:=.lst ((n.aB.map (·.k)).map bx)) (xR (BX (NB h rfl) rfl) (by rw[ahJ];exact eB (by omega)) (WZ n.aB _)) rfl) ?_;exact p S g q h
end
theorem C9:Ok 13 (.lst []):=C8 (n:=12) (aib _) fun _ h=>(nomatch h)
theorem Kn(j:Nat)(br:List Nat):jb true (.v (bx j)) (.v (.lst (br.map bx)))=pure (.v (.aA (!br.contains j))):=by
 have ep:(br.map bx).all D.flat=true:=by rw[List.all_map];exact aiZ.mpr fun _ _=>rfl
 show(if(bx j).flat=true/\(br.map bx).all D.flat=true then pure (R.v (D.aA (if true=true then !inD (bx j) (br.map bx)else inD (bx j) (br.map bx))))else bad)=_;rw[if_pos ⟨rfl,ep⟩,if_pos rfl,IG]
section
variable{a k:aT}{d:D}{me tp:Int}{st:dx}{aB:List cz}{tl:Bool}{as:List D}{km:Nat}{ts:D}
theorem V6(aj:aB.length<1000)(j:Nat)(s p:dx) :
  p2 ph [ux j me 0 s p] (eo me (cR a k) d tp st aB tl km ts) ⟨dh a k,d,tp,st,aB,tl,as⟩ (eo me (cR a k) d (if p.1 > tp then p.1 else tp) st aB tl km ts) ⟨dh a k,d,if p.1 > tp then p.1 else tp,st,aB,tl,as⟩:=vG rfl fun S i g w q h=>
 xD h (Vp (a:=eo me (cR a k) d tp st aB tl km ts) p) aj fun S g q h=>
 oh (Lx (dG (dy JC (.of rfl) (.of rfl))) (vk h ⟨dh a k,d,if p.1 > tp then p.1 else tp,st,aB,tl,as⟩ rfl (ur (r:=.v (.int (if p.1 > tp then p.1 else tp))) rfl (cO (w_get h rfl rfl) (cO (.of rfl) eQ))) rfl rfl rfl)) fun S g q h=>
 xE h C9 rfl rfl rfl _ _
theorem BF(aj:aB.length<1000)(he:(eo me (cR a k) d tp st aB tl km ts).Do m2 [fX j me 0 s kp w] [] (eo me (cR a k) d tp st aB tl km ts))(c:s≠st\/tl=true\/(aB.map (·.k)).contains j=true) :
  p2 ph [fX j me 0 s kp w] (eo me (cR a k) d tp st aB tl km ts) ⟨dh a k,d,tp,st,aB,tl,as⟩ (eo me (cR a k) d tp st aB tl km ts) ⟨dh a k,d,tp,st,aB,tl,as⟩:=vG rfl fun S i g v q h=>
 xD h he aj fun S g q h=>by
 have aq:=AJ s st;have cond:aR S (g5 (bg (af oEq (af aN (J 2) (ab (.int 4))) (af d8 (J 1) (ab (.str "stamp"))))) (g5 (f3 (bg (af d8 (J 1) (ab (.str "told"))))) (bg (af (jb true) (af aN (J 2) (ab (.int 1))) (J 5)))) [.val (.ref i),.val (.ref v),.val (fX j me 0 s kp w),.val (.lst []),.val (.lst []),.val (.lst ((aB.map (·.k)).map bx))]) false:=by
  by_cases q:s=st
  ·rw[decide_eq_true q]at aq
   refine l3 (dG (dy aq (.of rfl) (w_get h rfl rfl))) ?_
   cases tl with
   |true=>exact qA (o7 (x:=true) (dG (w_get h rfl rfl)))|false=>
    refine l3 (o7 (x:=false) (dG (w_get h rfl rfl))) ?_;rcases c with c | c | c
    ·exact absurd q c
    ·cases c
    ·exact dG (dy ((Kn j _).trans (by rw[c];rfl)) (.of rfl) (.of rfl))
  ·rw[decide_eq_false q]at aq
   exact qA (dG (dy aq (.of rfl) (w_get h rfl rfl)))
 exact oh (DD (dG (dy t2 (.of rfl) (.of rfl))) (DD cond (vj h (.of rfl)))) fun S g q h=>xE h C9 rfl rfl rfl _ _
end
section
variable{a k:aT}(ao:Good a){d:D}{me tp:Int}{st:dx}{aB:List cz}{as:List D}{j:Nat}{kp:dx}{w:D}(aj:aB.length<900)(c:(aB.map (·.k)).contains j=false)
variable{S:ck}{i g v q:Nat}{A:c_}
def V5:bp:=(fD (hl (bg (bJ (l7 6) (U (af aN (af aN (af d8 (J 1) (ab (.str "place"))) (ab (.int 1))) (ab (.int 0))) (U (af iv (J 5) (dS (U (af aN (J 2) (ab (.int 1))) ar))) ar))))) (bS (jl (J 1) (ab (.str "told")) (dg (ab (.aA true))))
  (cj (cg 4 (bJ uH (U (af aN (J 2) (ab (.int 2))) (U (af d8 (J 1) (ab (.str "place"))) (U (af d8 (J 1) (ab (.str "stamp"))) (U (ab (.int 1)) (U (af d8 (J 1) (ab (.str "deed"))) (U (jY (af d8 (J 1) (ab (.str "grants")))) ar)))))))))) (cj cH))
include aj c
theorem Iu(h:fJ S i g v q A ⟨dh a k,d,tp,st,aB,false,as⟩)(p:∀S g q,fJ S i g v q A ⟨dh a k,d,tp,st,aB++[cz.mk j kp w],false,as⟩->∃σ' jn fu,gS S i g v q (V5 [.val (.ref i),.val (.ref v),.val (fX j me 0 st kp w),s3,s4,.val (.lst ((aB.map (·.k)).map bx))]) (.bq σ') jn fu/\∀S g q,fJ S i g v q jn fu->gS S i g v q (z3 σ') a7 oy dv) :
  gS S i g v q (z2 [.val (.ref i),.val (.ref v),.val (fX j me 0 st kp w),s3,s4,.val (.lst ((aB.map (·.k)).map bx))]) a7 oy dv:=by
 have aq:=(AJ st st).trans (by rw[decide_eq_true rfl]);have cond:aR S (g5 (bg (af oEq (af aN (J 2) (ab (.int 4))) (af d8 (J 1) (ab (.str "stamp"))))) (g5 (f3 (bg (af d8 (J 1) (ab (.str "told"))))) (bg (af (jb true) (af aN (J 2) (ab (.int 1))) (J 5)))) [.val (.ref i),.val (.ref v),.val (fX j me 0 st kp w),s3,s4,.val (.lst ((aB.map (·.k)).map bx))]) true:=
  l3 (dG (dy aq (.of rfl) (w_get h rfl rfl))) (l3 (o7 (x:=false) (dG (w_get h rfl rfl))) (dG (dy ((Kn j _).trans (by rw[c];rfl)) (.of rfl) (.of rfl))))
 obtain⟨S1,g1,ba,t1,s1⟩:=aaC (σ:=[.val (.ref i),.val (.ref v),.val (fX j me 0 st kp w),s3,s4,.val (.lst ((aB.map (·.k)).map bx))]) (k:=1) (ms:=U (bB (U (af aN (J 2) (ab (.int 1))) (U (af aN (af aN (J 2) (ab (.int 5))) (ab (.int 0))) (U (af aN (af aN (J 2) (ab (.int 5))) (ab (.int 1))) ar)))) ar) h ⟨dh a k,d,tp,st,aB++[cz.mk j kp w],false,as⟩ rfl (x:=cz.mk j kp w) (cO (.of rfl) eQ) rfl rfl (Nat.lt_trans aj (by decide));obtain⟨σ',jn,fu,bu,b4⟩:=p _ _ _ s1.at';obtain⟨bj,g2,bU,eC,s2⟩:=bu;obtain⟨b_,g3,gZ,t3,s3⟩:=b4 _ _ _ s2.at';exact⟨b_,g3,gZ,dH (mm (aR.to (dG (dy t2 (.of rfl) (.of rfl)))) (mn (aR.to cond) (dH t1 eC))) t3,s1.trans (s2.trans s3)⟩
include ao
omit c in
theorem Iv{n:gy}(h:fJ S i g v q A n)(aI:n.pl=dh a k)(s3 s4:Slot):aR S (bg (bJ (l7 6) (U (af aN (af aN (af d8 (J 1) (ab (.str "place"))) (ab (.int 1))) (ab (.int 0))) (U (af iv (J 5) (dS (U (af aN (J 2) (ab (.int 1))) ar))) ar))) [.val (.ref i),.val (.ref v),.val (fX j me 0 st kp w),s3,s4,.val (.lst ((aB.map (·.k)).map bx))]) (a.fills fun i=>((aB++[cz.mk j kp w]:List cz).map (·.k)).contains i):=by
 have a7:=Cf ((aB++[cz.mk j kp w]:List cz).map (·.k)) 6 a (by have:=ao.2.1;omega) ao.1;have e:(((aB++[cz.mk j kp w]:List cz).map (·.k)).map bx)=(aB.map (·.k)).map bx++[bx j]:=by rw[aiG,aiG];rfl
 rw[e]at a7;exact dG (h2 (rs:=[.v (enc a),.fr ((aB.map (·.k)).map bx++[bx j])]) (cO (dy (x:=.v (cR a k)) rfl (dy (x:=.v (dh a k)) rfl (w_get h rfl (aI▸rfl)) (.of rfl)) (.of rfl)) (cO (.of (bN (wQ (by rw[ahJ,ahJ];show _+1<=_;exact vp (by omega))) rfl (r9 (cons_of (bN rfl rfl rfl) rfl) rfl (ah7 rfl)))) eQ)) (.of a7))
end
section
variable{a k:aT}(ao:Good a)(az:Good k){d:D}{me tp:Int}{st:dx}{aB:List cz}{as:List D}{km r6:Nat}{ts sR:D}{j:Nat}{kp:dx}{w:D}(aj:aB.length<900)(c:(aB.map (·.k)).contains j=false)
include ao aj c
theorem V7(f:(a.fills fun i=>((aB++[cz.mk j kp w]:List cz).map (·.k)).contains i)=false)
  (he:(eo me (cR a k) d tp st aB false km ts).Do m2 [fX j me 0 st kp w] [] (eo me (cR a k) d tp st (aB++[cz.mk j kp w]) false km ts)) :
  p2 ph [fX j me 0 st kp w] (eo me (cR a k) d tp st aB false km ts) ⟨dh a k,d,tp,st,aB,false,as⟩ (eo me (cR a k) d tp st (aB++[cz.mk j kp w]) false km ts) ⟨dh a k,d,tp,st,aB++[cz.mk j kp w],false,as⟩:=vG rfl fun S i g v q h=>
 xD h he (by show aB.length<1000;omega) fun S g q h=>
 Iu aj c h fun S g q h=>⟨_,_,_,DD (f▸Iv ao aj h rfl _ _) (vj h (.of rfl)),fun S g q h=>xE h C9 rfl rfl rfl _ _⟩
include az
theorem V8(f:(a.fills fun i=>((aB++[cz.mk j kp w]:List cz).map (·.k)).contains i)=true){nq:D}(abW:c8 d=.val d)(hd:se [((aB++[cz.mk j kp w]).foldl dF ((0,0),i5)).2,.int me,.int 1,d]=pure (.v nq))
  (bF:Ok 13 (.lst ((dc a k).map (jO me 0 st (.tup [cx ((aB++[cz.mk j kp w]).foldl dF ((0,0),i5)).1,.int 1,d,nq])))))
  (he:(eo me (cR a k) d tp st aB false km ts).Do m2 [fX j me 0 st kp w] ((dc a k).map (jO me 0 st (.tup [cx ((aB++[cz.mk j kp w]).foldl dF ((0,0),i5)).1,.int 1,d,nq]))) (eo me (cR a k) d tp st (aB++[cz.mk j kp w]) true r6 sR)) :
  p2 ph [fX j me 0 st kp w] (eo me (cR a k) d tp st aB false km ts) ⟨dh a k,d,tp,st,aB,false,as⟩ (eo me (cR a k) d tp st (aB++[cz.mk j kp w]) true r6 sR) ⟨dh a k,d,tp,st,aB++[cz.mk j kp w],true,as⟩:=by
 have tl:=Jv ao az me st 1 abW hd;generalize(dc a k).map (jO me 0 st (.tup [cx ((aB++[cz.mk j kp w]).foldl dF ((0,0),i5)).1,.int 1,d,nq]))=Y at *;exact vG rfl fun S i g v q h=>
  xD h he (by show aB.length<1000;omega) fun S g q h=>
  Iu aj c h fun S g q h=>⟨[.val (.ref i),.val (.ref v),.val (fX j me 0 st kp w),.val (.lst Y),.val (.lst Y),.val (.lst ((aB.map (·.k)).map bx))],_,_,Lx (f▸Iv ao aj h rfl _ _)
   (oh (vk h ⟨dh a k,d,tp,st,aB++[cz.mk j kp w],true,as⟩ rfl (.of rfl) rfl rfl rfl) fun S g q h=>vj h (uv (r:=.fr Y) (h2 (cO (.of rfl) (cO (w_get h rfl rfl) (cO (w_get h rfl rfl) (cO (.of rfl) (cO (w_get h rfl rfl) (cO (NB h rfl) eQ)))))) (.of tl)) rfl)),
   fun S g q h=>xE h bF rfl rfl rfl _ _⟩
end
theorem DJ(r:aT):c8 (enc r)=.val (enc r):=by cases r;rw[rH];rfl;rw[qa];rfl
theorem T7{a k:aT}(ao:Good a)(az:Good k):vX (cR a k) (dc a k) (fun m=>a.fills (g8 m)) (fun m=>k.fills (g8 m)) where
 mem:=CF ao az
 len:=qJ a k
 lt:=fun _ h=>ym h
 ne:=fun z=>by have:=CE (k:=k) ao;rw[z]at this;cases this
 ex:=⟨enc a,enc k,rfl,DJ a,DJ k,fun m=>AV m 12 a (by have:=ao.2.1;omega) ao.1,fun m=>AV m 12 k (by have:=az.2.1;omega) az.1⟩
theorem Gq{br:List Nat}(az:∀k∈br,k<6)(aZ:j<6):g8 (maskOf br) j=br.contains j:=by
 rw[J4 br az];exact J' _ j aZ
theorem Ta{a:aT}(ao:a.wf){br:List Nat}(az:∀k∈br,k<6):a.fills (g8 (maskOf br))=a.fills fun i=>br.contains i:=Hn a fun i ay=>Gq az (sj a ao i ay)
def oz(a k:aT)(W:List (List Nat))(me:Int)(ff:D):Prop:=(∃j s kp w,j∈dc a k/\ff=fX j me 0 s kp w/\iA W kp w)\/∃j s p,ff=ux j me 0 s p
theorem Xm(h:iA W s w):c8 w=.val w:=by
 rcases h with⟨_,rfl⟩ | ⟨_,t,rfl,_⟩<;>rfl
theorem C_(s:dx)(h:1<=n):Ok n (cx s):=pz (n:=1) (yx h5 h5) h
theorem YP(hd:Ok 10 d)(hw:Ok 10 w)(me n:Int)(st b:dx){ms:List Nat}(aj:ms.length<=6):Ok 13 (.lst (ms.map (jO me 0 st (.tup [cx b,.int n,d,w])))):=
 C8 (n:=12) (by rw[ahJ];omega) fun x ah=>by
  obtain⟨j,_,rfl⟩:=aiK.mp ah;exact Kt (n:=11) (oc u1) h5 h5 h5 (C_ st (by decide)) (Ks (n:=10) (C_ b (by decide)) h5 hd hw)
theorem YM{G:D->Prop}(eg:e5 d)(hd:kU G W d):Ok 10 d.D:=by
 rcases eg with⟨a,m,rfl⟩ | ⟨a,m,rfl⟩
 ·exact pz (n:=1) (C2 (oc (by decide +kernel)) (oc hd.1.1) h5) (by decide)
 ·exact pz (n:=1) (C2 (oc (by decide +kernel)) (oc hd.1.1) h5) (by decide)
section
variable{a k:aT}(ao:Good a)(az:Good k){W:List (List Nat)}(gg:W.length<59){d:hK}(eg:e5 d)(hd:kU (fun _=>False) W d){me tp:Int}(m0:0<=me)(m1:me<6){st:dx}{aB:List cz}{tl:Bool}{km:Nat}{ts:D}(as:List D)(aj:aB.length<50)(aS:∀g∈aB,iA W g.s g.w/\g.k<6)
include ao az gg eg hd m0 m1 aj aS
theorem Vu(h:oz a k W me ff):∃sQ i7 y3 r6 sR,p2 ph [ff] (eo me (cR a k) d.D tp st aB tl km ts) ⟨dh a k,d.D,tp,st,aB,tl,as⟩ (eo me (cR a k) d.D sQ st i7 y3 r6 sR) ⟨dh a k,d.D,sQ,st,i7,y3,as⟩/\(∀g∈i7,iA W g.s g.w/\g.k<6)/\i7.length<=aB.length+1/\tp<=sQ:=by
 have H:=T7 ao az;have aC:(eo me (cR a k) d.D tp st aB tl km ts).pZ:=by cases tl;exact .inr (.inl rfl);exact .inr (.inr rfl)
 rcases h with⟨j,s,kp,w,aZ,rfl,hw⟩ | ⟨j,s,p,rfl⟩
 ·have sw:=Xm hw
  have xP:=ym aZ;have WJ:(dc a k).contains j=true:=List.contains_iff_mem.mpr aZ;have WL:∀x∈aB.map (·.k),x<6:=fun x ah=>by obtain⟨g,rX,rfl⟩:=aiK.mp ah;exact(aS g rX).2
  have tW:∀g∈aB,g.k<6:=fun g h=>(aS g h).2
  by_cases q:s=st
  ·subst q
   have nw:(eo me (cR a k) d.D tp s aB tl km ts).now (dc a k) j 0 s=true:=by unfold c_.now;rw[WJ];simp[eo]
   cases tl with
   | true=>exact⟨tp,aB,true,km,ts,BF (by omega) (Vm H aC nw (show ¬("telling":Str)="asking" by decide)) (.inr (.inl rfl)),aS,akl _,akI _⟩|false=>
    have bm:=Gq WL xP
    cases c:(aB.map (·.k)).contains j with
    |true=>
     rw[c]at bm;exact⟨tp,aB,false,km,ts,BF (by omega) (Bo H aC nw rfl (Vo (a:=eo me (cR a k) d.D tp s aB false km ts) tW (by show aB.length<60;omega) bm)) (.inr (.inr c)),aS,akl _,akI _⟩
    |false=>
     rw[c]at bm;have rX:∀g∈aB++[cz.mk j kp w],iA W g.s g.w/\g.k<6:=fun g h=>by
      rcases aiL.mp h with h | h
      ·exact aS g h
      ·rw[aij.mp h];exact⟨hw,xP⟩
     have WM:∀x∈(aB++[cz.mk j kp w]).map (·.k),x<6:=fun x ah=>by obtain⟨g,h',rfl⟩:=aiK.mp ah;exact(rX g h').2
     have w':=Ta ao.1 WM;have iO:(aB++[cz.mk j kp w]).length<=aB.length+1:=by rw[ahS];exact ahM _
     cases f:a.fills fun i=>((aB++[cz.mk j kp w]).map (·.k)).contains i with
     |false=>
      rw[f]at w';exact⟨tp,_,false,km,ts,V7 ao (by omega) c f (Bo H aC nw rfl (Vl (a:=eo me (cR a k) d.D tp s aB false km ts) H tW (by show aB.length<60;omega) xP bm w')),rX,iO,akI _⟩
     |true=>
      rw[f]at w';have Ib:∀g∈aB++[cz.mk j kp w],iA W g.s g.w:=fun g h=>(rX g h).1
      obtain⟨t,w6,tok,y5⟩:=Gj Ib;have cA:c8 d.D=.val d.D:=by rcases eg with⟨a,m,rfl⟩ | ⟨a,m,rfl⟩<;>rfl
      have Sy:d.D≠.aW:=by rcases eg with⟨a,m,rfl⟩ | ⟨a,m,rfl⟩<;>exact fun z=>by cases z
      have G_:∀x,some d=some x->kU (fun _=>False) W x:=fun x ah=>by cases ah;exact hd
      have fz:=Ju tok y5 gg me (n:=1) (by decide) eg hd;have cN:=SA tok (by omega) me 1 G_;have YD:Ok 10 (kj t me 1 (some d)).D:=ih.ok (G' tok m0 m1 1 G_) (by omega) fun z hz=>hz.elim
      obtain⟨p,ps,cI⟩:∃p ps,aB++[cz.mk j kp w]=p::ps:=by cases aB with | nil=>exact⟨_,_,rfl⟩ | cons p ps=>exact⟨_,_,rfl⟩
      have ay:=Qw (W:=W) (p:=p) (ps:=ps) (by rw[<-cI];exact Ib) i5;rw[<-cI]at ay;have go:=TK (a:=(eo me (cR a k) d.D tp s aB false km ts).got j kp w) (ms:=dc a k) (s:=((aB++[cz.mk j kp w]).foldl dF ((0,0),i5)).1) (w:=t.D) H.mem H.len Sy (t:=(kj t me 1 (some d)).D) cN;rw[<-w6,<-ay]at go;rw[<-w6]at fz;exact⟨tp,_,true,0,(kj t me 1 (some d)).D,V8 ao az (by omega) c f cA fz (YP (YM eg hd) YD me 1 s _ H.len) (Bo H aC nw rfl (Vn (a:=eo me (cR a k) d.D tp s aB false km ts) H tW (by show aB.length<60;omega) xP cI rfl bm w' go)),rX,iO,akI _⟩
  ·have nw:(eo me (cR a k) d.D tp st aB tl km ts).now (dc a k) j 0 s=false:=by unfold c_.now;rw[show decide (s=(eo me (cR a k) d.D tp st aB tl km ts).st)=false from decide_eq_false q];simp
   exact⟨tp,aB,tl,km,ts,BF (by omega) (Vq (a:=eo me (cR a k) d.D tp st aB tl km ts) H (.str "grant") (.tup [cx kp,w]) t2 nw) (.inl q),aS,akl _,akI _⟩
 ·exact⟨_,aB,tl,km,ts,V6 (by omega) j s p,aS,akl _,by split<;>omega⟩
end
theorem YL(me:Int)(st:dx){ms:List Nat}(aj:ms.length<=6):Ok 13 (.lst (ms.map (eO me 0 st))):=
 C8 (n:=12) (by rw[ahJ];omega) fun x ah=>by
  obtain⟨j,_,rfl⟩:=aiK.mp ah;exact Kt (n:=11) (oc u0) h5 h5 h5 (C_ st (by decide)) (C1 (n:=10))
section
variable{a k:aT}(ao:Good a)(az:Good k){d:D}{me tp:Int}{st:dx}{aB:List cz}{tl:Bool}{km:Nat}{ts:D}(as:List D)
include ao az
theorem aaA:p2 yj [.int me] (eo me (cR a k) d tp st aB tl km ts) ⟨dh a k,d,tp,st,aB,tl,as⟩ (eo me (cR a k) d (tp+1) (tp+1,me) [] false km ts) ⟨dh a k,d,tp+1,(tp+1,me),[],false,(dc a k).map (eO me 0 (tp+1,me))⟩:=by
 have aC:(eo me (cR a k) d tp st aB tl km ts).pZ:=by cases tl;exact .inr (.inl rfl);exact .inr (.inr rfl)
 have CJ:(eo me (cR a k) d tp st aB tl km ts).fS≠"calm":=by cases tl;exact(show ¬("asking":Str)="calm" by decide);exact(show ¬("telling":Str)="calm" by decide)
 have aA:(eo me (cR a k) d tp st aB tl km ts).Do x' [] ((dc a k).map (eO me 0 (tp+1,me))) (eo me (cR a k) d (tp+1) (tp+1,me) [] false km ts):=Qv (a:=eo me (cR a k) d tp st aB tl km ts) (CF ao az) (qJ a k) aC CJ;have x3:=Js ao az me (tp+1,me);have YG:=YL me (tp+1,me) (qJ a k);generalize(dc a k).map (eO me 0 (tp+1,me))=Y at *;exact vG rfl fun S i g w q h=>
  oh (vk h ⟨dh a k,d,tp+1,st,aB,tl,as⟩ rfl (dy rfl (w_get h rfl rfl) (.of rfl)) rfl rfl rfl) fun S g q h=>
  oh (vk h ⟨dh a k,d,tp+1,(tp+1,me),aB,tl,as⟩ rfl (B0 (cO (w_get h rfl rfl) (cO (.of rfl) eQ)) rfl (ah7 rfl)) rfl rfl rfl) fun S g q h=>
  oh (aaG h ⟨dh a k,d,tp+1,(tp+1,me),[],tl,as⟩ rfl (fun _=>rfl) rfl) fun S g q h=>
  oh (vk h ⟨dh a k,d,tp+1,(tp+1,me),[],false,as⟩ rfl (.of rfl) rfl rfl rfl) fun S g q h=>
  oh (aaE h ⟨dh a k,d,tp+1,(tp+1,me),[],false,Y⟩ aA rfl rfl rfl rfl rfl) fun S g q h=>
  vj h (uu (h2 (rs:=[.v (.lst Y),.fr Y]) (cO (w_get h rfl rfl) (cO (h2 (cO (.of rfl) (cO (w_get h rfl rfl) (cO (w_get h rfl rfl) eQ))) (.of x3)) eQ)) (.of (same_refl 13 _ YG))))
end
def th(s:Int)(W:List (List Nat)):Prop:=∀j:Int,0<=j->j<3->∃a∈W,sg [.int (s+64*j)]=pure (.v (.str (cy a)))/\pT a
theorem Yr(s:Int):∃W:List (List Nat),W.length<59/\th s W:=by
 obtain⟨wg,dU,h0⟩:=Ci (s+64*0);obtain⟨a1,aq,ae⟩:=Ci (s+64*1);obtain⟨a2,aD,ag⟩:=Ci (s+64*2);refine⟨[wg,a1,a2],ah7 rfl,fun j ahh ahi=>?_⟩;rcases(by omega:j=0\/j=1\/j=2)with rfl | rfl | rfl
 ·exact⟨wg,by simp,dU,h0⟩
 ·exact⟨a1,by simp,aq,ae⟩
 ·exact⟨a2,by simp,aD,ag⟩
theorem Jt{s:Int}(gg:th s W)(c:Int):∃d:hK,qI [.int c,.int s]=pure (.v d.D)/\e5 d/\kU (fun _=>False) W d/\Ex d.D:=by
 have bK:=mod_lt (a:=c / 6) (b:=3) (by decide);have ag6:=mod_lt (a:=c / 6) (b:=10 ^ 40) (by decide);obtain⟨l,B6,aq,aj⟩:=gg (c / 6 % 3) bK.1 bK.2;have Q':nv 64 (c / 6 % 3):=.inl ⟨by decide,by decide⟩;have nq:kh l:=⟨aj.ok,aj.p1,aj.yD⟩;have Z9:af l8 (ab (.int 10)) (ab (.int 40)) [.val (.int c),.val (.int s),.emp]=pure (.v (.int (10 ^ 40))):=bN (Di ⟨by decide,by decide,by decide⟩ rfl) rfl rfl;have nm:∀x:Slot,bJ sg (U (af hx (J 1) (af uX (ab (.int 64)) (af oMod (af fR (J 0) (ab (.int 6))) (ab (.int 3))))) ar) [.val (.int c),.val (.int s),x]=pure (.v (.str (cy l))):=fun x=>call_of (rs:=[.v (.int (s+64*(c / 6 % 3)))]) (cons_of (bN rfl rfl (bN (Yc Q') rfl (bN (hv (by decide)) (bN (lI (iG (by decide) (by decide))) rfl rfl) rfl))) rfl) aq
 have cv:cg 2 (af oMod (af fR (J 0) (ab (.int 6))) (af l8 (ab (.int 10)) (ab (.int 40)))) [.val (.int c),.val (.int s),.emp]=pure (.bq [.val (.int c),.val (.int s),.val (.int (c / 6 % 10 ^ 40))]):=e1 (bN (hv (by decide)) (bN (lI (iG (by decide) (by decide))) rfl rfl) Z9);generalize c / 6 % 10 ^ 40=X at *;obtain⟨n,aH,aD⟩:∃n:Int,(-(10 ^ 60)<n/\n<10 ^ 60)/\FG [.val (.int c),.val (.int s),.val (.int X)]=FH [.val (.int c),.val (.int s),.val (.int n)]:=by
  by_cases q:c % 5=0
  ·exact⟨0-X,by omega,er ((k9 (c7 (bN (kk.trans (by rw[decide_eq_true q])) (bN (hv (by decide)) rfl rfl) rfl))).trans (e1 rfl))⟩
  ·exact⟨X,by omega,jg (c7 (bN (kk.trans (by rw[decide_eq_false q])) (bN (hv (by decide)) rfl rfl) rfl))⟩
 have cQ:∀w:Str,ed [D.str "put",.str "add",.str "add"] (c % 3)=some (.str w)->qI [.int c,.int s]=pure (.v (.tup [.str w,.str (cy l),.int n])):=fun w rJ=>
  lO rfl ((er cv).trans (aD.trans (lj (M5 (bN (IV rJ) (r9 rfl rfl (ah7 rfl)) (bN (hv (by decide)) rfl rfl)) (nm _) rfl))))
 have i6:=mod_lt (a:=c) (b:=3) (by decide);rcases(by omega:c % 3=0\/c % 3=1\/c % 3=2)with h | h | h
 ·exact⟨.put l n,cQ "put" (by rw[h];rfl),.inl ⟨l,n,rfl⟩,⟨nq,B6⟩,⟨"put",l,n,rfl,To,aj,aH⟩⟩
 ·exact⟨.add l n,cQ "add" (by rw[h];rfl),.inr ⟨l,n,rfl⟩,⟨nq,B6⟩,⟨"add",l,n,rfl,Hv,aj,aH⟩⟩
 ·exact⟨.add l n,cQ "add" (by rw[h];rfl),.inr ⟨l,n,rfl⟩,⟨nq,B6⟩,⟨"add",l,n,rfl,Hv,aj,aH⟩⟩
theorem Cm(xs:List D):gX [.mv xs]=pure (.v (.int (xs.length:Nat))):=rfl
theorem WD{i:Int}{v:D}(e:ed xs i=some v):aN (.mv xs) (.v (.int i))=pure (.v v):=by
 show(match ed xs i with | some d=>pure (R.v d) | none=>bad)=_;rw[e]
section
variable{a k:aT}{W:List (List Nat)}{me:Int}{aw:List (List Key×D)}(aa:iz W aw)
include aa
theorem Vr{S:ck}(cq:S[bn]? = some (.dT aw))(hz:aw.length<1000)(aZ:j∈dc a k)(h0:0<=st.1):∃ff dO,bT S (m4 [.ref bn,eO me 0 st j]) (.v ff) (S.set bn (.dT dO))/\oz a k W me ff/\c8 ff=.val ff/\iz W dO/\dO.length<=aw.length+1:=by
 obtain⟨pr,kp,w,aI,iR,az⟩:=aa j
 cases jw:f' st pr with
 |true=>exact⟨_,_,Ia aI cq hz jw,.inl ⟨j,st,kp,w,aZ,rfl,az⟩,rfl,aa.put j h0 az,Aw _ _ _⟩| false=>exact⟨_,aw,by rw[set_same cq];exact Vt aI cq jw,.inr ⟨j,st,pr,rfl⟩,rfl,aa,akl _⟩
end
structure iE where
 tp:Int
 st:dx
 aB:List cz
 tl:Bool
 km:Nat
 ts:D
 aw:List (List Key×D)
 an:List D
structure iE.Ok(a k:aT)(W:List (List Nat))(me:Int)(i:Nat)(o:iE):Prop where
 tp:0<=o.tp
 st:0<=o.st.1
 aB:∀g∈o.aB,iA W g.s g.w/\g.k<6
 gl:o.aB.length<=i
 eP:iz W o.aw
 qC:o.aw.length<=13*i
 an:∀x∈o.an,oz a k W me x
 al:o.an.length<=i
def iE.At(a k:aT)(me:Int)(d:D)(i w b:Nat)(S:ck)(o:iE):Prop:=∃g q,fJ S i g w q (eo me (cR a k) d o.tp o.st o.aB o.tl o.km o.ts) ⟨dh a k,d,o.tp,o.st,o.aB,o.tl,(dc a k).map (eO me 0 o.st)⟩/\S[b]? = some (.dT o.aw)
def hX(a k:aT)(me seed:Int)(d:D)(i w b:Nat)(an:List D)(s0 jf iU gu ea g4:Slot):aO:=[s0,.val (cR a k),.val (.int me),.val (.int seed),.val d,.val (dh a k),.val (.ref i),.val (.ref w),.val (.ref b),.dZ false an,jf,iU,gu,ea,g4]
theorem fJ.book{S au:ck}{i g w q g' eA b:Nat}{A s':c_}{n e0:gy}{aw:List (List Key×D)}(h:fJ S i g w q A n)(s:mF S au i g w q g' eA s' e0)(aa:S[b]? = some (.dT aw)):au[b]? = some (.dT aw):=s.fr _ _ (fun z=>by
 simp only[ahP,ajc,or_false]at z;rcases z with rfl | rfl | rfl | rfl
 ·rw[h.fy.bA]at aa;cases aa
 ·rw[h.fy.ls]at aa;cases aa
 ·rw[h.d_]at aa;cases aa
 ·rw[h.ls]at aa;cases aa) aa
theorem iE.At.book{a k:aT}{me:Int}{d:D}{i w b:Nat}{S:ck}{o:iE}(h:o.At a k me d i w b S)(aw:List (List Key×D)):({ o with aw:=aw }:iE).At a k me d i w b (S.set b (.dT aw)):=by
 obtain⟨g,q,h,aa⟩:=h;have ne:∀{j:Nat}{x:gR},S[j]? = some x->(∀l,x≠.dT l)->(S.set b (.dT aw))[j]? = some x:=fun{j x} e n=>by
  rw[ahZ (fun z:b=j=>by rw[z,e]at aa;exact n _ (aih aa))];exact e
 exact⟨g,q,⟨⟨ne h.fy.bA (fun _ z=>nomatch z),ne h.fy.ls (fun _ z=>nomatch z)⟩,ne h.d_ (fun _ z=>nomatch z),ne h.ls (fun _ z=>nomatch z),h.ne⟩,get_set aa⟩
section
variable{a k:aT}(ao:Good a)(az:Good k){W:List (List Nat)}(gg:W.length<59){me seed:Int}(cq:th seed W){d:hK}{ia wa bn:Nat}(s0 ea g4:Slot){i:Nat}(ay:i<40)(c:Int){o:iE}(ok:o.Ok a k W me i){S:ck}(at':o.At a k me d.D ia wa bn S)
def Xr:bp:=(bS (cj (cg 13 (af oMod (af hx (af hx (J 2) (ab (.int 1))) (af oMod (af fR (J 11) (ab (.int 8))) (ab (.int 5)))) (ab (.int 6)))))
  (rg (ka uF (gw (U (J 8) (U (J 5) (U (J 13) (U (af hx (J 10) (ab (.int 1))) (U (bJ qI (U (af oMod (af fR (J 11) (ab (.int 40))) (af l8 (ab (.int 10)) (ab (.int 50)))) (U (J 3) ar))) (U (af fR (J 11) (ab (.int 40))) ar))))))))))
def Xu:bp:=(fD (rj (rk (ka yj (gw (U (J 6) (U (J 7) (U (J 2) ar))))))) (cj (bE (ab (.aA false)))) (cj cH))
def Xt:a0:=(c4 (g5 (bg (af oEq (J 12) (ab (.int 2)))) (bg (af su (cC gX (U (J 9) ar)) (ab (.int 0))))) (cg 14 (af aN (J 9) (af oMod (af fR (J 11) (ab (.int 8))) (cC gX (U (J 9) ar))))) cH)
def Xs:bp:=(bS (cj (ki 9 h9 (U (J 14) ar)))
  (fD (rj (rk (ka ph (gw (U (J 6) (U (J 7) (U (J 14) ar))))))) (cj (bE (ab (.aA false)))) (cj cH)))
def Xq:bp:=(kP 14 (ka m4 (gw (U (J 8) (U (af aN (af d8 (J 7) (ab (.str "asks"))) (af oMod (af fR (J 11) (ab (.int 8))) (cC gX (U (af d8 (J 7) (ab (.str "asks"))) ar)))) ar)))))
include ao az ok ay gg cq at'
theorem S3:∃(o':iE)(qX:Slot)(au:ck),bT S (Xr (hX a k me seed d.D ia wa bn o.an s0 (.val (.int (i:Nat))) (.val (.int c)) (.val (.int (c % 8))) ea g4)) (.bq (hX a k me seed d.D ia wa bn o'.an s0 (.val (.int (i:Nat))) (.val (.int c)) (.val (.int (c % 8))) qX g4)) au/\o'.Ok a k W me (i+1)/\o'.At a k me d.D ia wa bn au:=by
 have g:=mod_lt (a:=me+1+c / 8 % 5) (b:=6) (by decide);obtain⟨d',aq,Zg,ub,_⟩:=Jt cq (c / 40 % 10 ^ 50);obtain⟨dO,e,aa,aj⟩:=XA ao az gg at'.choose_spec.choose_spec.2 ok.eP (by have:=ok.qC;omega) g.1 g.2 (n:=(i:Nat)+1) (by omega) Zg ub (c / 40);refine⟨{ o with aw:=dO },.val (.int ((me+1+c / 8 % 5) % 6)),_,?_,⟨ok.tp,ok.st,ok.aB,by have:=ok.gl;show o.aB.length<=_;omega,aa,by have:=ok.qC;show dO.length<=_;omega,ok.an,by have:=ok.al;show o.an.length<=_;omega⟩,at'.book dO⟩;exact dH (σ':=hX a k me seed d.D ia wa bn o.an s0 (.val (.int (i:Nat))) (.val (.int c)) (.val (.int (c % 8))) (.val (.int ((me+1+c / 8 % 5) % 6))) g4) (aR.of (e1 (bN (hv (by decide)) (bN rfl (bN rfl rfl rfl) (bN (hv (by decide)) (bN (lI (iG (by decide) (by decide))) rfl rfl) rfl)) rfl))).to<|
  Eh (x_call (rs:=[.v (.ref bn),.v (dh a k),.v (.int ((me+1+c / 8 % 5) % 6)),.v (.int ((i:Nat)+1)),.v d'.D,.v (.int (c / 40))]) (.of (cons_of rfl (cons_of rfl (cons_of rfl (cons_of rfl (cons_of (call_of (rs:=[.v (.int (c / 40 % 10 ^ 50)),.v (.int seed)]) (cons_of (bN (hv (by decide)) (bN (lI (iG (by decide) (by decide))) rfl rfl) (bN (Di ⟨by decide,by decide,by decide⟩ rfl) rfl rfl)) rfl) aq) (cons_of (bN (lI (iG (by decide) (by decide))) rfl rfl) rfl))))))) rfl e)
omit gg cq in
theorem S6:∃(o':iE)(au:ck),bT S (Xu (hX a k me seed d.D ia wa bn o.an s0 (.val (.int (i:Nat))) (.val (.int c)) (.val (.int (c % 8))) ea g4)) (.bq (hX a k me seed d.D ia wa bn o'.an s0 (.val (.int (i:Nat))) (.val (.int c)) (.val (.int (c % 8))) ea g4)) au/\o'.Ok a k W me (i+1)/\o'.At a k me d.D ia wa bn au:=by
 obtain⟨g,q,h,aa⟩:=at';obtain⟨au,g',eA,t,s⟩:=aaA ao az _ S ia g wa q h;refine⟨⟨o.tp+1,(o.tp+1,me),[],false,o.km,o.ts,o.aw,o.an⟩,au,?_,⟨by have:=ok.tp;show 0<=o.tp+1;omega,by have:=ok.tp;show 0<=o.tp+1;omega,fun _ h=>(nomatch h),aib _,ok.eP,by have:=ok.qC;show o.aw.length<=_;omega,ok.an,by have:=ok.al;show o.an.length<=_;omega⟩,g',eA,s.at',h.book s aa⟩;exact mm (NO (NI (x_call (rs:=[.v (.ref ia),.v (.ref wa),.v (.int me)]) (.of rfl) rfl t))) rfl
end
section
variable{a k:aT}(ao:Good a)(az:Good k){W:List (List Nat)}(gg:W.length<59){me seed:Int}(m0:0<=me)(m1:me<6)(cq:th seed W){d:hK}(eg:e5 d)(hd:kU (fun _=>False) W d){ia wa bn:Nat}(s0 gu ea g4:Slot){i:Nat}(ay:i<40)(c:Int){o:iE}(ok:o.Ok a k W me i){S:ck}(at':o.At a k me d.D ia wa bn S)
include ao ok ay at'
theorem S2:∃(ff:D)(dO:List (List Key×D)),bT S (Xq (hX a k me seed d.D ia wa bn o.an s0 (.val (.int (i:Nat))) (.val (.int c)) (.val (.int (c % 8))) ea g4)) (.bq (hX a k me seed d.D ia wa bn o.an s0 (.val (.int (i:Nat))) (.val (.int c)) (.val (.int (c % 8))) ea (.val ff))) (S.set bn (.dT dO))/\oz a k W me ff/\iz W dO/\dO.length<=o.aw.length+1:=by
 have pd:=CE (k:=k) ao;have iO:((dc a k).map (eO me 0 o.st)).length=(dc a k).length:=ahJ _;have r:=mod_lt (a:=c / 8) (b:=(((dc a k).map (eO me 0 o.st)).length:Nat)) (by rw[iO];omega);obtain⟨j,aZ⟩:∃j,(dc a k)[(c / 8 % (((dc a k).map (eO me 0 o.st)).length:Nat)).toNat]? = some j:=⟨_,ait (by rw[iO]at r ⊢;omega)⟩;obtain⟨g,q,h,aa⟩:=at';obtain⟨ff,dO,e,ae,_,ag,bK⟩:=Vr (k:=k) (a:=a) (me:=me) ok.eP aa (by have:=ok.qC;omega) (aiw aZ) ok.st;have fN:=WC (xs:=(dc a k).map (eO me 0 o.st)) (i:=c / 8 % (((dc a k).map (eO me 0 o.st)).length:Nat)) (v:=eO me 0 o.st j) (by
  have:=nC (xs:=(dc a k).map (eO me 0 o.st)) (c / 8 % (((dc a k).map (eO me 0 o.st)).length:Nat)).toNat (v:=eO me 0 o.st j) (by rw[aia,aZ];rfl)
  rwa[Int.toNat_of_nonneg r.1]at this)
 have dl:ik (gy.L ⟨dh a k,d.D,o.tp,o.st,o.aB,o.tl,(dc a k).map (eO me 0 o.st)⟩ q) (.inr "asks")=some (.lst ((dc a k).map (eO me 0 o.st))):=rfl;exact⟨ff,dO,vL (x_call (rs:=[.v (.ref bn),.v (eO me 0 o.st j)]) (cO (.of rfl) (cO (dy fN (w_get h rfl dl) (dy (hv (by rw[iO];omega)) (.of (bN (lI (iG (by decide) (by decide))) rfl rfl)) (ur rfl (cO (w_get h rfl dl) eQ)))) eQ)) rfl e) rfl,ae,ag,bK⟩
omit ao ay ok at' in
theorem S5(T9:∀x∈o.an,oz a k W me x)(h:oz a k W me ff):∃x:D,Xt (hX a k me seed d.D ia wa bn o.an s0 (.val (.int (i:Nat))) (.val (.int c)) (.val (.int (c % 8))) ea (.val ff))=pure (.bq (hX a k me seed d.D ia wa bn o.an s0 (.val (.int (i:Nat))) (.val (.int c)) (.val (.int (c % 8))) ea (.val x)))/\oz a k W me x:=by
 by_cases q:c % 8=2
 ·have t1:bg (af oEq (J 12) (ab (.int 2))) (hX a k me seed d.D ia wa bn o.an s0 (.val (.int (i:Nat))) (.val (.int c)) (.val (.int (c % 8))) ea (.val ff))=pure true:=c7 (bN (kk.trans (by rw[decide_eq_true q])) rfl rfl)
  by_cases z:o.an.length=0
  ·exact⟨ff,mV ((zI t1).trans (c7 (bN (xk.trans (by rw[z];rfl)) (jX (Cm _) rfl) rfl))),h⟩
  ·have r:=mod_lt (a:=c / 8) (b:=(o.an.length:Nat)) (by omega)
   obtain⟨x,ex⟩:=zN (xs:=o.an) r.1 r.2;exact⟨x,(k9 ((zI t1).trans (c7 (bN (xk.trans (by rw[decide_eq_true (show(o.an.length:Int) > 0 by omega)])) (jX (Cm _) rfl) rfl)))).trans (e1 (bN (WD ex) rfl (bN (hv (by omega)) (bN (lI (iG (by decide) (by decide))) rfl rfl) (jX (Cm _) rfl)))),T9 x (zM ex)⟩
 ·exact⟨ff,mV (ER (c7 (bN (kk.trans (by rw[decide_eq_false q])) rfl rfl))),h⟩
include az gg m0 m1 eg hd
omit at' in
theorem S4(h:oz a k W me x){dO:List (List Key×D)}(at':({ o with aw:=dO }:iE).At a k me d.D ia wa bn S)(iI:iz W dO)(aj:dO.length<=o.aw.length+1):∃(o':iE)(au:ck),bT S (Xs (hX a k me seed d.D ia wa bn o.an s0 (.val (.int (i:Nat))) (.val (.int c)) (.val (.int (c % 8))) ea (.val x))) (.bq (hX a k me seed d.D ia wa bn o'.an s0 (.val (.int (i:Nat))) (.val (.int c)) (.val (.int (c % 8))) ea (.val x))) au/\o'.Ok a k W me (i+1)/\o'.At a k me d.D ia wa bn au:=by
 obtain⟨sQ,i7,y3,r6,sR,e,aS,gl,bG⟩:=Vu ao az gg eg hd m0 m1 (tp:=o.tp) (st:=o.st) (tl:=o.tl) (km:=o.km) (ts:=o.ts) ((dc a k).map (eO me 0 o.st)) (by have:=ok.gl;omega) ok.aB h;obtain⟨g,q,w,aa⟩:=at';obtain⟨au,g',eA,t,s⟩:=e S ia g wa q w;refine⟨⟨sQ,o.st,i7,y3,r6,sR,dO,o.an++[x]⟩,au,?_,⟨by have:=ok.tp;show 0<=sQ;omega,ok.st,aS,by have:=ok.gl;show i7.length<=_;omega,iI,by have:=ok.qC;show dO.length<=_;omega,fun y a'=>?_,by have:=ok.al;show(o.an++[x]).length<=_;rw[ahS];show _+1<=_;omega⟩,g',eA,s.at',w.book s aa⟩
 ·exact dH (σ':=hX a k me seed d.D ia wa bn (o.an++[x]) s0 (.val (.int (i:Nat))) (.val (.int c)) (.val (.int (c % 8))) ea (.val x)) (aR.of (zK (xs:=o.an) rfl (cons_of rfl rfl) (eB (by have:=ok.al;omega)))).to (mm (NO (NI (x_call (rs:=[.v (.ref ia),.v (.ref wa),.v x]) (.of rfl) rfl t))) rfl)
 ·rcases aiL.mp a' with a' | a'
  ·exact ok.an y a'
  ·rw[aij.mp a'];exact h
include cq
theorem S7:∃(o':iE)(DF qX DG:Slot)(au:ck),bT S (x1 (hX a k me seed d.D ia wa bn o.an s0 (.val (.int (i:Nat))) (.val (.int c)) gu ea g4)) (.bq (hX a k me seed d.D ia wa bn o'.an s0 (.val (.int (i:Nat))) (.val (.int c)) DF qX DG)) au/\o'.Ok a k W me (i+1)/\o'.At a k me d.D ia wa bn au:=by
 have st:∀{T:ck},bT T (cj (cg 12 (af oMod (J 11) (ab (.int 8)))) (hX a k me seed d.D ia wa bn o.an s0 (.val (.int (i:Nat))) (.val (.int c)) gu ea g4)) (.bq (hX a k me seed d.D ia wa bn o.an s0 (.val (.int (i:Nat))) (.val (.int c)) (.val (.int (c % 8))) ea g4)) T:=fun{T}=>(aR.of (e1 (bN (hv (by decide)) rfl rfl))).to
 by_cases Dn:c % 8=0
 ·obtain⟨o',qX,au,e,h,t⟩:=S3 ao az gg cq (d:=d) s0 ea g4 ay c ok at'
  exact⟨o',_,qX,g4,au,dH st (mn (aR.of (c7 (bN (kk.trans (by rw[decide_eq_true Dn])) rfl rfl))).to e),h,t⟩
 ·by_cases ba:c % 8=1
  ·obtain⟨o',au,e,h,t⟩:=S6 ao az (seed:=seed) (d:=d) s0 ea g4 ay c ok at'
   exact⟨o',_,ea,g4,au,dH st (mm (aR.of (c7 (bN (kk.trans (by rw[decide_eq_false Dn])) rfl rfl))).to (mn (aR.of (c7 (bN (kk.trans (by rw[decide_eq_true ba])) rfl rfl))).to e)),h,t⟩
  ·obtain⟨ff,dO,aq,ae,ag,bK⟩:=S2 ao (seed:=seed) (d:=d) s0 ea g4 ay c ok at'
   obtain⟨x,aD,ah⟩:=S5 (ia:=ia) (wa:=wa) (bn:=bn) (d:=d) (seed:=seed) s0 ea c (o:=o) (i:=i) ok.an ae;obtain⟨o',au,cQ,h,t⟩:=S4 ao az gg m0 m1 eg hd (seed:=seed) s0 ea ay c ok ah (at'.book dO) ag bK;exact⟨o',_,ea,.val x,au,dH st (mm (aR.of (c7 (bN (kk.trans (by rw[decide_eq_false Dn])) rfl rfl))).to (mm (aR.of (c7 (bN (kk.trans (by rw[decide_eq_false ba])) rfl rfl))).to (dH aq (dH (aR.of aD).to cQ)))),h,t⟩
end
abbrev M6(is:List Nat)(b:bp):D->bp:=fun d σ=>match d with
  |.tup ax=>if ax.length=is.length then b (ix is ax σ)else fi|_=>fi
section
variable{a k:aT}(ao:Good a)(az:Good k){W:List (List Nat)}(gg:W.length<59){me seed:Int}(m0:0<=me)(m1:me<6)(cq:th seed W){d:hK}(eg:e5 d)(hd:kU (fun _=>False) W d){ia wa bn:Nat}(s0:Slot)
include ao az gg m0 m1 eg hd cq
theorem Hg:∀(cs:List Int)(i:Nat)(jf iU gu ea g4:Slot)(o:iE)(S:ck),i+cs.length<=40->o.Ok a k W me i->o.At a k me d.D ia wa bn S->∃σ' au,bT S (kO (M6 [10,11] x1) (hW i (cs.map D.int)) (hX a k me seed d.D ia wa bn o.an s0 jf iU gu ea g4)) (.bq σ') au
 |[],_,_,_,_,_,_,_,S,_,_,_=>⟨_,S,rfl⟩
 |c::cs,i,jf,iU,gu,ea,g4,o,S,aj,ok,at'=>by
  rw[ahX]at aj;obtain⟨o',DF,qX,DG,au,e,YK,t'⟩:=S7 ao az gg m0 m1 cq eg hd s0 gu ea g4 (by omega) c ok at';obtain⟨σ',bj,cf⟩:=Hg cs (i+1) (.val (.int (i:Nat))) (.val (.int c)) DF qX DG o' au (by omega) YK t';exact⟨σ',bj,sZ (b:=M6 [10,11] x1) (d:=.tup [.int (i:Nat),.int c]) (σ:=hX a k me seed d.D ia wa bn o.an s0 jf iU gu ea g4) e cf⟩
end
theorem GZ(ns:List Int)(a b:Nat):∃ms:List Int,cutD (ns.map D.int) (some (a:Int)) (some (b:Int))=ms.map D.int/\ms.length<=b-a:=by
 unfold cutD;rw[dE.vm,dE.vm,<-List.map_drop,<-List.map_take];refine⟨_,rfl,?_⟩;rw[ajH,aiA];simp only[ahJ];omega
theorem XD(ns:List Int)(aH:ns.length<=63):∃au,(Cw [.lst (ns.map D.int)]).run []=.ok (.v (.aA true)) au:=by
 obtain⟨a,k,AE,ao,az⟩:=XB (ns.getD 0 0 % 600);have Ij:=mod_lt (a:=ns.getD 1 0) (b:=6) (by decide);obtain⟨W,gg,cq⟩:=Yr (ns.getD 2 0 % 512);obtain⟨d,dK,eg,hd,dd⟩:=Jt cq (ns.getD 3 0 % 10 ^ 50);obtain⟨cs,lL,cl⟩:=GZ ns 4 44;have z':=wU ns 0;have b2:=wU ns 1;have QK:=wU ns 2;have i6:=wU ns 3;have cA:c8 d.D=.val d.D:=by rcases eg with⟨a,m,rfl⟩ | ⟨a,m,rfl⟩<;>rfl
 have aq:∀t1 eC t3 iy h8 hj ji hE hF hC fk eR fv hD:Slot,cg 1 (bJ uG (U (af oMod (bJ l6 (U (J 0) (U (ab (.int 0)) ar))) (ab (.int 600))) ar)) [.b1 (ns.map D.int),t1,eC,t3,iy,h8,hj,ji,hE,hF,hC,fk,eR,fv,hD]=pure (.bq [.b1 (ns.map D.int),.val (cR a k),eC,t3,iy,h8,hj,ji,hE,hF,hC,fk,eR,fv,hD]):=fun _ _ _ _ _ _ _ _ _ _ _ _ _ _=>
  e1 (call_of (rs:=[.v (.int (ns.getD 0 0 % 600))]) (cons_of (bN (hv (by decide)) (call_of (rs:=[.b1 (ns.map D.int),.v (.int 0)]) rfl z') rfl) rfl) AE)
 have aD:∀t1 eC t3 iy h8 hj ji hE hF hC fk eR fv hD:Slot,cg 2 (af oMod (bJ l6 (U (J 0) (U (ab (.int 1)) ar))) (ab (.int 6))) [.b1 (ns.map D.int),t1,eC,t3,iy,h8,hj,ji,hE,hF,hC,fk,eR,fv,hD]=pure (.bq [.b1 (ns.map D.int),t1,.val (.int (ns.getD 1 0 % 6)),t3,iy,h8,hj,ji,hE,hF,hC,fk,eR,fv,hD]):=fun _ _ _ _ _ _ _ _ _ _ _ _ _ _=>
  e1 (bN (hv (by decide)) (call_of (rs:=[.b1 (ns.map D.int),.v (.int 1)]) rfl b2) rfl)
 have cQ:∀t1 eC t3 iy h8 hj ji hE hF hC fk eR fv hD:Slot,cg 3 (af oMod (bJ l6 (U (J 0) (U (ab (.int 2)) ar))) (ab (.int 512))) [.b1 (ns.map D.int),t1,eC,t3,iy,h8,hj,ji,hE,hF,hC,fk,eR,fv,hD]=pure (.bq [.b1 (ns.map D.int),t1,eC,.val (.int (ns.getD 2 0 % 512)),iy,h8,hj,ji,hE,hF,hC,fk,eR,fv,hD]):=fun _ _ _ _ _ _ _ _ _ _ _ _ _ _=>
  e1 (bN (hv (by decide)) (call_of (rs:=[.b1 (ns.map D.int),.v (.int 2)]) rfl QK) rfl)
 have e8:∀t1 eC iy h8 hj ji hE hF hC fk eR fv hD:Slot,cg 4 (bJ qI (U (af oMod (bJ l6 (U (J 0) (U (ab (.int 3)) ar))) (af l8 (ab (.int 10)) (ab (.int 50)))) (U (J 3) ar))) [.b1 (ns.map D.int),t1,eC,.val (.int (ns.getD 2 0 % 512)),iy,h8,hj,ji,hE,hF,hC,fk,eR,fv,hD]=pure (.bq [.b1 (ns.map D.int),t1,eC,.val (.int (ns.getD 2 0 % 512)),.val d.D,h8,hj,ji,hE,hF,hC,fk,eR,fv,hD]):=fun _ _ _ _ _ _ _ _ _ _ _ _ _=>
  e1 (call_of (rs:=[.v (.int (ns.getD 3 0 % 10 ^ 50)),.v (.int (ns.getD 2 0 % 512))]) (cons_of (bN (hv (by decide)) (call_of (rs:=[.b1 (ns.map D.int),.v (.int 3)]) rfl i6) (bN (Di ⟨by decide,by decide,by decide⟩ rfl) rfl rfl)) rfl) dK)
 generalize ns.getD 1 0 % 6=me at *;generalize ns.getD 2 0 % 512=seed at *;have Qx:(sl me (cR a k)).Do sa [d.D] ((dc a k).map (eO me 0 (1,me))) (eo me (cR a k) d.D 1 (1,me) [] false 0 .aW):=Qu (a:=sl me (cR a k)) (CF ao az) (qJ a k) rfl rfl cA (by rcases eg with⟨a,m,rfl⟩ | ⟨a,m,rfl⟩<;>rfl) (Wv dd);obtain⟨S1,t1,ae,bP⟩:=Wm [] me (cR a k) rfl;have bP:S1.length=2:=bP;have ae:fc S1 0 1 (sl me (cR a k)):=ae;have ag:fc (S1++[.lst [],.d_ [(.inr "place",dh a k),(.inr "deed",d.D),(.inr "top",.int 1),(.inr "stamp",cx (1,me)),(.inr "grants",.ref 2),(.inr "told",.aA false)]]) 0 1 (sl me (cR a k)):=⟨Fr.app (W:=[]) _ _ (ajc) ae.bA,Fr.app (W:=[]) _ _ (ajc) ae.ls⟩;obtain⟨b_,g,t3,s3⟩:=Qx _ _ _ ag;have eF:=s3.fr 2 (.lst []) (by simp) (by rw[ah2 (by omega),bP];rfl);have qy:=s3.fr 3 _ (by simp) (by rw[ah2 (by omega),bP];rfl);have nw:=s3.nw;rw[ahS,bP]at nw;have nw:g=1\/4<=g:=nw;generalize t8:(dc a k).map (eO me 0 (1,me))=Y at *;have at':iE.At a k me d.D 0 3 b_.length (b_.set 3 (.d_ (gy.L ⟨dh a k,d.D,1,(1,me),[],false,Y⟩ 2))++[.dT []]) ⟨1,(1,me),[],false,0,.aW,[],[]⟩:=by
  have ap:∀{j:Nat}{o:gR},j≠3->b_[j]? = some o->(b_.set 3 (.d_ (gy.L ⟨dh a k,d.D,1,(1,me),[],false,Y⟩ 2))++[gR.dT []])[j]? = some o:=fun n e=>Fr.app (W:=[]) _ _ (ajc) (by rw[ahZ (aks n)];exact e)
  refine⟨g,2,⟨⟨ap (by decide) s3.at'.bA,ap (by omega) s3.at'.ls⟩,?_,ap (by decide) eF,by omega⟩,?_⟩
  ·rw[t8];exact Fr.app (W:=[]) _ _ (ajc) (get_set qy)
  ·rw[ah2 (by rw[aiu];exact ahM _),aiu,ajw];rfl
 have C1:iE.Ok a k W me 0 ⟨1,(1,me),[],false,0,.aW,[],[]⟩:=⟨by show(0:Int)<=1;decide,by show(0:Int)<=1;decide,fun _ h=>(nomatch h),ahM _,iz.nil W,ahM _,fun _ h=>(nomatch h),ahM _⟩;obtain⟨σ',au,el⟩:=Hg ao az gg Ij.1 Ij.2 cq eg hd (.b1 (ns.map D.int)) cs 0 .emp .emp .emp .emp .emp ⟨1,(1,me),[],false,0,.aW,[],[]⟩ _ (by omega) C1 at';rw[<-lL]at el;have nJ:∀t3 iy h8 hj ji hE hF hC fk eR fv hD:Slot,bT [] (kP 6 (vK "Asker" x9 (gw (U (J 2) (U (J 1) ar)))) [.b1 (ns.map D.int),.val (cR a k),.val (.int me),t3,iy,h8,hj,ji,hE,hF,hC,fk,eR,fv,hD]) (.bq [.b1 (ns.map D.int),.val (cR a k),.val (.int me),t3,iy,h8,.val (.ref 0),ji,hE,hF,hC,fk,eR,fv,hD]) S1:=fun _ _ _ _ _ _ _ _ _ _ _ _=>vL (aek (rs:=[.v (.int me),.v (cR a k)]) (.of rfl) rfl t1) rfl
 have SK:∀hj ji hE hF hC fk eR fv hD:Slot,bT S1 (kP 7 (zb [.inr "place",.inr "deed",.inr "top",.inr "stamp",.inr "grants",.inr "told"] (jQ (dg (J 5)) (jQ (dg (J 4)) (jQ (dg (ab (.int 1))) (jQ (dg (bB (U (ab (.int 1)) (U (J 2) ar)))) (jQ (nr (dg (dS ar))) (jQ (dg (ab (.aA false))) ml))))))) [.b1 (ns.map D.int),.val (cR a k),.val (.int me),.val (.int seed),.val d.D,.val (dh a k),hj,ji,hE,hF,hC,fk,eR,fv,hD]) (.bq [.b1 (ns.map D.int),.val (cR a k),.val (.int me),.val (.int seed),.val d.D,.val (dh a k),hj,.val (.ref 3),hE,hF,hC,fk,eR,fv,hD]) (S1++[.lst [],.d_ [(.inr "place",dh a k),(.inr "deed",d.D),(.inr "top",.int 1),(.inr "stamp",cx (1,me)),(.inr "grants",.ref 2),(.inr "told",.aA false)]]):=fun _ _ _ _ _ _ _ _ _=>by
  obtain⟨n_,n',rfl⟩:∃n_ n',S1=[n_,n']:=by
   match S1,bP with
   |[n_,n'],_=>exact⟨n_,n',rfl⟩
  rfl
 have SM:∀hE hF hC fk eR fv hD:Slot,bT (S1++[.lst [],.d_ [(.inr "place",dh a k),(.inr "deed",d.D),(.inr "top",.int 1),(.inr "stamp",cx (1,me)),(.inr "grants",.ref 2),(.inr "told",.aA false)]]) (jl (J 7) (ab (.str "asks")) (hI "Asker" "begin" sa (J 6) (gw (U (J 4) ar))) [.b1 (ns.map D.int),.val (cR a k),.val (.int me),.val (.int seed),.val d.D,.val (dh a k),.val (.ref 0),.val (.ref 3),hE,hF,hC,fk,eR,fv,hD]) (.bq [.b1 (ns.map D.int),.val (cR a k),.val (.int me),.val (.int seed),.val d.D,.val (dh a k),.val (.ref 0),.val (.ref 3),hE,hF,hC,fk,eR,fv,hD]) (b_.set 3 (.d_ (gy.L ⟨dh a k,d.D,1,(1,me),[],false,Y⟩ 2))):=fun _ _ _ _ _ _ _=>
  zc (k:=.inr "asks") (mv:=hI "Asker" "begin" sa (J 6) (gw (U (J 4) ar))) (zd ag.bA (.of rfl) rfl (rs:=[.v d.D]) (aR.to (.of rfl)) rfl t3) rfl (.of rfl) (.of rfl) qy rfl (ah7 rfl)
 have SN:∀σ:aO,bT (b_.set 3 (.d_ (gy.L ⟨dh a k,d.D,1,(1,me),[],false,Y⟩ 2))) (vH (.dT []) σ) (.v (.ref b_.length)) (b_.set 3 (.d_ (gy.L ⟨dh a k,d.D,1,(1,me),[],false,Y⟩ 2))++[.dT []]):=fun σ=>by
  have:(b_.set 3 (.d_ (gy.L ⟨dh a k,d.D,1,(1,me),[],false,Y⟩ 2))).length=b_.length:=aiu;rw[<-this];rfl
 refine⟨au,sY rfl ?_⟩;exact dH (aR.of (aq _ _ _ _ _ _ _ _ _ _ _ _ _ _)).to<|dH (aR.of (aD _ _ _ _ _ _ _ _ _ _ _ _ _ _)).to<|dH (aR.of (cQ _ _ _ _ _ _ _ _ _ _ _ _ _ _)).to<|dH (aR.of (e8 _ _ _ _ _ _ _ _ _ _ _ _ _)).to<|dH (aR.of (e1 (d:=dh a k) rfl)).to<|dH (nJ _ _ _ _ _ _ _ _ _ _ _ _)<|dH (SK _ _ _ _ _ _ _ _ _)<|dH (SM _ _ _ _ _ _ _)<|
  dH (vL (r:=.v (.ref b_.length)) (S1:=b_.set 3 (.d_ (gy.L ⟨dh a k,d.D,1,(1,me),[],false,Y⟩ 2))++[.dT []]) (SN _) rfl)<|dH (aR.of KG).to<|
  dH (bT.bind (aR.to (aR.of (cons_of (x:=.fr (cutD (ns.map D.int) (some 4) (some 44))) rfl rfl))) el) rfl
end fp
namespace PySem.W.Fast
noncomputable def M_:List ajy:=(PySem.Challenge.pw_oneslate_k33_an_asker_tells.main.body.drop 14).take 1
theorem te14799697766284484835:M_=M_:=rfl
noncomputable def Nj:List ajy:=(PySem.Challenge.pw_oneslate_k33_an_asker_tells.main.body.drop 63).take 8
theorem te8979227154070861578:Nj=Nj:=rfl
noncomputable def Na:List ajy:=(PySem.Challenge.pw_oneslate_k33_an_asker_tells.main.body.drop 25).take 15
theorem te16996727329253778380:Na=Na:=rfl
noncomputable def Nb:List ajy:=(PySem.Challenge.pw_oneslate_k33_an_asker_tells.main.body.drop 15).take 10
theorem te17377283926870478384:Nb=Nb:=rfl
noncomputable def Nf:List ajy:=(PySem.Challenge.pw_oneslate_k33_an_asker_tells.main.body.drop 49).take 14
theorem te3609749996270481905:Nf=Nf:=rfl
noncomputable def Ng:List ajy:=(PySem.Challenge.pw_oneslate_k33_an_asker_tells.main.body.drop 12).take 2
theorem te7246185325223391636:Ng=Ng:=rfl
noncomputable def Nc:List ajy:=(PySem.Challenge.pw_oneslate_k33_an_asker_tells.main.body.drop 92).take 7
theorem te17445705089192300180:Nc=Nc:=rfl
noncomputable def Nk:PySem.Program:={PySem.Challenge.pw_oneslate_k33_an_asker_tells with main:={PySem.Challenge.pw_oneslate_k33_an_asker_tells.main with body:=([0,2,3,4,5,6,8,9,10,12,13,14,15,17,18,19,20,21,22,23,24,25,26,27,28,29,30,32,33,34,35,36,38,39,40,41,42,43,44,45,46,48,49,50,51,52,53,54,55,56,57,58,60,61,62,63,64,65,66,67,68,69,70,71,72,73,75,76,78,80,81,82,83,84,85,86,87,88,89,90,91,92,93,94,95,96,97,98]:List Nat).filterMap fun i=>PySem.Challenge.pw_oneslate_k33_an_asker_tells.main.body[i]?}}
theorem te9365668756410012341:Nk=Nk:=rfl
noncomputable def M9:List ajy:=(PySem.Challenge.pw_oneslate_k33_an_asker_tells.main.body.drop 71).take 7
theorem te10657824117453344600:M9=M9:=rfl
noncomputable def Nh:List ajy:=(PySem.Challenge.pw_oneslate_k33_an_asker_tells.main.body.drop 0).take 12
theorem te8071526961631019449:Nh=Nh:=rfl
noncomputable def Ni:List ajy:=(PySem.Challenge.pw_oneslate_k33_an_asker_tells.main.body.drop 40).take 9
theorem te8075483791138558171:Ni=Ni:=rfl
noncomputable def Nd:List ajy:=(PySem.Challenge.pw_oneslate_k33_an_asker_tells.main.body.drop 79).take 13
theorem te2290629550498360187:Nd=Nd:=rfl
noncomputable def M':List ajy:=(PySem.Challenge.pw_oneslate_k33_an_asker_tells.main.body.drop 78).take 1
theorem te16839212082229141919:M'=M':=rfl
def te17668658255721168080:=0
def te3956897983620002724:=0
def te16782327011289348301:=0
def te6345292720108779555:=0
def te15113421552170312848:=0
def te1596191997891271445:=0
def te17150342493618162052:=0
def te1473011845159662198:=0
def te2514786922192995042:=0
def te7657092017461719709:=0
def te1275958003654949075:=0
def te1425983031867446864:=0
def te223114220548909452:=0
def te3714756864381879377:=0
def te12555145585813789059:=0
def te12660141813319947113:=0
def te15795329968330694116:=0
def te6449922805373360349:=0
def te3202858964571639116:=0
def te16121832379059279500:=0
def te15354270703915090606:=0
def te10351326062928008339:=0
def te7674203140891460349:=0
def te17625214703871172100:=0
def te2562977807224568928:=0
def te17950017824679917036:=0
def te17009672481660876603:=0
def te18434935713877977330:=0
def te864279819337360028:=0
def te6948018803605037701:=0
def te9529435853754843111:=0
def te18100658075798733604:=0
def te15094810187389923670:=0
def te714495609521626252:=0
def te5508931016254124739:=0
def te8030848141577360573:=0
def te14871690295611432389:=0
def te4582835363131882998:=0
def te11006568723916170565:=0
def te11524094199414453646:=0
def te7801769705441936287:=0
def te1285554854392532384:=0
def te12048173620964485756:=0
def te9644066192081776309:=0
def te5170219334013781218:=0
def te7965086795636251854:=0
def te12335272855250362252:=0
def te6065049542013251262:=0
def te683434743378583669:=0
def te2650966447903967847:=0
def te15890011189143050230:=0
def te4259138969520676155:=0
def te14003758008583659698:=0
def te14801269948321560886:=0
def te2867503166032195730:=0
def te16327815790099212537:=0
def te13704134087010574956:=0
def te9921217556047061507:=0
def te12140546224036324976:=0
def te2950127427686723935:=0
def te14901389898825663107:=0
def te602113605874846808:=0
def te8045940484152249113:=0
def te4453119668697256893:=0
def te6731649089671745838:=0
def te5679802025758008148:=0
def te14595864086715355504:=0
def te3631746973527342993:=0
def te8679469506732340183:=0
def te7376598776243707765:=0
def te4056715361816964195:=0
def te16243890181838597927:=0
def te16525453589718680090:=0
def te1326838970921737465:=0
def te1661134913632059903:=0
def te5055629720741482912:=0
def te11984676567681791790:=0
def te15089373477620405844:=0
def te10629693940870114463:=0
def te4332360678380954190:=0
def te969539146191588201:=0
def te4039361564783085298:=0
def te4481905365508297884:=0
def te4149541956640598439:=0
def te2994417769353093820:=0
def te9409695078007125682:=0
def te14388925350103100261:=0
def te18292130011190153738:=0
def te7019756938499338150:=0
def te8267818589362995224:=0
def te2521647286491311365:=0
def te3196311273218569203:=0
def te10393686467733578885:=0
def te8055867118449065094:=0
def te13549347720981895450:=0
def te592426320615710762:=0
def te17642128150927096380:=0
def te6060972204097386308:=0
def te17927114802657940716:=0
def te816782072066407191:=0
def te11810998888472383493:=0
def te3477485329507085056:=0
def te2679774964947776915:=0
def te7864880647673442334:=0
def te6515596201706004495:=0
def te9524575861954733147:=0
def te11474424770324184242:=0
def te5519304232491105760:=0
def te15638372244121022457:=0
def te12539395126123762966:=0
def te6025405058204604773:=0
def te11490722097826555493:=0
def te18014454329783550079:=0
def te17643817807058753899:=0
def te4819668567262885264:=0
def te15096553392258848750:=0
def te5085090535532748788:=0
def te12279004023540486163:=0
def te12167268986978831535:=0
def te4178841035680433245:=0
def te3364510270616608806:=0
def te8999622921894687168:=0
def te8213129475356674809:=0
def te5831164512835448727:=0
def te15950750515562867633:=0
def te472309101107755326:=0
def te5642686579804809876:=0
def te14756710638881838932:=0
def te6368435805027715411:=0
def te17796178696462918837:=0
def te3932750683949767180:=0
def te139154628263239301:=0
def te17482266258787383684:=0
def te16649196563132512216:=0
def te17245545928492050950:=0
def te2944848173315009883:=0
def te12288863627800128220:=0
def te2755298043446655388:=0
def te11061542959094231210:=0
def te4343780838083344985:=0
def te3811789094660934471:=0
def te11443494425104265521:=0
def te14997238331382475387:=0
def te8497593335526580536:=0
def te7181257192842306056:=0
def te7063534922439563057:=0
def te10203304064602484963:=0
def te10057251826741412046:=0
def te2514363989762163073:=0
def te12791985689152589444:=0
def te13565889607841220217:=0
def te7213545918741152683:=0
def te17367146826415163154:=0
def te5924783317020171458:=0
def te104891516583082375:=0
def te14865374813176634109:=0
def te15349887223742410277:=0
def te10449626756917129514:=0
def te25081364528904987:=0
def te8860496101985024549:=0
def te17660382732692944445:=0
def te3856996226466183224:=0
def te4260189727257494973:=0
def te14239074584347516845:=0
def te6190727572650420693:=0
def te786908638983395191:=0
def te10154170781449855312:=0
def te17326074308099783912:=0
def te3321754032686438547:=0
def te10151298299507302885:=0
def te4527607860802318983:=0
def te2935880171696659760:=0
def te10620059408124238918:=0
def te17546215688482622850:=0
def te6256030800990825123:=0
def te2966349959027533525:=0
def te10791531556412599033:=0
def te5075883462373137264:=0
def te5866295933820940546:=0
def te2156147137354710440:=0
def te18016033853938129365:=0
def te679882200443645358:=0
def te919403137644794368:=0
def te11540674578847589248:=0
def te4521710602018426016:=0
def te3553963807306755727:=0
def te8417897401034289893:=0
def te13588078786575035949:=0
def te2847167254731248160:=0
def te2342924080805148042:=0
def te11394349083228424197:=0
def te10593864607703445943:=0
def te15219617274552010544:=0
def te2316949546056670516:=0
def te4972276132218523718:=0
def te11149497606156682738:=0
def te17096978441845492912:=0
def te17922671605460647791:=0
def te17285282467548033054:=0
def te9847685562589245109:=0
def te5917663900537792436:=0
def te14675574885575803878:=0
def te11759827162322559806:=0
def te12119213216196861841:=0
def te5886116550719415755:=0
def te3117359016445660313:=0
def te10602658509495096317:=0
def te8277763940484587032:=0
def te16388021390666312730:=0
def te9674000268506218651:=0
def te1995133039157338772:=0
def te11290566955816732650:=0
def te6630956691429787635:=0
def te14607463460003959837:=0
def te12645890940502647107:=0
def te3090233837907305194:=0
def te13775704933512627207:=0
def te4066178678909009257:=0
def te17703739257341238182:=0
def te6584082276285086416:=0
def te17391223854577275430:=0
def te13942283914839977428:=0
def te14037152987468178730:=0
def te12090614121907603527:=0
def te6089854402367244079:=0
def te9729291704489623357:=0
def te10054020905989264721:=0
def te17004993866676184121:=0
def te18367180625107664875:=0
def te3390785622193048678:=0
def te11662072729826897142:=0
def te11925676568109787826:=0
def te7322664143904270362:=0
def te10412508041327835879:=0
def te4341167871183890782:=0
def te12278878418052094872:=0
def te14041573074643062618:=0
def te15369506437861529931:=0
def te13667157678677998639:=0
def te2375098691408691977:=0
def te2868901251697990561:=0
def te861084512733834157:=0
def te7978704560880841655:=0
def te12166460203680023775:=0
def te13173751748824511946:=0
def te17216484533644468483:=0
def te18249830617859207726:=0
def te17981308531656469250:=0
def te6746894147645955415:=0
def te15861060540277259360:=0
def te17501367144710463853:=0
def te7735302714334402728:=0
def te4277447902843734749:=0
def te8499582597084226568:=0
def te10941152326530709566:=0
def te11097630052251670786:=0
def te17291083082253471364:=0
def te14236207815429379653:=0
def te5653304001473499800:=0
def te2955331610385900007:=0
def te221680505635232497:=0
def te8979840075551616880:=0
def te6150400578131716626:=0
def te16459813697072482065:=0
def te8179130829396121413:=0
def te4563931963715324064:=0
def te9905031100883921312:=0
def te15439364199711314166:=0
def te8641500205856350434:=0
def te14857849318056100226:=0
def te17048326614596227578:=0
def te892461043940679460:=0
def te4901426143155973407:=0
def te17269797160443915633:=0
def te5228202783324848124:=0
def te13503444154679688937:=0
def te8345424694889995049:=0
def te5566896471838708337:=0
def te16245024808247294499:=0
def te2916016031959632123:=0
def te13843620454564591538:=0
def te316241172560770961:=0
def te14974573195745866977:=0
def te15391280681574102293:=0
def te13445432491053088821:=0
def te18039478860292536140:=0
def te6986715450340396591:=0
def te10593019982391453752:=0
def te10323360775388601062:=0
def te1782770580367029650:=0
def te8735485499954114028:=0
def te2077261097871884515:=0
def te15360711166905504348:=0
def te14115302460428279755:=0
def te17892883845266903759:=0
def te15273312519430384926:=0
def te15816470506370076057:=0
def te9043960998712161048:=0
def te5447291505158684052:=0
def te8240205212914408268:=0
def te9130460680425910274:=0
def te7822748779711615601:=0
def te12200473590411220853:=0
def te6411214440383770231:=0
def te8623959320718715050:=0
def te14575800760572335535:=0
def te6074770574382490706:=0
def te4952567941976853965:=0
def te6921983150028191904:=0
def te2657480310926951603:=0
def te9316635220768614031:=0
def te17954443010752590738:=0
def te5830433820309859011:=0
def te11091750250214476772:=0
def te5372883334788667531:=0
def te7999435039229862940:=0
def te12728271200310683188:=0
def te14490057220778532451:=0
def te7308306706347023010:=0
def te1209153141643290704:=0
def te12407366530911078824:=0
def te4748059215444002389:=0
def te1826072683416347746:=0
def te8884356675565827942:=0
def te6284946941442894369:=0
def te15656670098172856243:=0
def te6420582262756555953:=0
def te7516769087443021546:=0
def te378962675291712869:=0
def te11269274429045180831:=0
def te3258948328117741793:=0
def te9362890078070836647:=0
def te148400461966019018:=0
def te16405502293320958565:=0
def te16508969779464186000:=0
def te7407579171007883939:=0
def te438356039049361283:=0
def te857900163414848091:=0
def te12307122773142261922:=0
def te6288908188954269903:=0
def te4717454238294994767:=0
def te17570728414545465496:=0
def te440453448018355861:=0
def te12559166129110683858:=0
def te3404474949782054208:=0
def te10116954068836913993:=0
def te4633726895412185196:=0
def te8371947240708599979:=0
def te8918665854733438101:=0
def te17192090188927794766:=0
def te12561481227841999275:=0
def te989203794754950953:=0
def te273993476211667478:=0
def te12806143041867137034:=0
def te6488403379676013808:=0
def te1642989639506068498:=0
def te13939381441351172739:=0
def te14691057766808537758:=0
def te7872188985688055547:=0
def te10298255788747203917:=0
def te6880927155576234135:=0
def te8735676615920923044:=0
def te15437603465321310712:=0
def te12112639672381466231:=0
def te12447365901019105425:=0
def te3167093369906372308:=0
def te10347274970420942889:=0
def te1246086649330130213:=0
def te5214717653737209392:=0
def te5719690271849242309:=0
def te17800370723224018422:=0
def te13784078249335543323:=0
def te16060141909409053316:=0
def te2831548091947496606:=0
def te1525666560349883048:=0
def te16529952466652272384:=0
def te6530649846778223898:=0
def te9958296911124401482:=0
def te7965916134173310053:=0
def te967214356696812043:=0
def te3067854309378153168:=0
def te4810870647993050540:=0
end PySem.W.Fast
namespace PySem.W.Fast
noncomputable def tw5930793794501404865:List PySem.Stmt:=(PySem.Challenge.pw_oneslate_k33_an_asker_tells.main.body.drop 12).take 2
theorem te5930793794501404865:tw5930793794501404865=tw5930793794501404865:=rfl
noncomputable def tw454853406281552262:List PySem.Stmt:=(PySem.Challenge.pw_oneslate_k33_an_asker_tells.main.body.drop 78).take 1
theorem te454853406281552262:tw454853406281552262=tw454853406281552262:=rfl
noncomputable def tw731648361161531374:List PySem.Stmt:=(PySem.Challenge.pw_oneslate_k33_an_asker_tells.main.body.drop 40).take 9
theorem te731648361161531374:tw731648361161531374=tw731648361161531374:=rfl
noncomputable def tw5147651143770631087:List PySem.Stmt:=(PySem.Challenge.pw_oneslate_k33_an_asker_tells.main.body.drop 79).take 13
theorem te5147651143770631087:tw5147651143770631087=tw5147651143770631087:=rfl
noncomputable def tw6213050292277748593:List PySem.Stmt:=(PySem.Challenge.pw_oneslate_k33_an_asker_tells.main.body.drop 63).take 8
theorem te6213050292277748593:tw6213050292277748593=tw6213050292277748593:=rfl
noncomputable def tw17891915394822364692:List PySem.Stmt:=(PySem.Challenge.pw_oneslate_k33_an_asker_tells.main.body.drop 92).take 7
theorem te17891915394822364692:tw17891915394822364692=tw17891915394822364692:=rfl
noncomputable def tw10048771690494414937:List PySem.Stmt:=(PySem.Challenge.pw_oneslate_k33_an_asker_tells.main.body.drop 15).take 10
theorem te10048771690494414937:tw10048771690494414937=tw10048771690494414937:=rfl
def te10485981336612282182:=0
def te2562288490577183936:=0
def te7891254126121578575:=0
def te911751735380410020:=0
def te6478656252286508281:=0
def te9454456478715162693:=0
def te596482053070651301:=0
def te16012810213992391215:=0
def te6735144546932913366:=0
def te2815697833989962179:=0
def te9146665974343489024:=0
def te15795101032372921476:=0
def te10975698201824433031:=0
def te1972816225980932224:=0
def te14841557420889368520:=0
def te8747179850622774879:=0
def te4309442646000348222:=0
def te14521337982426979935:=0
def te11420468060203404245:=0
def te17871829964726096808:=0
def te17469806430134278826:=0
def te8143908824149619220:=0
def te13454327480042533901:=0
def te7390417142067809364:=0
def te1477362564959615326:=0
def te1297968843666405283:=0
def te1484227819401551185:=0
def te7954264417291866785:=0
def te1951676950727093380:=0
def te1104484672014743239:=0
def te4170414307158735471:=0
def te3962754434672234954:=0
def te2075898662906288805:=0
def te9291010378876291770:=0
def te5537572419145266787:=0
def te5578655312022033338:=0
def te6228189092040351419:=0
def te10114242637918581486:=0
def te14595577088020899337:=0
def te2200370291575991623:=0
def te11551360300179468227:=0
def te13613850775900807046:=0
def te2259015136180774499:=0
def te1080416699339942708:=0
def te11581141979885554743:=0
def te2802551769469599271:=0
def te9973073180088006117:=0
def te4218451448167515835:=0
def te17830042509506594320:=0
def te2317860039157278151:=0
def te15914297081667796249:=0
def te11443390165707096425:=0
def te3497439114822237388:=0
def te3378016079378455242:=0
def te6344538553472623362:=0
def te11871911946824612604:=0
def te4236360912255876776:=0
def te15863968464753766937:=0
def te11287092446880820866:=0
def te9315124130448842866:=0
def te11703000451378172546:=0
def te15915944538798145222:=0
def te7457858174627579652:=0
def te5486362220061577687:=0
def te12604285545621864890:=0
def te13965653141914154012:=0
def te10253364086343554854:=0
def te11958148126475237040:=0
def te1503542882938276528:=0
def te4194249975619518635:=0
def te571337787197140621:=0
def te6096189491263969956:=0
def te3916734170778351379:=0
def te14798474493497289226:=0
def te4827540643724161619:=0
def te10744503048609444675:=0
def te10887093107702831858:=0
def te1953596586020910697:=0
def te17903526004394486996:=0
def te12035944380544073255:=0
def te7836629882474164235:=0
def te3371537472669786111:=0
def te11591049205742945258:=0
def te13010336793242044621:=0
def te12223595078098595753:=0
def te18087451836824440705:=0
def te7382847438694694523:=0
def te10607059228234362879:=0
def te14724937146009356501:=0
def te4691917208528070129:=0
def te5901949236780627493:=0
def te9499123772610672315:=0
def te4755806592968124623:=0
def te15913440474327237235:=0
def te16690188201045536544:=0
def te6910131926302684960:=0
def te4750405564507878247:=0
def te16628678619093730804:=0
def te12944153126269917928:=0
def te14818710265646882430:=0
end PySem.W.Fast
open PySem PySem.W PyProof.Rows
set_option maxHeartbeats 0 in
theorem PySem.Challenge.cw_oneslate_k33_an_asker_tells_holds : PySem.Challenge.rw_oneslate_k33_an_asker_tells.Holds := by
 w_on;o_law;k_head;(case hw=>w_witness2)
 k_fill
 refine aY.adn (l:=PySem.Challenge.rw_oneslate_k33_an_asker_tells) (k:=22) ["highest","with_cell","with_doing"] rfl rfl ⟨rfl,by decide,by decide⟩ ?ae9 ?ae8 (fun w h Y=>PySem.W.km_in_of Y) ?F
 case ae9=>
  intro x ah
  rcases ahP.mp ah with rfl | ah
  ·exact⟨_,rfl⟩
  rcases ahP.mp ah with rfl | ah
  ·exact⟨_,rfl⟩
  rcases ahP.mp ah with rfl | ah
  ·exact⟨_,rfl⟩
  cases ah
 case ae8=>exact fun p=>by kernel_rfl
 case F=>
  intro w mg ep h dj G ug
  have nG:aY.oC (aF.jS dj) mg "Asker" fp.yt:=by
   dsimp only[aF.jS]
   refine' aY.Q_ dj G ?a ?u6 ?hd ?po ?oi ?mk ?B1 ?na
   (case a=>k_is);(case u6=>k_is);(case hd=>k_is);(case po=>k_is);(case oi=>k_is);(case mk=>k_is);(case B1=>k_is)
   case na=>
    simp only[ajb]
    refine⟨by k_is,by k_is,by k_is,by k_is,by k_is,by k_is,by k_is,by k_is,by k_is,by k_is,by k_is,by k_is,by k_is,by k_is,fun _ h=>nomatch h⟩
  have Ap:aY.vV (aF.jS dj) mg "Asker" "begin" "Asker.begin" fp.DI ["self","deed"]:=by
   dsimp only[aF.jS]at nG ⊢
   refine' aY.Ss dj G nG ?a ?f ?i ?l ?t ?c ?k rfl (fun _ _ _ _ _ _=>aY.y8 fun _ _=>⟨_,rfl,rfl⟩) (fun _ _ _ _ _ _=>aY.vF fun _=>⟨_,rfl,rfl⟩)
   (case a=>k_is);(case f=>k_is);(case i=>k_is);(case l=>k_is);(case t=>k_is);(case c=>k_is);(case k=>k_is)
  have Aq:aF.cn (aF.jS dj) mg "law" fp.vn ["script"]:=by
   dsimp only[aF.jS]
   refine' aY.G6 dj G ?a ?l ?c ?k (fun _ _ _ _ _ _=>aY.vF fun _=>rfl)
   (case a=>k_is);(case l=>k_is);(case c=>k_is);(case k=>k_is)
  have A6:∃u,mg "SMALL_LETTERS"=some u/\aF.RelV (.str "abcdefghijklmnopqrstuvwxyz") u:=by
   refine' ⟨_,PySem.W.mg_of dj G ?a,?b⟩
   (case a=>k_is);(case b=>exact⟨_,rfl⟩)
  have A5:∃u,mg "MOST_LETTERS"=some u/\aF.RelV (.int 8) u:=by
   refine' ⟨_,PySem.W.mg_of dj G ?a,?b⟩
   (case a=>k_is);(case b=>exact⟨_,rfl⟩)
  letI:aF.a6:=aY.sO (aF.jS dj) ["highest","with_cell","with_doing"]
  have BV:aY.KTab PySem.Challenge.rw_oneslate_k33_an_asker_tells.prog w (aF.jS dj) mg "FORMS" fp.r7:=by
   dsimp only[aF.jS]
   refine' aY.Xo dj G ?a ?s ?l ?k ?f
   (case a=>k_is);(case s=>decide);(case l=>k_is)
   case k=>
    intro e he
    rcases ahP.mp he with rfl | he
    ·exact⟨"put",rfl,rfl⟩
    rcases ahP.mp he with rfl | he
    ·exact⟨"add",rfl,rfl⟩
    rcases ahP.mp he with rfl | he
    ·exact⟨"swap",rfl,rfl⟩
    rcases ahP.mp he with rfl | he
    ·exact⟨"take",rfl,rfl⟩
    rcases ahP.mp he with rfl | he
    ·exact⟨"renew",rfl,rfl⟩
    rcases ahP.mp he with rfl | he
    ·exact⟨"free",rfl,rfl⟩
    rcases ahP.mp he with rfl | he
    ·exact⟨"sure",rfl,rfl⟩
    rcases ahP.mp he with rfl | he
    ·exact⟨"move",rfl,rfl⟩
    rcases ahP.mp he with rfl | he
    ·exact⟨"end",rfl,rfl⟩
    cases he
   case f=>exact⟨_,_,rfl,⟨_,rfl⟩,(aY.n3 (xs:=["name","number"]) (by k_is) (by decide +kernel) (by exact⟨_,_,rfl,⟨_,_,rfl,rfl⟩⟩)),⟨_,_,rfl,⟨_,rfl⟩,(aY.n3 (xs:=["name","number"]) (by k_is) (by decide +kernel) (by exact⟨_,_,rfl,⟨_,_,rfl,rfl⟩⟩)),⟨_,_,rfl,⟨_,rfl⟩,(aY.n3 (xs:=["name","number","number"]) (by k_is) (by decide +kernel) (by exact⟨_,_,rfl,⟨_,_,rfl,⟨_,_,rfl,rfl⟩⟩⟩)),⟨_,_,rfl,⟨_,rfl⟩,(aY.n3 (xs:=["fence"]) (by k_is) (by decide +kernel) (by exact⟨_,_,rfl,rfl⟩)),⟨_,_,rfl,⟨_,rfl⟩,(aY.n3 (xs:=["fence"]) (by k_is) (by decide +kernel) (by exact⟨_,_,rfl,rfl⟩)),⟨_,_,rfl,⟨_,rfl⟩,(aY.n3 (xs:=["fence"]) (by k_is) (by decide +kernel) (by exact⟨_,_,rfl,rfl⟩)),⟨_,_,rfl,⟨_,rfl⟩,(aY.n3 (xs:=["fence","name","number"]) (by k_is) (by decide +kernel) (by exact⟨_,_,rfl,⟨_,_,rfl,⟨_,_,rfl,rfl⟩⟩⟩)),⟨_,_,rfl,⟨_,rfl⟩,(aY.n3 (xs:=["hall"]) (by k_is) (by decide +kernel) (by exact⟨_,_,rfl,rfl⟩)),⟨_,_,rfl,⟨_,rfl⟩,(aY.n3 (xs:=[]) (by k_is) (by decide +kernel) (by exact rfl)),rfl⟩⟩⟩⟩⟩⟩⟩⟩⟩
  have y0:aY.tc PySem.Challenge.rw_oneslate_k33_an_asker_tells.prog w (aF.jS dj) mg "DOERS" fp.q4:=by
   dsimp only[aF.jS]
   refine' aY.Tf dj G ?a ?l ?k ?f
   (case a=>k_is);(case l=>k_is)
   case k=>
    intro e he
    rcases ahP.mp he with rfl | he
    ·exact⟨"put",rfl,rfl⟩
    rcases ahP.mp he with rfl | he
    ·exact⟨"add",rfl,rfl⟩
    rcases ahP.mp he with rfl | he
    ·exact⟨"swap",rfl,rfl⟩
    rcases ahP.mp he with rfl | he
    ·exact⟨"take",rfl,rfl⟩
    rcases ahP.mp he with rfl | he
    ·exact⟨"renew",rfl,rfl⟩
    rcases ahP.mp he with rfl | he
    ·exact⟨"free",rfl,rfl⟩
    rcases ahP.mp he with rfl | he
    ·exact⟨"sure",rfl,rfl⟩
    rcases ahP.mp he with rfl | he
    ·exact⟨"move",rfl,rfl⟩
    rcases ahP.mp he with rfl | he
    ·exact⟨"end",rfl,rfl⟩
    cases he
   case f=>
    simp only[ajb]
    refine⟨⟨_,by k_is,by k_is⟩,⟨_,by k_is,by k_is⟩,⟨_,by k_is,by k_is⟩,⟨_,by k_is,by k_is⟩,⟨_,by k_is,by k_is⟩,⟨_,by k_is,by k_is⟩,⟨_,by k_is,by k_is⟩,⟨_,by k_is,by k_is⟩,⟨_,by k_is,by k_is⟩,fun _ h=>nomatch h⟩
  have B7:=by
   refine' aY.Cs (x:="highest") (st:=fp.sH) (ln:=["highest","with_cell","with_doing"]) dj G ?qK ?tu ?iO ?dX ?dd ?u2 ?aq ?aD ?cQ ?e8 ?mK ?nJ ?nn ?ii
   (case qK=>decide);(case tu=>k_is);(case iO=>k_is);(case dX=>exact rfl);(case dd=>k_is);(case u2=>exact rfl);(case aq=>exact rfl);(case aD=>exact rfl);(case cQ=>exact rfl);(case e8=>exact rfl);(case mK=>exact rfl);(case nJ=>exact rfl);(case nn=>decide)
   case ii=>
    intro y a' bG
    rcases ahP.mp a' with rfl | a'
    ·rfl
    rcases ahP.mp a' with rfl | a'
    ·refine' aY.so ?ba ?bU bG
     case ba=>
      refine' aY.q5 ?a1 ?a2 ?d6 ?gU ?jv
      (case a1=>k_is);(case a2=>k_is);(case d6=>exact rfl);(case gU=>k_is);(case jv=>exact rfl)
     case bU=>decide
    rcases ahP.mp a' with rfl | a'
    ·refine' aY.so ?ba ?bU bG
     case ba=>
      refine' aY.q5 ?a1 ?a2 ?d6 ?gU ?jv
      (case a1=>k_is);(case a2=>k_is);(case d6=>exact rfl);(case gU=>k_is);(case jv=>exact rfl)
     case bU=>decide
    cases a'
  have Cb:=by
   refine' aY.Cs (x:="with_cell") (st:=fp.qY) (ln:=["highest","with_cell","with_doing"]) dj G ?qK ?tu ?iO ?dX ?dd ?u2 ?aq ?aD ?cQ ?e8 ?mK ?nJ ?nn ?ii
   (case qK=>decide);(case tu=>k_is);(case iO=>k_is);(case dX=>exact rfl);(case dd=>k_is);(case u2=>exact rfl);(case aq=>exact rfl);(case aD=>exact rfl);(case cQ=>exact rfl);(case e8=>exact rfl);(case mK=>exact rfl);(case nJ=>exact rfl);(case nn=>decide)
   case ii=>
    intro y a' bG
    rcases ahP.mp a' with rfl | a'
    ·refine' aY.so ?ba ?bU bG
     case ba=>
      refine' aY.q5 ?a1 ?a2 ?d6 ?gU ?jv
      (case a1=>k_is);(case a2=>k_is);(case d6=>exact rfl);(case gU=>k_is);(case jv=>exact rfl)
     case bU=>decide
    rcases ahP.mp a' with rfl | a'
    ·rfl
    rcases ahP.mp a' with rfl | a'
    ·refine' aY.so ?ba ?bU bG
     case ba=>
      refine' aY.q5 ?a1 ?a2 ?d6 ?gU ?jv
      (case a1=>k_is);(case a2=>k_is);(case d6=>exact rfl);(case gU=>k_is);(case jv=>exact rfl)
     case bU=>decide
    cases a'
  have Cc:=by
   refine' aY.Cs (x:="with_doing") (st:=fp.qZ) (ln:=["highest","with_cell","with_doing"]) dj G ?qK ?tu ?iO ?dX ?dd ?u2 ?aq ?aD ?cQ ?e8 ?mK ?nJ ?nn ?ii
   (case qK=>decide);(case tu=>k_is);(case iO=>k_is);(case dX=>exact rfl);(case dd=>k_is);(case u2=>exact rfl);(case aq=>exact rfl);(case aD=>exact rfl);(case cQ=>exact rfl);(case e8=>exact rfl);(case mK=>exact rfl);(case nJ=>exact rfl);(case nn=>decide)
   case ii=>
    intro y a' bG
    rcases ahP.mp a' with rfl | a'
    ·refine' aY.so ?ba ?bU bG
     case ba=>
      refine' aY.q5 ?a1 ?a2 ?d6 ?gU ?jv
      (case a1=>k_is);(case a2=>k_is);(case d6=>exact rfl);(case gU=>k_is);(case jv=>exact rfl)
     case bU=>decide
    rcases ahP.mp a' with rfl | a'
    ·refine' aY.so ?ba ?bU bG
     case ba=>
      refine' aY.q5 ?a1 ?a2 ?d6 ?gU ?jv
      (case a1=>k_is);(case a2=>k_is);(case d6=>exact rfl);(case gU=>k_is);(case jv=>exact rfl)
     case bU=>decide
    rcases ahP.mp a' with rfl | a'
    ·rfl
    cases a'
  have kt:aF.tf (aF.jS dj):=aF.Xj _
  have N0:aY.Er mg:=by
   refine' ⟨aif dj G ?aeV,aif dj G ?fb,aif dj G ?d2,aif dj G ?kb,aif dj G ?kR,aif dj G ?Ek,aif dj G ?El,aif dj G ?ae5,aif dj G ?ae6,aif dj G ?ae7,aif dj G ?aeW,aif dj G ?aeX,aif dj G ?aeY,aif dj G ?aeZ,aif dj G ?ae0,aif dj G ?ae1,aif dj G ?ae2,aif dj G ?ae3,aif dj G ?ae4⟩
   (case aeV=>k_is);(case fb=>k_is);(case d2=>k_is);(case kb=>k_is);(case kR=>k_is);(case Ek=>k_is);(case El=>k_is);(case ae5=>k_is);(case ae6=>k_is);(case ae7=>k_is);(case aeW=>k_is);(case aeX=>k_is);(case aeY=>k_is);(case aeZ=>k_is);(case ae0=>k_is);(case ae1=>k_is);(case ae2=>k_is);(case ae3=>k_is);(case ae4=>k_is)
  refine aY.Ox ug Aq (fun _ _ _ _ _ _ _=>rfl) (fun base QB f fd F=>aY.Xx (fp.C7 ⟨?_,?_,?_,?_,?_,?_,?_,?_,?_,?_,?_,?_,?_,?_,?_,?_,?_,?_,?_,?_,?_,?_,?_,?_,?_,?_,?_,?_,?_,?_,?_,?_,?_,?_,?_,?_,?_,?_,?_,Ap,?_,?_,?_,?_,?_,?_,?_,?_,?_,?_,?_,?_,?_,?_,?_,?_,?_,?_,?_,?_,?_,?_,?_,?_,?_,?_,?_,?_,?_,?_,Aq,nG,A6,A5,y0,BV,B7,Cb,Cc,QB,N0,kt⟩ F) fp.XD)
  all_goals first
  | ((try dsimp only[aF.jS]);refine' aY.G6 dj G ?a ?l ?c ?k (fun _ _ _ _ _ _=>by first | exact aY.Nw rfl | exact aY.vF fun _=>rfl | exact aY.y8 fun _ _=>rfl | exact aY.D0 fun _ _ _=>rfl | exact aY.D1 fun _ _ _ _=>rfl | exact aY.D2 fun _ _ _ _ _=>rfl | exact aY.D3 fun _ _ _ _ _ _=>rfl | exact aY.Nx fun _ _ _ _ _ _ _=>rfl);(case a=>k_is);(case l=>k_is);(case c=>k_is);(case k=>k_is))
  | (dsimp only[aF.jS]at nG ⊢;refine' aY.Sr dj G nG ?a ?f ?i ?l ?c ?k (fun _ _ _ _ _ _=>by first | exact aY.vF fun _=>rfl | exact aY.y8 fun _ _=>rfl | exact aY.D0 fun _ _ _=>rfl | exact aY.D1 fun _ _ _ _=>rfl | exact aY.D2 fun _ _ _ _ _=>rfl | exact aY.D3 fun _ _ _ _ _ _=>rfl | exact aY.Nx fun _ _ _ _ _ _ _=>rfl);(case a=>k_is);(case f=>k_is);(case i=>k_is);(case l=>k_is);(case c=>k_is);(case k=>k_is))
