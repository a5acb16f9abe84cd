import PyProof.Rows.All
import Wide.All
import OpenK.AllK
import Wide.FinOn
import Lean
import PyProof.EqAt
import PyProof.EqKinds
import PyProof.TupleCall
import KE.KSortTup
import PyProof.ZipIter
import KE.KMinKey
import KE.KRevSl
import PyProof.Rows.EnumRows
import PyProof.EnumStmt
import PyProof.ListRange
import KE.KIntText
import PySem.Challenge.RW_oneslate_k41_a_letter_brought
set_option Elab.async false
set_option linter.all false
set_option maxRecDepth 100000
set_option bootstrap.genMatcherCode false
open Array renaming length_toList->ak0,getElem?_toList->anw,toArray_toList->anF
open Bool renaming false_ne_true->akl,and_eq_true->akH,eq_iff_iff->alQ,false_eq_true->am7,or_eq_true->aoJ,and_true->aoY
open False renaming elim->akT
open ForInStep renaming yield->anE
open Int renaming fdiv_eq_ediv_of_nonneg->aob,toNat_natCast->aok
open List renaming getElem?_eq_some_iff->akd,length_append->akg,length_map->akh,getElem?_set_ne->akn,size_toArray->ako,mem_cons_of_mem->akq,map_cons->aks,mem_cons->akt,lookup_cons->akv,mem_cons_self->akw,getElem?_eq_getElem->akx,getElem?_append_right->akz,getElem?_map->akA,getElem?_append_left->akD,getElem?_set_self->akE,mem_singleton->akF,range->akG,mem_map->akK,mem_of_getElem?->akM,length_cons->akO,length_set->akS,all_eq_true->akV,replicate->akW,mem_range->akZ,forall_mem_cons->ak2,not_mem_nil->ak3,mem_append_right->ak4,getD_eq_getElem?_getD->ak7,length_replicate->ak8,mem_append->alc,nodup_cons->ale,length_drop->alj,length_range->alu,length_singleton->alv,mem_filter->alw,append_nil->alx,length_nil->alz,length_take->alC,take_of_length_le->alD,map_append->alI,getElem?_replicate->alO,getElem?_range->alR,lookup->alT,pairwise_cons->alX,length_filter_le->alY,mem_of_find?_eq_some->alZ,length->al0,getElem_mem->amd,map_map->amf,mem_map_of_mem->amz,length_eq_zero_iff->amB,find?_cons_of_pos->amI,find?_cons_of_neg->amJ,append_assoc->amL,pairwise_map->amM,getElem?_eq_none->amR,all_cons->amS,nodup_iff_pairwise_ne->amU,of_mem_zip->amX,find?_some->amZ,mem_or_eq_of_mem_set->am1,prefix_append->am6,zip_cons_cons->am8,nodup_append->anb,any_eq_true->anp,prefix_refl->anq,filter_cons->anr,take_length->ans,mem_iff_getElem?->anA,all_append->anM,eq_nil_of_length_eq_zero->anN,filterMap_cons->anO,map_congr_left->anP,filter_sublist->anQ,drop_drop->anS,drop_zero->anV,nodup_nil->anY,countP_eq_length_filter->an0,any_cons->aoe,take_add_one->aol,forIn_cons->aoH,drop_eq_nil_of_le->aoN,append_eq_nil_iff->aoO,take_zero->aoP,take_nil->aoX
open List.Nodup renaming length_le_of_subset->alK
open List.Pairwise renaming imp->ao9
open Nat renaming le_refl->akk,lt_of_lt_of_le->akQ,ne_of_lt->akR,le_trans->akU,zero_le->akY,le_of_ble_eq_true->ak5,lt_irrefl->ak6,not_lt_zero->alJ,le_of_lt->al1,zero_add->amv,sub_self->amw,le_add_right->amy,min_eq_left->am0,le_of_eq->am4,lt_succ_self->ano,pow_le_pow_right->anL,le_succ->an1
open Ne renaming symm->amV
open Option renaming map_eq_some_iff->anf,isSome_iff_exists->aox,bind_eq_some_iff->aoD
open Option.some renaming inj->akI,injEq->ao7
open Or renaming inr->alb,inl->al3
open PyProof.Rows renaming seqObj->alg,envOfC->alk,slot_tuple_getitem->aln,callWith_type1->alA,KeyOrd->alS,IntsAre->amr,get?_update_seq->amF,envOfC->amP,AllBare->ant,listUpdate_at->aog,KeyKind->aoV,strKind->aoW
open PySem renaming wpAny_bind->akc,starEach->ake,sizeLine->aki,Shared->akj,wpAny_pure->akm,sizeLine_eq->akB,Program->akC,backTo->akJ,Around->akL,mainGlobals->akP,compareOp->akX,bootBuiltins->ak1,wpAny_mono->ak9,assignEach->ala,foldedSetIterable->alf,holding->alm,FuncData->alo,keywordEach->alp,wpAny_truthy_bool->als,wpAny_field->aly,wpAny_Call_Name_kw->alB,wpAny_seqItems->alE,mem_of_lookup->alH,wpAny_holding->alL,wpAny_callSpecial?_slot->alP,attributeBase->alU,backToKw->alV,swapsWith->alW,wpAny_newObj_type->al6,behindInMarks->al7,assign->al8,standAt->ama,binaryOp->amb,getMethod->ame,wpAny_setField_rec->amh,wpAny_passesOwn->ami,rawInt->aml,wpAny_pyIter_list->amm,sliceBounds->amq,bindArgs->ams,wpAny_call_entry->amt,IsPair->amx,wpAny_pyIter_tuple->amD,closureFor->amE,callWith->amG,NameKind->amH,wpAny_letGo->amK,codeAny_mono->amO,wpAny_tryCatch->amQ,codeAny->amW,pyNext->am3,Arguments->am5,Keyword->ana,IsPart->anc,richCompare_meets_room->anh,wpAny_standAt->ank,strKind->anm,getItem->anu,codeAmong->anv,DictEntry->anx,seqItems?->anz,wpAny_execs_nil->anB,letOwnedTupleGo->anC,wpAny_updateSeq_pair->anH,wpAny_updateSeq->anJ,Builtin->anU,PassesOwn->an2,findBy->an3,swapsWithSole->an9,swappedStores->aoa,wpAny_onRaise->aoh,plainId_quiet->aoi,builtinsNs->aon,wpAny_rule->aop,defaultsOf->aoq,callerA->aot,TriplesOk->aoG,codeAny_builtin->aoI,subscripted->aoL
open PySem.Around renaming under_plainId->anI,under->ao4
open PySem.AutoSeq1 renaming sub_tuple_tuple->aoy,wpAny_loadPart'->aoA
open PySem.BindsTo renaming of_defaults->aoZ
open PySem.Builtin renaming bitNot->alG,bitAnd->alM,bitOr->anl
open PySem.Builtin.Builtins renaming bindParams->an7
open PySem.Builtin.Int renaming intBits->alq,intTooBig->aoQ
open PySem.Builtin.List renaming listTooLong->al2
open PySem.Builtin.Slice renaming slicePlaces->amn,sliceAdjust->amY,sliceApplied->aoc
open PySem.Builtin.SmallTypes renaming nextOf->alh,ownedTupleIsFree->alN,ownedTupleHandOut->am9
open PySem.Builtin.Str renaming strSliceIndices->amg,occurrences->amA
open PySem.Builtin.Tuple renaming tupleExact->amu,tupleItemsOf->aod
open PySem.Calls renaming callWith_builtin->ane,spliced_cons->an4,Name_function_global->an8,spliced_nil->aoj
open PySem.F renaming plain_max_loop->alF,slot_list_append->al4,type_list_append->al5,slot_tuple_iterator_next->amk,entry_max_loop->anj,slot_zip_next->anG,args_tuple_iterator_next_1->anW,entry_tuple_iterator_next->an6,slot_list_extend->aoB,type_list_extend->aoC,plainAttrs_list->aoE,slot_dict_get->aoR
open PySem.Heap renaming get?_push_of_some->akf,get?_push_size->akp,lt_size->akr,size_push->amN,SameBut->aou,IsTuple->aoz,get?_update_other->aoM
open PySem.Heap.IsTuple renaming push->ao8
open PySem.Heap.SameBut renaming update->alr
open PySem.NameKind renaming free->amT,cell->aof
open PySem.Obj renaming mapSeq->akN
open PySem.PassesOwn renaming never->anK
open PySem.PyData renaming strOk->aku,eqv->aoT
open PySem.SeqAt renaming shaped->ao6
open PySem.SeqAt.EqAt renaming int_str->ao2,str_int->ao3,int_int->ao5
open PySem.Shared renaming heap->ani
open PySem.Str renaming ofString->aky
open PySem.Txt renaming find->anZ
open PySem.Value renaming ref->ald,isStrOf->ali,none->amC,bool->aom,type->aoS,int->ao0,str->ao1
open PySem.W renaming fnOf->al9,keepIn->amc,findIn->amj,emptyDict->amo,instObj->am2,nsIn->ang,codeIn->anR,mg_of->anT,kia_one->an5,plainGet->aoo,callWith_K->aov,cellsFrom_some->aow,methodCall_KW->aoF,hasDictIn->aoK
open PySem.Walks renaming list->aoU
open Sum renaming inl->aor,inr->aos
open True renaming intro->anD
abbrev v0:List PySem.Str:=["self"]
abbrev o0:List PySem.Str:=["thing"]
abbrev T0:List PySem.Str:=["slate","asker","deed"]
abbrev W1:List PySem.Str:=["self","asker"]
abbrev M2:List PySem.Str:=["slate"]
abbrev P3:List PySem.Str:=["self","letter"]
abbrev v4:List PySem.Str:=["slate","fence","tenant"]
abbrev v6:List PySem.Str:=["book","letter"]
abbrev u8:List PySem.Str:=["asker","keeper","epoch","stamp","load"]
abbrev aO:=PySem.W.Frag
abbrev bp:=PySem.Str->Option PySem.Value
abbrev dj:=PySem.Value->PySem.Shared->Prop
abbrev c0:=List (PySem.Addr×PySem.Obj)
noncomputable section
namespace aB
open PySem PySem.Spec PyProof.Rows
abbrev Key:=Sum Int Str
def Na:Key->Value->Bool
 |.inl k,v=>Value.isInt k v|.inr x,v=>ali x v
def YW(w:World):Key->Int
 |.inl k=>hashInt k|.inr x=>hashStr w x
def ot:∀{k:Key}{v:Value},Na k v=true->(∃i t,k=aor i/\v=ao0 i t)\/(∃x t,k=aos x/\v=ao1 x t)
 |.inl i,v,h=>by
  obtain⟨t,e⟩:=Value.isInt_shape (k:=i) (v:=v) h;exact .inl ⟨i,t,rfl,e⟩
 |.inr x,v,h=>by
  obtain⟨t,e⟩:=Value.isStrOf_shape (x:=x) (v:=v) h;exact .inr ⟨x,t,rfl,e⟩
def YX(a b:Int):decide ((aor a:Key)=aor b)=(a==b):=by
 by_cases e:a=b
 .subst e;simp
 .have h:¬(aor a:Key)=aor b:=λq=>e (Sum.inl.inj q)
  rw[decide_eq_false h];exact(beq_eq_false_iff_ne.mpr e).symm
def Y0(a b:Str):decide ((aos a:Key)=aos b)=decide (a=b):=by
 by_cases e:a=b
 .subst e;simp
 .have h:¬(aos a:Key)=aos b:=λq=>e (Sum.inr.inj q)
  rw[decide_eq_false h,decide_eq_false e]
def YY(a:Int)(b:Str):decide ((aor a:Key)=aos b)=false:=decide_eq_false (λq=>nomatch q)
def YZ(a:Str)(b:Int):decide ((aos a:Key)=aor b)=false:=decide_eq_false (λq=>nomatch q)
def NU(prog:akC)(w:World):KeyKind prog w Key where
 is:=Na
 hash:=YW w
 inj:=λv a b f d=>by
  rcases ot f with⟨i,t,rfl,rfl⟩|⟨x,t,rfl,rfl⟩
  .rcases ot d with⟨j,u,rfl,e⟩|⟨y,u,rfl,e⟩
   .injection e with av _;rw[av]
   .exact nomatch e
  .rcases ot d with⟨j,u,rfl,e⟩|⟨y,u,rfl,e⟩
   .exact nomatch e
   .injection e with av _;rw[av]
 byValue:=λk v h=>by
  rcases ot h with⟨i,t,rfl,rfl⟩|⟨x,t,rfl,rfl⟩<;>rfl
 pyHash:=λc h=>by
  rcases ot c with⟨i,t,rfl,rfl⟩|⟨x,t,rfl,rfl⟩
  .exact wpAny_pyHash_int h
  .exact wpAny_pyHash_str h
 eqBool:=λg c h=>by
  rcases ot g with⟨i,t,rfl,rfl⟩|⟨x,t,rfl,rfl⟩
  .rcases ot c with⟨j,u,rfl,rfl⟩|⟨y,u,rfl,rfl⟩
   .rw[YX]at h;exact wpAny_eqBool_int h
   .rw[YY]at h;exact ao2 i t y u _ _ _ _ h
  .rcases ot c with⟨j,u,rfl,rfl⟩|⟨y,u,rfl,rfl⟩
   .rw[YZ]at h;exact ao3 x t j u _ _ _ _ h
   .rw[Y0]at h;exact wpAny_eqBool_str h
 «strs»:=λk x t v h=>by
  rcases ot h with⟨i,u,rfl,e⟩|⟨y,u,rfl,e⟩
  .exact nomatch e
  .injection e with av _
   subst av;cases v<;>rfl
inductive V where
 |aJ|ay (b:Bool)|int (i:Int)|str (x:Str)|x1 (b:Array UInt8)|yn (b:UInt64)|ref (a:Addr)|ty (n:String)
 deriving DecidableEq
def RelV:V->Value->Prop
 |.aJ,u=>u=amC|.ay b,u=>u=aom b|.int i,u=>∃t,u=ao0 i t|.str x,u=>∃t,u=ao1 x t|.x1 b,u=>∃t,u=Value.bytes b t|.yn b,u=>∃t,u=Value.float b t|.ref a,u=>u=ald a|.ty n,u=>u=aoS n
abbrev Vals:List V->List Value->Prop:=Paired RelV
def Vals.length{xs:List V}{us:List Value}(r:Vals xs us):xs.length=us.length:=Paired.length r
theorem Vals.get:∀{xs:List V}{us:List Value}{i:Nat}{x:V},Vals xs us->xs[i]? = some x->∃u,us[i]? = some u/\RelV x u
 |_,_,_,_,.nil,e=>by simp at e| _,_,0,_,.cons r _,e=>by simp at e;subst e;exact⟨_,rfl,r⟩|_,_,i+1,x,.cons _ t,e=>by
  obtain⟨u,a,b⟩:=Vals.get (i:=i) (x:=x) t (by simpa using e);exact⟨u,by simpa using a,b⟩
theorem Vals.set(r:RelV x u):∀{xs:List V}{us:List Value}(i:Nat),Vals xs us->Vals (xs.set i x) (us.set i u)
 |_,_,_,.nil=>.nil|_,_,0,.cons _ t=>.cons r t|_,_,i+1,.cons q t=>.cons q (Vals.set r i t)
theorem Vals.append:∀{xs ys:List V}{us a:List Value},Vals xs us->Vals ys a->Vals (xs++ys) (us++a)
 |_,_,_,_,.nil,s=>s|_,_,_,_,.cons r t,s=>.cons r (Vals.append t s)
theorem Vals.take:∀{xs:List V}{us:List Value}(n:Nat),Vals xs us->Vals (xs.take n) (us.take n)
 |_,_,0,_=>.nil|_,_,_+1,.nil=>.nil|_,_,n+1,.cons r t=>.cons r (Vals.take n t)
theorem Vals.drop:∀{xs:List V}{us:List Value}(n:Nat),Vals xs us->Vals (xs.drop n) (us.drop n)
 |_,_,0,r=>r|_,_,_+1,.nil=>.nil|_,_,n+1,.cons _ t=>Vals.drop n t
def mP:Option V->Option Value->Prop
 |some v,some u=>RelV v u|none,none=>True|_,_=>False
def QS{κ:Type}:List (κ×V)->List (κ×Value)->Prop:=Paired λ(p:κ×V) (q:κ×Value)=>p.1=q.1/\RelV p.2 q.2
def du:Key->V
 |.inl i=>.int i|.inr x=>.str x
inductive gF where
 |l (xs:List V)
 |t (xs:List V)
 |r_ (dm:List (Key×V))|gh (dm:List (List Key×V))
 |set (S:Int->Bool) (n:Nat)
 |ins (C cb:Addr) (aU:List (Str×V))
 |own (x:Addr)
 |Gm (aU:List (Str×V))
 |met (f x:Addr)
 |Fx (lo hi:Int)
 |cD (o:Obj) (u:gF)
 |f9 (ps:Array Value)
 |ext (qm:Heap->Prop)
abbrev aw:=Addr->Option gF
def upd(H:aw)(a:Addr)(o:gF):aw:=λb=>if b=a then some o else H b
def d6:upd H a o a=some o:=by unfold upd;rw[if_pos rfl]
def c2{H:aw}(h:b≠a):upd H a o b=H b:=by unfold upd;rw[if_neg h]
def afX:upd (upd H a o) a u=upd H a u:=by
 funext b;unfold upd;split<;>rfl
def N5{H:aw}(h:H a=some o)(h':H b=some u)(d:o≠u):a≠b:=by
 intro e;subst e;rw[h]at h';exact d (akI h')
def kJ{H:aw}(h:H a=some o)(h':H b=none):a≠b:=by
 intro e;subst e;rw[h]at h';cases h'
section
variable(P:akC)(w:World)
def iL(H:aw)(h:Heap)(a:Addr):gF->Prop
 |.l xs=>xs.length<=aki/\∃(its:List Value)(n:Nat),Vals xs its/\h.get? a=some { cls:=.type "list",data:=.seq its.toArray n }|.t xs=>xs.length<=aki/\∃its:List Value,Vals xs its/\IsTup h a its.toArray|.r_ c=>c.length<=aki/\(a==sysModules)=false/\∃vs,QS c vs/\h.DictOf (NU P w) a vs|.gh c=>c.length<=aki/\(a==sysModules)=false/\∃xs:List (List Key×Addr×Value),
   Paired (λ(p:List Key×V) (q:List Key×Addr×Value)=>p.1=q.1/\H q.2.1=some (.t (p.1.map du))/\RelV p.2 q.2.2) c xs/\
   ∃o j ct,h.get? a=some o/\o.ExactDict/\o.data=.dict j ct/\j.toList=xs.map (entryOfKey (tupleKind (NU P w)))/\(xs.map (·.1)).Nodup
 |.set S n=>h.SetOf (intKind P w) a S n|.ins C d aU=>H d=some (.own a)/\aU.length<=1000/\d≠a/\h.get? a=some (am2 C d)/\
   ∃b,h.Ns1 d b/\(∀f,mP (aU.lookup f) (b f))/\Within b (aU.map (·.1))
 |.own _=>∃o,h.get? a=some o|.Gm aU=>∃b,h.Ns1 a b/\∀f,mP (aU.lookup f) (b f)|.Fx lo hi=>∃t u v,h.get? a=some { cls:=.type "range",data:=.fields #[.int lo t,.int hi u,.int 1 v] }|.cD o u=>h.get? a=some o/\iL H h a u|.f9 ps=>h.get? a=some { cls:=.none,data:=.fields ps }|.met f x=>h.get? a=some (W.methodObj (.ref f) (.ref x))|.ext e=>e h/\(∃o,h.get? a=some o)/\∀g i:Heap,e g->(∀o,g.get? a=some o->i.get? a=some o)->e i
def gb(H:aw)(h:Heap):Prop:=∀a o,H a=some o->iL P w H h a o
end
section
variable{P:akC}{w:World}{H H':aw}{h h':Heap}{a:Addr}{o:gF}
def iL.lt(x:iL P w H h a o):a<h.objs.size:=by
 cases o with
 |l xs=>obtain⟨_,_,_,_,e⟩:=x;exact akr e
 |t xs=>obtain⟨_,_,_,p⟩:=x;exact p.lt
 |r_ b=>obtain⟨_,_,_,_,o,_,_,e,_⟩:=x;exact akr e
 |gh b=>obtain⟨_,_,_,_,o,_,_,e,_⟩:=x;exact akr e
 |set S n=>obtain⟨o,_,_,_,e,_⟩:=x;exact akr e
 |ins C c aU=>obtain⟨_,_,_,e,_⟩:=x;exact akr e
 |own y=>obtain⟨_,e⟩:=x;exact akr e
 |Gm aU=>obtain⟨_,⟨_,_,_,e,_⟩,_⟩:=x;exact akr e
 |Fx lo hi=>obtain⟨_,_,_,e⟩:=x;exact akr e
 |cD bc u=>obtain⟨e,_⟩:=x;exact akr e
 |f9 ps=>exact akr (show h.get? a=some _ from x)|met f y=>exact akr (show h.get? a=some _ from x)|ext d=>obtain⟨_,⟨_,e⟩,_⟩:=x;exact akr e
theorem Paired.NP{α d:Type}{F G:α->d->Prop}:∀{c:List α}{l₂:List d},Paired F c l₂->(∀a b,F a b->G a b)->Paired G c l₂
 |_,_,.nil,_=>.nil|_,_,.cons r t,f=>.cons (f _ _ r) (Paired.NP t f)
def iL.rD(x:iL P w H h a o)(k:∀b u,(b=a\/H b=some (.own a))->h.get? b=some u->h'.get? b=some u)
  (m:∀b,H b=some (.own a)->H' b=some (.own a)) (A:∀b xs,H b=some (.t xs)->H' b=some (.t xs)):iL P w H' h' a o:=by
 induction o with
 |l xs=>obtain⟨z,its,n,r,e⟩:=x;exact⟨z,its,n,r,k _ _ (.inl rfl) e⟩
 |t xs=>obtain⟨z,its,r,bc,e,c⟩:=x;exact⟨z,its,r,bc,k _ _ (.inl rfl) e,c⟩
 |r_ B=>obtain⟨z,y,vs,r,bc,g,ct,e,c⟩:=x;exact⟨z,y,vs,r,bc,g,ct,k _ _ (.inl rfl) e,c⟩
 |gh B=>
  obtain⟨z,y,xs,r,bc,g,ct,e,c⟩:=x;exact⟨z,y,xs,Paired.NP r λp q z=>⟨z.1,A _ _ z.2.1,z.2.2⟩,bc,g,ct,k _ _ (.inl rfl) e,c⟩
 |set S n=>obtain⟨bc,g,ct,t,e,c⟩:=x;exact⟨bc,g,ct,t,k _ _ (.inl rfl) e,c⟩
 |ins C D aU=>
  obtain⟨d,z,ne,e,j,⟨i,g,ct,aE,c⟩,r⟩:=x;exact⟨m _ d,z,ne,k _ _ (.inl rfl) e,j,⟨i,g,ct,k _ _ (.inr d) aE,c⟩,r⟩
 |own y=>obtain⟨bc,e⟩:=x;exact⟨bc,k _ _ (.inl rfl) e⟩
 |Gm aU=>obtain⟨j,⟨i,g,ct,e,c⟩,r⟩:=x;exact⟨j,⟨i,g,ct,k _ _ (.inl rfl) e,c⟩,r⟩
 |Fx lo hi=>obtain⟨t,u,v,e⟩:=x;exact⟨t,u,v,k _ _ (.inl rfl) e⟩
 |cD bc u s=>obtain⟨e,q⟩:=x;exact⟨k _ _ (.inl rfl) e,s q⟩
 |f9 ps=>
  have e:h.get? a=some { cls:=.none,data:=.fields ps }:=x;show h'.get? a=some { cls:=.none,data:=.fields ps };exact k a _ (.inl rfl) e
 |met f y=>
  have e:h.get? a=some (W.methodObj (.ref f) (.ref y)):=x;show h'.get? a=some (W.methodObj (.ref f) (.ref y));exact k a _ (.inl rfl) e
 |ext E=>obtain⟨p,⟨o,e⟩,st⟩:=x;exact⟨st _ _ p λo q=>k _ _ (.inl rfl) q,⟨o,k _ _ (.inl rfl) e⟩,st⟩
def gb.lt(x:gb P w H h)(e:H a=some o):a<h.objs.size:=(x a o e).lt
def gb.fresh(x:gb P w H h)(e:h.objs.size<=a):H a=none:=by
 cases q:H a with
 |none=>rfl|some u=>exact absurd (akQ (x.lt q) e) (ak6 _)
theorem gb.kept(x:gb P w H h)(k:∀b u,h.get? b=some u->h'.get? b=some u):gb P w H h':=λa o e=>
 (x a o e).rD (λb u _ q=>k b u q) (λ_ q=>q) λ_ _ q=>q
def gb.laid(x:gb P w H h)(k:∀b u,h.get? b=some u->h'.get? b=some u)(g:h.objs.size<=a)(new:iL P w (upd H a o) h' a o):gb P w (upd H a o) h':=λb u e=>by
 have d:=x.fresh g
 by_cases f:b=a
 .subst f;rw[d6]at e;cases e;exact new
 .rw[c2 f]at e
  exact(x b u e).rD (λc v _ q=>k c v q) (λc q=>by rw[c2 (kJ q d)];exact q) λc xs q=>by rw[c2 (kJ q d)];exact q
end
def hr(H:aw)(a:Addr)(u:gF):Prop:=H a=some u\/∃o,H a=some (.cD o u)
def hr.ok(r:hr H a u)(x:gb P w H h):iL P w H h a u:=by
 rcases r with r|⟨o,r⟩
 .exact x a u r
 .obtain⟨_,q⟩:=x a _ r
  exact q
def xC:Option gF->Prop
 |some (.l _)=>True|some (.r_ _)=>True|some (.gh _)=>True|some (.set _ _)=>True|some (.ins _ _ _)=>True|some (.ext _)=>True|_=>False
section
variable{P:akC}{w:World}{H:aw}{h h':Heap}{x e:Addr}{dw:gF}
def gb.write(ok:gb P w H h)(f:xC (H x))(he:e=x\/H e=some (.own x))(k:∀b u,b≠e->h.get? b=some u->h'.get? b=some u)(n:∃u,h'.get? e=some u)
  (new:iL P w (upd H x dw) h' x dw):gb P w (upd H x dw) h':=λb u q=>by
 have j:∀c y,H c=some (.own y)->c≠x:=λc y r z=>by subst z;rw[r]at f;exact f
 have i:∀c xs,H c=some (.t xs)->c≠x:=λc xs r z=>by subst z;rw[r]at f;exact f
 by_cases a:b=x
 .subst a;rw[d6]at q;cases q;exact new
 .rw[c2 a]at q
  by_cases g:b=e
  .have l:H b=some (.own x):=by
    rcases he with z|z
    .exact absurd (g.trans z) a
    .rw[g];exact z
   rw[q]at l;cases l;obtain⟨v,m⟩:=n;exact⟨v,by rw[g];exact m⟩
  .refine(ok b u q).rD (λc v d r=>k c v ?_ r) (λc r=>by rw[c2 (j c b r)];exact r) λc xs r=>by rw[c2 (i c xs r)];exact r
   rcases d with rfl|d
   .exact g
   .rintro rfl
    rcases he with z|z
    .exact j c b d z
    .rw[d]at z;cases z;exact a rfl
end
structure gG(aU ex:List Addr)(H H':aw)(h h':Heap):Prop where
 keep:∀b o,h.get? b=some o->H b=none->b∉aU->b∉ex->h'.get? b=some o
 slot:∀b o,h.get? b=some o->H b=none->b∈aU->b∉ex->∃bh,h'.get? b=some { o with slots:=bh }
 free:∀b o,h.get? b=some o->H b=none->b∉ex->H' b=none
 there:∀b o,h.get? b=some o->b∉ex->∃dw,h'.get? b=some dw
 qc:∀b xs,H b=some (.t xs)->H' b=some (.t xs)
 n6:∀b o u,H b=some (.cD o u)->H' b=some (.cD o u)
 oV:∀b ps,H b=some (.f9 ps)->∃more,H' b=some (.f9 (ps++more))
section
variable{aU ex:List Addr}{H H1:aw}{h ag h':Heap}{a x e:Addr}{o:gF}
def gG.any(u:gG aU ex H H1 h ag)(q:h.get? b=some bc)(n:H b=none)(d:b∉ex):∃bh,ag.get? b=some { bc with slots:=bh }:=by
 by_cases c:b∈aU
 .exact u.slot b bc q n c d
 .exact⟨bc.slots,u.keep b bc q n c d⟩
def gG.kept(k:∀b u,h.get? b=some u->h'.get? b=some u):gG aU ex H H h h':=
 ⟨λb bc q _ _ _=>k b bc q,λb bc q _ _ _=>⟨bc.slots,k b bc q⟩,λ_ _ _ n _=>n,λb bc q _=>⟨bc,k b bc q⟩,λ_ _ q=>q,λ_ _ _ q=>q,λ_ ps q=>⟨#[],by rw[q];simp⟩⟩
def gG.refl:gG aU ex H H h h:=gG.kept λ_ _ q=>q
def gG.laid(k:∀b u,h.get? b=some u->h'.get? b=some u)(d:h.objs.size<=a)(c:H a=none):gG aU ex H (upd H a o) h h' where
 keep:=λb u q _ _ _=>k b u q
 slot:=λb u q _ _ _=>⟨u.slots,k b u q⟩
 free:=λb u q n _=>by rw[c2 (akR (akQ (akr q) d))];exact n
 there:=λb u q _=>⟨u,k b u q⟩
 qc:=λb xs q=>by rw[c2 (kJ q c)];exact q
 n6:=λb u xs q=>by rw[c2 (kJ q c)];exact q
 oV:=λb ps q=>⟨#[],by rw[c2 (kJ q c),q];simp⟩
def gG.write(c:xC (H x))(he:e=x\/H e=some (.own x))(k:∀b u,b≠e->h.get? b=some u->h'.get? b=some u)(j:∃u,h'.get? e=some u):gG aU ex H (upd H x o) h h':=by
 have g:∀b,H b=none->b≠x:=λb n z=>by subst z;rw[n]at c;exact c
 have f:∀b,H b=none->b≠e:=λb n z=>by
  subst z;rcases he with r|r
  .exact g b n r
  .rw[n]at r;cases r
 have d:∀b u,H b=some u->¬xC (some u)->b≠x:=λb u q nm z=>by subst z;rw[q]at c;exact nm c
 refine⟨λb u q n _ _=>k b u (f b n) q,λb u q n _ _=>⟨u.slots,k b u (f b n) q⟩,λb u q n _=>by rw[c2 (g b n)];exact n,λb u q _=>?_,
  λb xs q=>by rw[c2 (d b _ q λz=>z)];exact q,λb u xs q=>by rw[c2 (d b _ q λz=>z)];exact q,λb ps q=>⟨#[],by rw[c2 (d b _ q λz=>z),q];simp⟩⟩
 by_cases i:b=e
 .subst i;exact j
 .exact⟨u,k b u i q⟩
end
def Au(h:Heap)(H:aw):List Addr:=(akG h.objs.size).filter λa=>(H a).isSome
def oa(h:Heap)(H:aw):Heap:=W.hideAll h (Au h H)
def Xr(h:Heap)(H:aw):(oa h H).objs.size=h.objs.size:=W.hideAll_size _ _
def Dr{h:Heap}{H:aw}(e:h.get? b=some o)(n:H b=none):(oa h H).get? b=some o:=
 W.hideAll_get _ e λa=>by
  have q:(H b).isSome=true:=(alw.mp a).2;rw[n]at q;simp at q
def abX{h:Heap}{H:aw}(e:(oa h H).get? b=some o):h.get? b=some o/\H b=none:=by
 have a:h.get? b=some o:=W.of_hideAll (Au h H) e;refine⟨a,?_⟩
 cases q:H b with
 |none=>rfl|some x=>
  have c:b∈Au h H:=alw.mpr ⟨akZ.mpr (akr a),by simp[q]⟩;have z:(oa h H).get? b=none:=W.hideAll_none (Au h H) c;rw[z]at e;cases e
def Q9(g h:Heap)(L:Addr):List (Addr×Obj):=(akG h.objs.size).filterMap λa=>if a=L\/(g.get? a).isSome=true then none else(h.get? a).map λo=>(a,o)
def rest(g h:Heap)(L d:Addr):List (Addr×Obj):=(Q9 g h L).filter λp=>decide (p.1≠d)
structure Mod(K:aO)(mg:bp)(base:Heap):Prop where
 sR:K.In base
 glob:base.Ns akP mg
 blt:∃cT,base.Ns aon cT/\∀x:Str,x≠"__name__"->cT x=ak1 x
 nolimit:base.NoLimit
structure aT where
 prog:akC
 w:World
 K:aO
 mg:Str->Option Value
 base:Heap
 A:akL
 N:List Str
 gM:akj
 H₀:aw
 env:Env
 outer:List Env
 stack:List Env
 ex:List Addr
 fn:Str->Bool
 calm:Bool
 nz:List (Addr×Obj)
 dP:Value->akj->Prop
def lU(l:List Env):List Addr:=l.filterMap (·.frame)
abbrev aT.aU(X:aT):List Addr:=lU X.outer
def nR(a:Scope)(x:Str):Prop:=a.names.lookup x=some .local\/a.names.lookup x=some .cell\/a.names.lookup x=some .free
def Loc(a:Scope)(x:Str):Prop:=a.names.lookup x=some .local\/a.names.lookup x=some .cell
def Look(env:Env)(h:Heap)(m:bp)(x:Str)(u:Value):Prop:=
 (env.kindOf x=some .local/\m x=some u)\/((env.kindOf x=some .cell\/env.kindOf x=some .free)/\∃c,env.cells.lookup x=some c/\h.IsCell c (some u))
structure aT.Ok(X:aT):Prop where
 mod:Mod X.K X.mg X.base
 kind:X.env.scope.kind=.function
 glob:X.env.globals=akP
 blt:X.env.builtins=aon
 above:X.gM.heap.objs.size<=X.env.locals
 inj:∀x y c,X.env.cells.lookup x=some c->X.env.cells.lookup y=some c->x=y
 has:∀x,(X.env.kindOf x=some .cell\/X.env.kindOf x=some .free)->∃c,X.env.cells.lookup x=some c
 uR:∀x c,X.fn x=true->X.env.cells.lookup x=some c->X.gM.heap.objs.size<=c
 hd:X.calm=true->X.A.handled=none
 frames:X.A.frames=some X.stack
 Ag:X.stack=X.outer\/(X.stack=X.env::X.outer/\X.env.frame=some X.env.locals)
 yj:∀b∈X.ex,b≠X.env.locals/\∀x c,X.env.cells.lookup x=some c->c≠b
 bs:∀b o,X.base.get? b=some o->X.gM.heap.get? b=some o/\X.H₀ b=none
 lP:X.base.objs.size<=X.gM.heap.objs.size
 we:∀b o,X.base.get? b=some o->b∉X.ex
 u0:∀b∈X.ex,b∉X.aU
 ky:X.gM.heap.FunFrames X.base X.outer
 pK:∀b∈X.aU,X.H₀ b=none
structure Inv(X:aT)(zn:c0)(U:List (Option V))(H:aw)(s:akj):Prop where
 ok:X.Ok
 os:s.os=X.gM.os
 bare:ant s.gens
 base:gG X.aU X.ex X.H₀ H X.gM.heap s.heap
 loc:∃m,s.heap.Ns X.env.locals m/\∀(i:Nat)(x:Str)(v:V),X.N[i]? = some x->U[i]? = some (some v)->nR X.env.scope x->∃u,RelV v u/\Look X.env s.heap m x u
 cell:∀x c,X.env.cells.lookup x=some c->∃v,s.heap.IsCell c v
 free:H X.env.locals=none
 lT:∀x c,X.env.cells.lookup x=some c->H c=none
 pin:∀p∈X.nz++zn,s.heap.get? p.1=some p.2/\H p.1=none/\p.1≠X.env.locals/\p.1∉X.aU/\∀v,p.2.data≠.cell v
 cc:gb X.prog X.w H s.heap
 len:U.length=X.N.length
section
variable{X:aT}{zn:c0}{U:List (Option V)}{H H':aw}{s:akj}{h':Heap}
def aT.Ok.abL(ok:X.Ok)(e:X.base.get? b=some o):b∉X.aU:=λa=>by
 have:=(ok.ky.mem a).1;rw[e]at this;cases this
def Inv.bs(J:Inv X zn U H s):∀b o,X.base.get? b=some o->s.heap.get? b=some o/\H b=none:=λb o e=>
 ⟨J.base.keep b o (J.ok.bs b o e).1 (J.ok.bs b o e).2 (J.ok.abL e) (J.ok.we b o e),J.base.free b o (J.ok.bs b o e).1 (J.ok.bs b o e).2 (J.ok.we b o e)⟩
def Inv.bk(J:Inv X zn U H s):∀b o,X.base.get? b=some o->s.heap.get? b=some o:=λb o e=>(J.bs b o e).1
def Inv.mod(J:Inv X zn U H s):Mod X.K X.mg X.base:=J.ok.mod
def Inv.f3(J:Inv X zn U H s):X.K.In s.heap:=J.ok.mod.sR.keeps J.bk
def Inv.fr(J:Inv X zn U H s):∃m,Fr X.base X.env.locals s.heap m:=
 let⟨m,o,_⟩:=J.loc
 ⟨m,o,J.bk,akU J.ok.lP J.ok.above⟩
def Inv.lt(J:Inv X zn U H s):X.env.locals<s.heap.objs.size:=let⟨_,o,_⟩:=J.loc;o.lt
def Inv.oR(J:Inv X zn U H s):X.gM.heap.objs.size<=s.heap.objs.size:=akU J.ok.above (al1 J.lt)
def Inv.abN(J:Inv X zn U H s)(h:s.heap.objs.size<=a):a∉X.aU:=λc=>by
 obtain⟨_,o,b,_⟩:=J.ok.ky.mem c;exact absurd (akQ (akr b) (akU J.oR h)) (ak6 _)
def Inv.qE(J:Inv X zn U H s):∀x c,X.env.cells.lookup x=some c->c≠X.env.locals:=λx c e z=>by
 obtain⟨v,o,a,hd⟩:=J.cell x c e;obtain⟨m,⟨g,f,ct,d,b,_⟩,_⟩:=J.loc;rw[z,d]at a;cases a;rw[b]at hd;cases hd
def Inv.ky(J:Inv X zn U H s):s.heap.FunFrames X.base X.outer:=by
 have all:∀(l:List Env),(∀b∈lU l,b∈X.aU)->X.gM.heap.FunFrames X.base l->s.heap.FunFrames X.base l:=by
  intro l
  induction l with
  |nil=>intro _ _;trivial|cons env r i=>
   intro ax hl;obtain⟨j,⟨L,o,d,g,f,hd⟩,h⟩:=hl;have c:L∈X.aU:=ax L (by unfold lU;rw[anO,d];exact akw);obtain⟨bh,e⟩:=J.base.slot L o f (J.ok.pK L c) c λz=>J.ok.u0 L z c
   exact⟨j,⟨L,_,d,g,e,hd⟩,i (λb a=>ax b (by unfold lU;rw[anO,d];exact akq _ a)) h⟩
 exact all X.outer (λ_ a=>a) J.ok.ky
def Inv.stack(J:Inv X zn U H s):s.heap.FunFrames X.base X.stack:=by
 rcases J.ok.Ag with e|⟨e,hf⟩
 .rw[e];exact J.ky
 .rw[e]
  obtain⟨m,a,_⟩:=J.loc;refine .cons (by rw[J.ok.kind];decide) hf a ?_ J.ky;exact Heap.get?_none_of_le (akU J.ok.lP J.ok.above)
def Inv.FT(J:Inv X zn U H s):∀b∈lU X.stack,b∈X.env.locals::X.aU:=λb a=>by
 rcases J.ok.Ag with e|⟨e,hf⟩
 .rw[e]at a;exact akq _ a
 .rw[e]at a
  unfold lU at a;rw[anO,hf]at a;exact a
def Inv.PD(J:Inv X zn U H s):∀b∈lU X.stack,H b=none:=λb a=>by
 rcases akt.mp (J.FT b a)with e|a
 .rw[e];exact J.free
 .obtain⟨_,o,c,_⟩:=J.ok.ky.mem a
  exact J.base.free b o c (J.ok.pK b a) λz=>J.ok.u0 b z a
def Inv.step{g':Array GenState}{t':Nat}{d':Drawn}{ch:List Addr}(J:Inv X zn U H s)
  (y:∀b∈ch,(b∈X.ex\/X.gM.heap.objs.size<=b)/\b≠X.env.locals/\(∀x c,X.env.cells.lookup x=some c->c≠b)/\∀p∈X.nz++zn,p.1≠b)
  (keep:∀b o,b≠X.env.locals->b∉X.aU->b∉ch->s.heap.get? b=some o->H b=none->h'.get? b=some o)
  (slot:∀b o,b≠X.env.locals->b∈X.aU->b∉ch->s.heap.get? b=some o->H b=none->∃bh,h'.get? b=some { o with slots:=bh }) (free:∀b o,b∉ch->s.heap.get? b=some o->H b=none->H' b=none)
  (there:∀b o,b∉ch->s.heap.get? b=some o->∃j,h'.get? b=some j)
  (qc:∀b xs,H b=some (.t xs)->H' b=some (.t xs)) (n6:∀b o u,H b=some (.cD o u)->H' b=some (.cD o u)) (oV:∀b ps,H b=some (.f9 ps)->∃A,H' b=some (.f9 (ps++A)))
  (ns:∀m,s.heap.Ns X.env.locals m->h'.Ns X.env.locals m) (cc:gb X.prog X.w H' h') (M:ant g') :
  Inv X zn U H' { s with heap:=h',gens:=g',drawn:=d',toks:=t' }:=by
 have E:∀b o,X.gM.heap.get? b=some o->b≠X.env.locals:=λb o e=>akR (akQ (akr e) J.ok.above)
 have D:∀b o,X.gM.heap.get? b=some o->b∉X.ex->b∉ch:=λb o e a g=>by
  rcases(y b g).1 with z|z
  .exact a z
  .exact absurd (akQ (akr e) z) (ak6 _)
 have f:∀x c,X.env.cells.lookup x=some c->∀v,s.heap.IsCell c v->h'.IsCell c v:=λx c e v N=>by
  obtain⟨o,h,hd⟩:=N;have B:c∉ch:=λz=>(y c z).2.2.1 x c e rfl
  by_cases G:c∈X.aU
  .obtain⟨bh,q⟩:=slot c o (J.qE x c e) G B h (J.lT x c e)
   exact⟨_,q,hd⟩
  .exact⟨o,keep c o (J.qE x c e) G B h (J.lT x c e),hd⟩
 refine⟨J.ok,J.os,M,⟨λb o e n g a=>?_,λb o e n g a=>?_,λb o e n a=>?_,λb o e a=>?_,λb xs e=>qc b xs (J.base.qc b xs e),λb o xs e=>n6 b o xs (J.base.n6 b o xs e),λb ps e=>?_⟩,?_,λx c e=>?_,?_,λx c e=>?_,λp F=>?_,cc,J.len⟩
 .exact keep b o (E b o e) g (D b o e a) (J.base.keep b o e n g a) (J.base.free b o e n a)
 .obtain⟨bh,av⟩:=J.base.slot b o e n g a
  obtain⟨O,aE⟩:=slot b _ (E b o e) g (D b o e a) av (J.base.free b o e n a);exact⟨O,aE⟩
 .obtain⟨j,av⟩:=J.base.there b o e a
  exact free b j (D b o e a) av (J.base.free b o e n a)
 .obtain⟨j,av⟩:=J.base.there b o e a
  exact there b j (D b o e a) av
 .obtain⟨P,av⟩:=J.base.oV b ps e
  obtain⟨K,aE⟩:=oV b _ av;exact⟨P++K,by rw[aE,Array.append_assoc]⟩
 .obtain⟨m,L,hl⟩:=J.loc
  refine⟨m,ns m L,λi x v av aE cJ=>?_⟩;obtain⟨u,r,l⟩:=hl i x v av aE cJ;refine⟨u,r,?_⟩;rcases l with l|⟨k,c,e,z⟩
  .exact .inl l
  .exact .inr ⟨k,c,e,f x c e _ z⟩
 .obtain⟨v,z⟩:=J.cell x c e
  exact⟨v,f x c e v z⟩
 .obtain⟨m,⟨o,_,_,h,_⟩,_⟩:=J.loc
  exact free _ o (λz=>(y _ z).2.1 rfl) h J.free
 .obtain⟨v,o,h,hd⟩:=J.cell x c e
  exact free c o (λz=>(y c z).2.2.1 x c e rfl) h (J.lT x c e)
 .obtain⟨e,n,ne,I,d⟩:=J.pin p F
  have B:p.1∉ch:=λz=>(y p.1 z).2.2.2 p F rfl
  exact⟨keep p.1 p.2 ne I B e n,free p.1 p.2 B e n,ne,I,d⟩
def Inv.un{t':Nat}(J:Inv X zn U H s)(u:gG X.aU [] H H' s.heap h')(cc:gb X.prog X.w H' h'):Inv X zn U H' { s with heap:=h',toks:=t' }:=by
 obtain⟨m,⟨o,k,ct,c,r⟩,_⟩:=id J.loc;obtain⟨bh,i⟩:=u.any c J.free (by simp);exact J.step (g':=s.gens) (d':=s.drawn) (ch:=[]) (λ_ z=>nomatch z) (λb o _ a _ e n=>u.keep b o e n a (by simp)) (λb o _ a _ e n=>u.slot b o e n a (by simp)) (λb o _ e n=>u.free b o e n (by simp)) (λb o _ e=>u.there b o e (by simp)) u.qc u.n6 u.oV (λp j=>by
  obtain⟨l,g,f,d,h⟩:=j;rw[c]at d;cases d;exact⟨_,g,f,i,h⟩) cc J.bare
def Inv.call{g':Array GenState}{t':Nat}{d':Drawn}{ch:List Addr}(J:Inv X zn U H s)(u:gG (lU X.stack) ch H H' s.heap h')(cc:gb X.prog X.w H' h')(k:ant g')
  (h:∀b∈ch,(b∈X.ex\/X.gM.heap.objs.size<=b)/\b≠X.env.locals/\(∀x c,X.env.cells.lookup x=some c->c≠b)/\∀p∈X.nz++zn,p.1≠b) :
  Inv X zn U H' { s with heap:=h',gens:=g',drawn:=d',toks:=t' }:=by
 obtain⟨m,⟨o,y,ct,f,r⟩,_⟩:=id J.loc;obtain⟨bh,d⟩:=u.any f J.free λz=>(h _ z).2.1 rfl
 exact J.step (ch:=ch) h (λb o d l a e n=>u.keep b o e n (λz=>(akt.mp (J.FT b z)).elim d l) a) (λb o _ _ a e n=>u.any e n a) (λb o a e n=>u.free b o e n a) (λb o a e=>u.there b o e a) u.qc u.n6 u.oV (λB t=>by
  obtain⟨A,j,i,g,q⟩:=t;rw[f]at g;cases g;exact⟨_,j,i,d,q⟩) cc k
def Inv.turned{t':Nat}{it:Addr}(J:Inv X zn U H s)(k:∀b o,b≠it->s.heap.get? b=some o->h'.get? b=some o)(h:H it=none)(d:it≠X.env.locals)
  (j:it∈X.ex\/X.gM.heap.objs.size<=it) (l:∀x c,X.env.cells.lookup x=some c->c≠it) (w:∀p∈X.nz++zn,p.1≠it):Inv X zn U H { s with heap:=h',toks:=t' }:=by
 have f:∀b u,H b=some u->b≠it:=λb u e z=>by rw[z,h]at e;cases e
 refine J.step (g':=s.gens) (d':=s.drawn) (ch:=[it]) (λb i=>?_) (λb o _ _ a e _=>k b o (λz=>a (by simp[z])) e) (λb o _ _ a e _=>⟨o.slots,k b o (λz=>a (by simp[z])) e⟩) (λ_ _ _ _ n=>n)
  (λb o a e=>⟨o,k b o (λz=>a (by simp[z])) e⟩) (λ_ _ e=>e) (λ_ _ _ e=>e) (λb ps e=>⟨#[],by rw[e];simp⟩) (λm y=>?_) (λb u e=>?_) J.bare
 .have e:b=it:=by simpa using i
  subst e;exact⟨j,d,l,w⟩
 .obtain⟨o,t,ct,g,r⟩:=y
  exact⟨o,t,ct,k _ o (amV d) g,r⟩
 .refine(J.cc b u e).rD (λc v a q=>k c v ?_ q) (λ_ q=>q) λ_ _ q=>q
  rcases a with z|z
  .rw[z];exact f b u e
  .exact f c _ z
theorem Inv.tok(J:Inv X zn U H s)(t:Nat):Inv X zn U H { s with toks:=t }:=J.un (h':=s.heap) (t':=t) gG.refl J.cc
def Inv.kept{t':Nat}(J:Inv X zn U H s)(k:∀b u,s.heap.get? b=some u->h'.get? b=some u):Inv X zn U H { s with heap:=h',toks:=t' }:=J.un (gG.kept k) (J.cc.kept k)
def Inv.laid{t':Nat}(J:Inv X zn U H s)(k:∀b u,s.heap.get? b=some u->h'.get? b=some u)(c:s.heap.objs.size<=a)(new:iL X.prog X.w (upd H a o) h' a o) :
  Inv X zn U (upd H a o) { s with heap:=h',toks:=t' }:=J.un (gG.laid k c (J.cc.fresh c)) (J.cc.laid k c new)
def Inv.write{x e:Addr}{o:gF}{t':Nat}(J:Inv X zn U H s)(a:xC (H x))(he:e=x\/H e=some (.own x))(k:∀b u,b≠e->s.heap.get? b=some u->h'.get? b=some u)(c:∃u,h'.get? e=some u)
  (new:iL X.prog X.w (upd H x o) h' x o):Inv X zn U (upd H x o) { s with heap:=h',toks:=t' }:=J.un (gG.write a he k c) (J.cc.write a he k c new)
def Inv.weak{U':List (Option V)}(J:Inv X zn U H s)(hl:U'.length=U.length)(w:∀(i:Nat) v,U'[i]? = some (some v)->U[i]? = some (some v)):Inv X zn U' H s:=
 ⟨J.ok,J.os,J.bare,J.base,let⟨m,C,o⟩:=J.loc;⟨m,C,λi x v av aE cJ=>o i x v av (w i v aE) cJ⟩,J.cell,J.free,J.lT,J.pin,J.cc,hl.trans J.len⟩
def Inv.OM(J:Inv X zn U H s)(h:∀p∈o,s.heap.get? p.1=some p.2/\H p.1=none/\p.1≠X.env.locals/\p.1∉X.aU/\∀v,p.2.data≠.cell v):Inv X o U H s:=
 ⟨J.ok,J.os,J.bare,J.base,J.loc,J.cell,J.free,J.lT,λp a=>(alc.mp a).elim (λz=>J.pin p (List.mem_append_left _ z)) (h p),J.cc,J.len⟩
def N8{N:List Str}(hN:N.Nodup){i j:Nat}{x:Str}(a:N[i]? = some x)(b:N[j]? = some x):i=j:=by
 obtain⟨c,av⟩:=akd.mp a;obtain⟨d,aE⟩:=akd.mp b;exact(List.getElem_inj hN).mp (av.trans aE.symm)
theorem PF{M:Model}{A:akL}{E:dj}{i:Nat}{x:Str}{v:V}{u:Value}{Q:Unit->akj->Prop}(J:Inv X zn U H s)(hN:X.N.Nodup)(hi:X.N[i]? = some x)(l:Loc X.env.scope x)(r:RelV v u)
  (h:∀G,Inv X zn (U.set i (some v)) H G->(∃a,aou a s.heap G.heap/\(a=X.env.locals\/X.env.cells.lookup x=some a))->Q () G) (hf:X.fn x=true\/X.env.scope.names.lookup x=some .local:=by first|exact .inl rfl|exact .inr rfl|assumption):wpAny M A (storeName X.env x u) Q E s:=by
 obtain⟨m,I,hl⟩:=id J.loc;have W3:(X.env.scope.kind==.class||(X.env.scope.kind==.module&&X.env.locals != X.env.globals))=false:=by rw[J.ok.kind];rfl
 have T:i<U.length:=by rw[J.len];exact(akd.mp hi).1
 have qE:=J.qE;have f:∀{a:Addr}{h':Heap},(∃o,s.heap.get? a=some o/\H a=none)->aou a s.heap h'->gb X.prog X.w H h':=λ{a h'} ar ax b bc e=>by
  obtain⟨_,_,Z⟩:=ar;refine(J.cc b bc e).rD (λc D g q=>(ax.2 c ?_).trans q) (λ_ q=>q) λ_ _ q=>q
  rintro rfl;rcases g with rfl|g
  .rw[Z]at e;cases e
  .rw[Z]at g;cases g
 rcases l with C|C
 .refine wpAny_storeName_local C I (λh' XH ax=>?_) W3
  obtain⟨L,_,_,q6,_⟩:=id I;refine h _ ⟨J.ok,J.os,J.bare,⟨λb o e n t l=>?_,λb o e n t l=>?_,J.base.free,λb o e l=>?_,J.base.qc,J.base.n6,J.base.oV⟩,⟨_,XH,λj y R av aE cJ=>?_⟩,λy c e=>?_,J.free,J.lT,λp K=>?_,f ⟨L,q6,J.free⟩ ax,by simpa using J.len⟩ ⟨_,ax,.inl rfl⟩
  .exact(ax.2 b (akR (akQ (akr e) J.ok.above))).trans (J.base.keep b o e n t l)
  .obtain⟨bh,av⟩:=J.base.slot b o e n t l
   exact⟨bh,(ax.2 b (akR (akQ (akr e) J.ok.above))).trans av⟩
  .obtain⟨P,av⟩:=J.base.there b o e l
   exact⟨P,(ax.2 b (akR (akQ (akr e) J.ok.above))).trans av⟩
  .by_cases B:j=i
   .subst B
    rw[hi]at av;cases av;rw[akE T]at aE;cases aE;exact⟨u,r,.inl ⟨C,by simp⟩⟩
   .rw[akn (amV B)]at aE
    obtain⟨u',O,q⟩:=hl j y R av aE cJ;refine⟨u',O,?_⟩;rcases q with⟨k,e⟩|⟨k,c,e,z⟩
    .refine .inl ⟨k,?_⟩
     have:y≠x:=λe=>B (N8 hN av (e▸hi))
     simp[this,e]
    .exact .inr ⟨k,c,e,z.sameBut ax (qE y c e)⟩
  .obtain⟨D,z⟩:=J.cell y c e
   exact⟨D,z.sameBut ax (qE y c e)⟩
  .obtain⟨e,n,ne,S,d⟩:=J.pin p K
   exact⟨(ax.2 p.1 ne).trans e,n,ne,S,d⟩
 .have F:X.fn x=true:=by
   rcases hf with z|z
   .exact z
   .rw[z]at C;cases C
  obtain⟨c,g⟩:=J.ok.has x (.inl C);obtain⟨D,z⟩:=J.cell x c g;refine wpAny_storeName_cell J.ok.kind C g z (λh' W ax=>?_);obtain⟨dE,yQ,XO⟩:=id z;refine h { s with heap:=h' } ⟨J.ok,J.os,J.bare,⟨λb o e n t l=>?_,λb o e n t l=>?_,J.base.free,λb o e l=>?_,J.base.qc,J.base.n6,J.base.oV⟩,⟨m,I.sameBut ax (amV (qE x c g)),λj y R av aE cJ=>?_⟩,λy c' e=>?_,J.free,J.lT,λp K=>?_,f ⟨dE,yQ,J.lT x c g⟩ ax,by simpa using J.len⟩ ⟨c,ax,.inr g⟩
  .exact(ax.2 b (akR (akQ (akr e) (J.ok.uR x c F g)))).trans (J.base.keep b o e n t l)
  .obtain⟨bh,av⟩:=J.base.slot b o e n t l
   exact⟨bh,(ax.2 b (akR (akQ (akr e) (J.ok.uR x c F g)))).trans av⟩
  .obtain⟨P,av⟩:=J.base.there b o e l
   exact⟨P,(ax.2 b (akR (akQ (akr e) (J.ok.uR x c F g)))).trans av⟩
  .by_cases B:j=i
   .subst B
    rw[hi]at av;cases av;rw[akE T]at aE;cases aE;exact⟨u,r,.inr ⟨.inl C,c,g,W⟩⟩
   .rw[akn (amV B)]at aE
    obtain⟨u',O,q⟩:=hl j y R av aE cJ;refine⟨u',O,?_⟩;rcases q with q|⟨k,c',e,iE⟩
    .exact .inl q
    .refine .inr ⟨k,c',e,iE.sameBut ax ?_⟩
     rintro rfl;exact B (N8 hN av (J.ok.inj _ _ _ e g▸hi))
  .by_cases Y:c'=c
   .subst Y;exact⟨_,W⟩
   .obtain⟨my,ei⟩:=J.cell y c' e
    exact⟨my,ei.sameBut ax Y⟩
  .obtain⟨e,n,ne,S,d⟩:=J.pin p K
   refine⟨(ax.2 p.1 ?_).trans e,n,ne,S,d⟩;intro q;rw[q,yQ]at e;have fU:dE=p.2:=akI e;exact d D (by rw[<-fU];exact XO)
def PE{M:Model}{A:akL}{E:dj}{i:Nat}{x:Str}{v:V}{u:Value}{Q:Unit->akj->Prop}(J:Inv X zn U H s)(hN:X.N.Nodup)(hi:X.N[i]? = some x)(b:Loc X.env.scope x)(r:RelV v u)
  (h:∀a,Inv X zn (U.set i (some v)) H a->Q () a) (d:X.fn x=true\/X.env.scope.names.lookup x=some .local:=by first|exact .inl rfl|exact .inr rfl|assumption):wpAny M A (storeName X.env x u) Q E s:=
 PF J hN hi b r (λa c _=>h a c) d
theorem Inv.SY{a:akj}{ch:List Addr}(J:Inv X zn U H s)(d:a.os=s.os)(u:gG (lU X.stack) ch H H' s.heap a.heap)(cc:gb X.prog X.w H' a.heap)(f:ant a.gens)
  (h:∀b∈ch,(b∈X.ex\/X.gM.heap.objs.size<=b)/\b≠X.env.locals/\(∀x c,X.env.cells.lookup x=some c->c≠b)/\∀p∈X.nz++zn,p.1≠b):Inv X zn U H' a:=by
 obtain⟨h',g',d',t',g⟩:=a;have e:g=s.os:=d;subst e;exact J.call (g':=g') (t':=t') (d':=d') u cc f h
end
abbrev gw:=Value->Option Addr->aw->Prop
abbrev St:=List (Option V)
abbrev cU:=V->aw->Prop
abbrev TE:=St->aw->cU->Prop
abbrev TT:=St->aw->(Bool->aw->Prop)->Prop
abbrev fR:=St->aw->(List V->aw->Prop)->Prop
structure Ends where
 bw:St->aw->Prop
 cn:cU
 bk:St->aw->Prop:=λ_ _=>False
 cm:St->aw->Prop:=λ_ _=>False
abbrev gu:=Ends->St->aw->Prop
def hp(X:aT)(zn:c0)(U:St)(Q:cU)(u:Value)(a:akj):Prop:=∃v H',Inv X zn U H' a/\RelV v u/\Q v H'
def Bh(X:aT)(zn:c0)(U:St)(Q:Bool->aw->Prop)(b:Bool)(a:akj):Prop:=∃H',Inv X zn U H' a/\Q b H'
def Qy(X:aT)(zn:c0)(U:St)(Q:List V->aw->Prop)(us:List Value)(a:akj):Prop:=∃vs H',Inv X zn U H' a/\Vals vs us/\Q vs H'
def r2(X:aT)(zn:c0)(D:Ends)(f:Flow)(a:akj):Prop:=
 match f with
 |.next=>∃U' H',Inv X zn U' H' a/\D.bw U' H'|.brk=>∃U' H',Inv X zn U' H' a/\D.bk U' H'|.cont=>∃U' H',Inv X zn U' H' a/\D.cm U' H'|.ret u=>∃v U' H',Inv X zn U' H' a/\RelV v u/\D.cn v H'
def b2(X:aT)(e:Expr)(t:TE):Prop:=
 ∀(zn:c0)(s:akj)(U:St)(H:aw)(Q:cU),Inv X zn U H s->t U H Q->wpAny (model X.prog X.w) X.A (eval e X.env) (hp X zn U Q) X.dP s
def ik(X:aT)(e:Expr)(t:TT):Prop:=
 ∀(zn:c0)(s:akj)(U:St)(H:aw)(Q:Bool->aw->Prop),Inv X zn U H s->t U H Q->wpAny (model X.prog X.w) X.A (isTrue e X.env (eval e X.env)) (Bh X zn U Q) X.dP s
def lH(X:aT)(e:Expr)(t:TT):Prop:=
 ∀(a:Sem Value)(zn:c0)(s:akj)(U:St)(H:aw)(Q:Bool->aw->Prop),Inv X zn U H s->t U H Q->wpAny (model X.prog X.w) X.A (isTrue e X.env a) (Bh X zn U Q) X.dP s
def lH.pt(h:lH X e t):ik X e t:=h _
def gS(X:aT)(a:List Expr)(t:fR):Prop:=
 ∀(pos:Pos)(zn:c0)(s:akj)(U:St)(H:aw)(Q:List V->aw->Prop),Inv X zn U H s->t U H Q->wpAny (model X.prog X.w) X.A (spliced (akJ pos (ake a X.env))) (Qy X zn U Q) X.dP s
def ih(X:aT)(st:Stmt)(t:gu):Prop:=
 ∀(zn:c0)(s:akj)(U:St)(H:aw)(D:Ends),Inv X zn U H s->t D U H->wpAny (model X.prog X.w) X.A (exec st X.env) (r2 X zn D) X.dP s
def ij(X:aT)(st:List Stmt)(t:gu):Prop:=
 ∀(zn:c0)(s:akj)(U:St)(H:aw)(D:Ends),Inv X zn U H s->t D U H->wpAny (model X.prog X.w) X.A (execs st X.env) (r2 X zn D) X.dP s
def b0{α:Type}{t:Sem α}{Q b:α->akj->Prop}{M:Model}{A:akL}{E:dj}{s:akj}(h:wpAny M A t Q E s)(c:∀a s,Q a s->b a s):wpAny M A t b E s:=ak9 h c λ_ _ x=>x
section
variable{X:aT}
def afq(i:Nat):TE:=λU H Q=>∃v,U[i]? = some (some v)/\Q v H
def oS(v:V):TE:=λ_ H Q=>Q v H
def wC(hN:X.N[i]? = some x)(b:nR X.env.scope x)(hd:(x==("__debug__":Str))=false:=by decide)(d:(x==("__classdict__":Str))=false:=by decide):b2 X (.Name x pos) (afq i):=by
 intro zn s U H Q J h;obtain⟨v,e,h⟩:=h;obtain⟨m,a,hl⟩:=J.loc;obtain⟨u,r,l⟩:=hl i x v hN e b;have fin:hp X zn U Q u s:=⟨v,H,J,r,h⟩;rcases l with⟨o,hm⟩|⟨o,c,hc,C⟩
 .exact wpAny_Name (wpAny_loadName_local J.ok.kind o a hm fin) hd
 .rcases o with o|o
  .exact wpAny_Name (wpAny_loadName_cell J.ok.kind o hc C fin) hd
  .exact wpAny_Name (wpAny_loadName_free J.ok.kind o hc C fin d) hd
def ac7{i j pos}:b2 X (.Constant (.int i) j pos) (oS (.int i)):=λ_ _ _ H _ J h=>wpAny_Constant_int ⟨.int i,H,J.tok _,⟨_,rfl⟩,h⟩
def acV{b j pos}:b2 X (.Constant (.bool b) j pos) (oS (.ay b)):=λ_ _ _ H _ J h=>Constant_bool ⟨.ay b,H,J,rfl,h⟩
def adf{j pos}:b2 X (.Constant .none j pos) (oS .aJ):=λ_ _ _ H _ J h=>Constant_none ⟨.aJ,H,J,rfl,h⟩
def adj{x j pos}:b2 X (.Constant (.str x) j pos) (oS (.str x)):=λ_ _ _ H _ J h=>Calls.Constant_str ⟨.str x,H,J.tok _,⟨_,rfl⟩,h⟩
def eb(X:aT)(x:Str):Prop:=X.env.kindOf x=some .globalImplicit
def sU{E:dj}{zn:c0}{s:akj}{U:St}{H:aw}{x:Str}{u:Value}{pos:Pos}{Q:dj}(J:Inv X zn U H s)(a:eb X x)(b:X.mg x=some u)(h:Q u s)
  (hd:(x==("__debug__":Str))=false:=by decide):wpAny (model X.prog X.w) X.A (eval (.Name x pos) X.env) Q E s:=
 an8 J.ok.kind a (Calls.loadGlobal_global (by rw[J.ok.glob];exact J.mod.glob.keeps J.bk) b h) hd
def nk{E:dj}{zn:c0}{s:akj}{U:St}{H:aw}{x:Str}{u:Value}{pos:Pos}{Q:dj}(J:Inv X zn U H s)(b:eb X x)(f:X.mg x=none)(e:ak1 x=some u)(h:Q u s)
  (a:x≠"__name__":=by decide) (hd:(x==("__debug__":Str))=false:=by decide):wpAny (model X.prog X.w) X.A (eval (.Name x pos) X.env) Q E s:=by
 obtain⟨g,c,d⟩:=J.mod.blt;exact an8 J.ok.kind b (Calls.loadGlobal_builtin (by rw[J.ok.glob];exact J.mod.glob.keeps J.bk) f (by rw[J.ok.blt];exact c.keeps J.bk) ((d x a).trans e) h) hd
def ac6{v:V}(a:eb X x)(b:X.mg x=some u)(r:RelV v u)(hd:(x==("__debug__":Str))=false:=by decide):b2 X (.Name x pos) (oS v):=
 λ_ _ _ H _ J h=>sU J a b ⟨v,H,J,r,h⟩ hd
def wB{v:V}(b:eb X x)(d:X.mg x=none)(c:ak1 x=some u)(r:RelV v u)(a:x≠"__name__":=by decide)(hd:(x==("__debug__":Str))=false:=by decide):b2 X (.Name x pos) (oS v):=
 λ_ _ _ H _ J h=>nk J b d c ⟨v,H,J,r,h⟩ a hd
variable{a b:Expr}{b9 cC:TE}{pos:Pos}
def QU(X:aT)(op:CmpOp)(a b:Expr)(t:TE):Prop:=
 ∀(zn:c0)(s:akj)(U:St)(H:aw)(Q:cU),Inv X zn U H s->t U H Q->
  wpAny (model X.prog X.w) X.A (eval a X.env) (λv c=>wpAny (model X.prog X.w) X.A (eval b X.env) (λu d=>wpAny (model X.prog X.w) X.A (akX op v u) (hp X zn U Q) X.dP d) X.dP c) X.dP s
def abK(b:Expr){op:CmpOp}(h:op≠.In)(c:op≠.NotIn):al7 op b=false:=by
 have av:(op==CmpOp.In)=false:=by cases op<;>first|rfl|exact absurd rfl h
 have aE:(op==CmpOp.NotIn)=false:=by cases op<;>first|rfl|exact absurd rfl c
 cases b<;>simp[al7,av,aE]
def PJ(t:TE):TT:=λU H Q=>t U H λx d=>∃c,x=.ay c/\Q c d
def ajV{op:CmpOp}(h:QU X op a b t)(e:al7 op b=false:=by first|exact abK _ (by decide) (by decide)|rfl):ik X (.Compare a [op] [b] pos) (PJ t):=by
 intro zn s U H Q J hw;refine wpAny_isTrue_Compare1 (b0 (h zn s U H _ J hw) λv k e=>b0 e λu s2 g=>b0 g λc s3 ⟨x,f,i,j,br⟩=>?_) e;obtain⟨d,rfl,q⟩:=br;cases j;exact als ⟨f,i,q⟩
def adQ{e:Expr}(h:b2 X e t)(he:∀c,isTrue e X.env c=(do let v <-c;ama e.pos;alm [v] (truthy v)):=by intro _;rfl):ik X e (PJ t):=by
 intro zn s U H Q J hw;refine isTrue_plain (b0 (h zn s U H _ J hw) λv j ⟨x,f,g,i,br⟩=>?_) (he _);obtain⟨d,rfl,q⟩:=br;cases i;exact als ⟨f,g,q⟩
variable{nB Ak:TT}{rest:List Expr}
def ae3(t u:TT):TT:=λU H Q=>t U H λc d=>if c=true then u U d Q else Q false d
def afi(t u:TT):TT:=λU H Q=>t U H λc d=>if c=true then Q true d else u U d Q
def afg(t:TT):TT:=λU H Q=>t U H λc d=>Q (!c) d
def adW(d:ik X a nB):lH X (.BoolOp .And [a] pos) nB:=by
 intro f zn s U H Q J h;refine isTrue_and (b0 (d zn s U H Q J h) λc g e=>?_)
 cases c with
 |true=>exact isTrue_and_nil e|false=>exact e
def adY(d:ik X a nB):lH X (.BoolOp .Or [a] pos) nB:=by
 intro f zn s U H Q J h;refine isTrue_or (b0 (d zn s U H Q J h) λc g e=>?_)
 cases c with
 |false=>exact isTrue_or_nil e|true=>exact e
def adV(i:ik X a nB)(g:lH X (.BoolOp .And (b::rest) pos) Ak):lH X (.BoolOp .And (a::b::rest) pos) (ae3 nB Ak):=by
 intro j zn s U H Q J h;refine isTrue_and (b0 (i zn s U H _ J h) λc k f=>?_);obtain⟨d,e,br⟩:=f
 cases c with
 |true=>exact g j zn k U d Q e br|false=>exact⟨d,e,br⟩
def adX(i:ik X a nB)(g:lH X (.BoolOp .Or (b::rest) pos) Ak):lH X (.BoolOp .Or (a::b::rest) pos) (afi nB Ak):=by
 intro j zn s U H Q J h;refine isTrue_or (b0 (i zn s U H _ J h) λc k f=>?_);obtain⟨d,e,br⟩:=f
 cases c with
 |true=>exact⟨d,e,br⟩|false=>exact g j zn k U d Q e br
def adP(e:ik X a nB):ik X (.UnaryOp .Not a pos) (afg nB):=by
 intro zn s U H Q J h;exact isTrue_not (e zn s U H (λc d=>Q (!c) d) J h)
def ae4(b9 cC:TE):TE:=λU H Q=>b9 U H λx d=>∃c,x=.ay c/\if c=true then cC U d Q else Q (.ay false) d
def afh(b9:TE):TE:=λU H Q=>b9 U H λx d=>∃c,x=.ay c/\Q (.ay (!c)) d
def adh{op}(h:b2 X a t):b2 X (.BoolOp op [a] pos) t:=λzn s U H Q J hw=>BoolOp_one (h zn s U H Q J hw)
def acU(i:b2 X a b9)(g:b2 X (.BoolOp .And (b::rest) pos) cC):b2 X (.BoolOp .And (a::b::rest) pos) (ae4 b9 cC):=by
 intro zn s U H Q J h;refine BoolOp_and (b0 (i zn s U H _ J h) λv k f=>?_);obtain⟨x,d,e,j,br⟩:=f;obtain⟨c,rfl,br⟩:=br;cases j;refine als ?_
 cases c with
 |true=>exact g zn k U d Q e br|false=>exact⟨.ay false,d,e,rfl,br⟩
def adg(f:b2 X a b9):b2 X (.UnaryOp .Not a pos) (afh b9):=by
 intro zn s U H Q J h;refine UnaryOp_ (b0 (f zn s U H _ J h) λv j e=>?_);obtain⟨x,d,g,i,br⟩:=e;obtain⟨c,rfl,br⟩:=br;cases i;exact not_of (als ⟨.ay (!c),d,g,rfl,br⟩)
end
def dr(K:aO)(H:aw)(a:Addr)(xs:List V):Prop:=
 hr H a (.l xs)\/
  ∃(o:Obj)(its:Array Value)(n:Nat),K.lookup a=some o/\o.cls=.type "list"/\o.dict=none/\o.data=.seq its n/\its.size<=aki/\Vals xs its.toList
def dy(K:aO)(H:aw)(a:Addr)(xs:List V):Prop:=
 hr H a (.t xs)\/
  ∃(o:Obj)(its:Array Value)(n:Nat),K.lookup a=some o/\o.cls=.type "tuple"/\o.data=.seq its n/\its.size<=aki/\Vals xs its.toList
def Q2:Value->Option V
 |.none=>some .aJ|.bool b=>some (.ay b)|.int i _=>some (.int i)|.str x _=>some (.str x)|.bytes b _=>some (.x1 b)|.float b _=>some (.yn b)|.ref a=>some (.ref a)|.type n=>some (.ty n)|_=>none
def RelV.abs(r:RelV x u):Q2 u=some x:=by
 cases x with
 |aJ=>cases r;rfl
 |ay _=>cases r;rfl
 |int _=>obtain⟨t,rfl⟩:=r;rfl
 |str _=>obtain⟨t,rfl⟩:=r;rfl
 |x1 _=>obtain⟨t,rfl⟩:=r;rfl
 |yn _=>obtain⟨t,rfl⟩:=r;rfl
 |ref _=>cases r;rfl
 |ty _=>cases r;rfl
def RelV.inj(r:RelV x u)(q:RelV y u):x=y:=akI (r.abs.symm.trans q.abs)
theorem Vals.inj:∀{xs ys:List V}{us:List Value},Vals xs us->Vals ys us->xs=ys
 |_,_,_,.nil,.nil=>rfl| _,_,_,.cons r t,.cons o t'=>by rw[r.inj o,Vals.inj t t']
section
variable{X:aT}{zn:c0}{U:St}{H:aw}{s:akj}{a:Addr}{xs ys:List V}
def dr.of{K:aO}(h:H a=some (.l xs)):dr K H a xs:=.inl (.inl h)
def dy.of{K:aO}(h:H a=some (.t xs)):dy K H a xs:=.inl (.inl h)
def Inv.list(J:Inv X zn U H s)(h:dr X.K H a xs):∃its:List Value,Vals xs its/\PlainL s.heap a its.toArray/\xs.length<=aki:=by
 rcases h with h|⟨o,its,n,C,hc,hd,ax,hz,r⟩
 .obtain⟨z,its,n,r,e⟩:=h.ok J.cc
  exact⟨its,r,⟨_,n,e,rfl,rfl,rfl⟩,z⟩
 .refine⟨its.toList,r,⟨o,n,J.f3 a o C,hc,hd,by simpa using ax⟩,?_⟩
  have e:=r.length;simp only[ak0]at e;omega
def Inv.tuple(J:Inv X zn U H s)(h:dy X.K H a xs):∃its:List Value,Vals xs its/\IsTup s.heap a its.toArray/\xs.length<=aki:=by
 rcases h with h|⟨o,its,n,C,hc,ax,hz,r⟩
 .obtain⟨z,its,r,p⟩:=h.ok J.cc
  exact⟨its,r,p,z⟩
 .refine⟨its.toList,r,⟨o,J.f3 a o C,hc,n,by simpa using ax⟩,?_⟩
  have e:=r.length;simp only[ak0]at e;omega
def Inv.ND(J:Inv X zn U H s)(h:dr X.K H a xs)(h':dr X.K H a ys):xs=ys:=by
 obtain⟨its,r,⟨o,n,e,_,_,d⟩,_⟩:=J.list h;obtain⟨its',c,⟨f,g,b,_,_,d'⟩,_⟩:=J.list h';rw[e]at b;cases b;rw[d]at d';injection d' with C _
 have:its=its':=by simpa using congrArg Array.toList C
 subst this;exact r.inj c
def Inv.PS(J:Inv X zn U H s)(h:dy X.K H a xs)(h':dy X.K H a ys):xs=ys:=by
 obtain⟨its,r,⟨o,e,_,n,d⟩,_⟩:=J.tuple h;obtain⟨its',c,⟨f,b,_,g,d'⟩,_⟩:=J.tuple h';rw[e]at b;cases b;rw[d]at d';injection d' with C _
 have:its=its':=by simpa using congrArg Array.toList C
 subst this;exact r.inj c
end
abbrev aT.mA(X:aT)(E:dj):aT:={ X with dP:=E }
abbrev aT.gA(X:aT):aT:=X.mA λ_ _=>False
def aT.Ok.mA{X:aT}(ok:X.Ok)(E:dj):(X.mA E).Ok:=
 ⟨ok.mod,ok.kind,ok.glob,ok.blt,ok.above,ok.inj,ok.has,ok.uR,ok.hd,ok.frames,ok.Ag,ok.yj,ok.bs,ok.lP,ok.we,ok.u0,ok.ky,ok.pK⟩
def aT.Ok.oY{X:aT}(ok:(X.mA E).Ok):X.Ok:=
 ⟨ok.mod,ok.kind,ok.glob,ok.blt,ok.above,ok.inj,ok.has,ok.uR,ok.hd,ok.frames,ok.Ag,ok.yj,ok.bs,ok.lP,ok.we,ok.u0,ok.ky,ok.pK⟩
section
variable{X:aT}{zn:c0}{U:St}{H:aw}{s:akj}{E:dj}
def Inv.mA(J:Inv X zn U H s)(E:dj):Inv (X.mA E) zn U H s:=⟨J.ok.mA E,J.os,J.bare,J.base,J.loc,J.cell,J.free,J.lT,J.pin,J.cc,J.len⟩
def Inv.oY(J:Inv (X.mA E) zn U H s):Inv X zn U H s:=⟨J.ok.oY,J.os,J.bare,J.base,J.loc,J.cell,J.free,J.lT,J.pin,J.cc,J.len⟩
def r2.oY{D:Ends}(h:r2 (X.mA E) zn D f o):r2 X zn D f o:=by
 cases f with
 |next=>obtain⟨U',H',J,q⟩:=h;exact⟨U',H',J.oY,q⟩
 |brk=>obtain⟨U',H',J,q⟩:=h;exact⟨U',H',J.oY,q⟩
 |cont=>obtain⟨U',H',J,q⟩:=h;exact⟨U',H',J.oY,q⟩
 |ret u=>obtain⟨v,U',H',J,r,q⟩:=h;exact⟨v,U',H',J.oY,r,q⟩
theorem b2.gA(h:b2 X.gA e t):b2 X e t:=λzn s U H Q J hw=>
 ak9 (h zn s U H Q (J.mA _) hw) (λ_ _ ⟨v,H',a,r,q⟩=>⟨v,H',a.oY,r,q⟩) λ_ _ z=>akT z
theorem ij.gA{st:List Stmt}{t:gu}(h:ij X.gA st t):ij X st t:=λzn s U H D J hw=>
 ak9 (h zn s U H D (J.mA _) hw) (λ_ _ q=>q.oY) λ_ _ z=>akT z
end
section
variable{X:aT}{st:Stmt}{rest:List Stmt}{t u:gu}{e:Expr}{te:TE}{pos:Pos}
def afe:gu:=λD U H=>D.bw U H
def afm(t u:gu):gu:=λD U H=>t { D with bw:=u D } U H
def adJ:ij X [] afe:=λ_ _ U H _ J h=>anB ⟨U,H,J,h⟩
def OR(a:ih X st t)(b:ij X rest u):ij X (st::rest) (afm t u):=by
 intro zn s U H D J h;refine wpAny_execs_cons (b0 (a zn s U H { D with bw:=u D } J h) λf d q=>?_)
 cases f with
 |next=>
  obtain⟨U',H',c,q⟩:=q;exact b zn d U' H' D c q
 |ret v=>exact q|brk=>exact q|cont=>exact q
def OS(a:ih X st t):ij X [st] t:=by
 intro zn s U H D J h;refine wpAny_execs_cons (b0 (a zn s U H D J h) λf b q=>?_)
 cases f with
 |next=>exact anB q
 |ret v=>exact q|brk=>exact q|cont=>exact q
def Inv.quiet{s:akj}(J:Inv X zn U H s):interactive X.env=false:=by simp[interactive,J.ok.kind]
def ae8(te:TE):gu:=λD U H=>te U H λ_ a=>D.bw U a
def Ff(he:b2 X e te)(ax:alW e none pos.line X.env=pure false:=by rfl):ih X (.Expr e pos) (ae8 te):=by
 intro zn s U H D J h;exact wpAny_Expr_any (b0 (he zn s U H _ J h) λv d ⟨x,a,b,c,br⟩=>⟨U,a,b,br⟩) J.quiet ax
def afk(te:TE):gu:=λD U H=>te U H D.cn
def Fg(he:b2 X e te):ih X (.Return (some e) pos) (afk te):=by
 intro zn s U H D J h;exact wpAny_Return_some (b0 (he zn s U H _ J h) λv d ⟨x,a,b,c,br⟩=>⟨x,U,a,b,c,br⟩)
def afl:gu:=λD _ H=>D.cn .aJ H
def adI:ih X (.Return none pos) afl:=λ_ _ U H _ J h=>wpAny_Return_none ⟨.aJ,U,H,J,rfl,h⟩
def afa(c:TT)(t u:gu):gu:=λD U H=>c U H λb a=>if b=true then t D U a else u D U a
def OP(m:ik X c o)(l:ij X a t)(k:ij X b u):ih X (.If c a b pos) (afa o t u):=by
 intro zn s U H D J h;refine wpAny_If (b0 (m zn s U H _ J h) λd i j=>?_);obtain⟨f,g,br⟩:=j
 cases d with
 |true=>exact l zn i U f D g br|false=>exact k zn i U f D g br
def afd:gu:=λ_ _ _=>False
def adH:ih X st afd:=λ_ _ _ _ _ _ h=>h.elim
end
abbrev iM:=V->St->aw->(St->aw->Prop)->Prop
abbrev pq:=List V->St->aw->(St->aw->Prop)->Prop
def nN(X:aT)(a:Expr)(t:iM):Prop:=
 ∀(zn:c0)(s:akj)(U:St)(H:aw)(v:V)(u:Value)(Q:St->aw->Prop),Inv X zn U H s->RelV v u->t v U H Q->
  wpAny (model X.prog X.w) X.A (al8 a X.env u) (λ_ b=>∃U' H',Inv X zn U' H' b/\Q U' H') X.dP s
def qt(X:aT)(dN:List Expr)(t:pq):Prop:=
 ∀(zn:c0)(s:akj)(U:St)(H:aw)(vs:List V)(us:List Value)(Q:St->aw->Prop),Inv X zn U H s->Vals vs us->t vs U H Q->
  wpAny (model X.prog X.w) X.A (assignInOrder ((ala dN X.env).map (·.2)) us) (λ_ a=>∃U' H',Inv X zn U' H' a/\Q U' H') X.dP s
abbrev Bi:=V->V->V->aw->(aw->Prop)->Prop
def GO(X:aT)(t:Bi):Prop:=
 ∀(zn:c0)(s:akj)(U:St)(H:aw)(o i v:V)(bM a u:Value)(Q:aw->Prop),Inv X zn U H s->RelV o bM->RelV i a->RelV v u->t o i v H Q->
  wpAny (model X.prog X.w) X.A (setItem bM a u) (λ_ b=>∃H',Inv X zn U H' b/\Q H') X.dP s
section
variable{X:aT}{pos:Pos}
def kz(i:Nat):iM:=λv U H Q=>Q (U.set i (some v)) H
def tJ(hN:X.N.Nodup)(hi:X.N[i]? = some x)(a:Loc X.env.scope x)(c:X.fn x=true\/X.env.scope.names.lookup x=some .local:=by first|exact .inl rfl|exact .inr rfl|assumption):nN X (.Name x pos) (kz i):=by
 intro zn s U H v u Q J r h;exact wpAny_assign_Name (PE J hN hi a r (λd b=>⟨_,H,b,h⟩) c)
def LL:pq:=λvs U H Q=>vs=[]/\Q U H
def LJ(t:iM)(u:pq):pq:=λvs U H Q=>∃v r,vs=v::r/\t v U H λU' H'=>u r U' H' Q
def ads:qt X [] LL:=by
 intro zn s U H vs us Q J r h;obtain⟨e,h⟩:=h;subst e;cases r;exact assignInOrder_nil ⟨U,H,J,h⟩
def adp{e:Expr}{a:List Expr}{t:iM}{u:pq}(d:nN X e t)(f:qt X a u)
  (ax:(ala (e::a) X.env).map (·.2)=al8 e X.env::(ala a X.env).map (·.2):=by rfl):qt X (e::a) (LJ t u):=by
 intro zn s U H vs us Q J r h;obtain⟨v,l,av,h⟩:=h;subst av
 cases r with
 |cons r i=>
  rw[ax];refine assignInOrder_cons (b0 (d zn s U H _ _ _ J r h) λ_ k c=>?_);obtain⟨j,b,g,br⟩:=c;exact f zn k j b _ _ Q g i br
def C3(K:aO)(n:Nat)(t:pq):iM:=λv U H Q=>∃a xs,v=.ref a/\dy K H a xs/\xs.length=n/\t xs U H Q
def ado{c:List Expr}{k:Nat}{t:pq}{n:Nat}(p:X.calm=true)(h:qt X c t)
  (g:(ala c X.env).length=n:=by rfl) (m:(ala c X.env).findIdx? (·.1)=none:=by rfl):nN X (.Tuple c k pos) (C3 X.K n t):=by
 intro zn s U H v u Q J r hw;obtain⟨a,xs,av,f,hl,hw⟩:=hw;subst av;cases r;obtain⟨its,d,j,hz⟩:=J.tuple f;refine assign_Tuple_tuple (J.ok.hd p) j (by simp[g,<-hl,d.length]) m λh' i=>?_
 have l:Inv X zn U H { s with heap:=h' }:=J.kept (t':=s.toks) λb o e=>i b o (akR (akr e)) e
 exact h zn _ U H xs _ Q l (by simpa using d) hw
def UA(to a:TE)(t:Bi):iM:=λv U H Q=>to U H λo b=>a U b λi c=>t o i v c λd=>Q U d
def OI{o i:Expr}{to c:TE}{t:Bi}(e:b2 X o to)(hi:b2 X i c)(ax:GO X t)
  (g:∀v,al8 (.Subscript o i pos) X.env v=(do
   let bM <-alm [v] (eval o X.env)
   let b <-alm [v,bM] (eval i X.env)
   ama pos
   alm [v,bM,b] (setItem bM b v)
   release [v,bM,b] []):=by intro _;rfl):nN X (.Subscript o i pos) (UA to c t):=by
 intro zn s U H v u Q J r h;rw[g];refine akc (alL (b0 (e zn s U H _ J h) λbM w a=>?_));obtain⟨x,d,l,m,br⟩:=a;refine akc (alL (b0 (hi zn w U d _ l br) λb s2 a=>?_));obtain⟨y,f,k,j,bP⟩:=a;refine akc (ank (akc (alL (b0 (ax zn s2 U f x y v bM b u _ k m j r bP) λ_ s3 a=>?_))));obtain⟨n,q,p⟩:=a;exact wpAny_release ⟨U,n,q,p⟩
def tZ(te:TE)(g:iM):gu:=λD U H=>te U H λx a=>g x U a D.bw
def ON{cg e:Expr}{te:TE}{g:iM}(he:b2 X e te)(b:nN X cg g)(ax:an9 [cg] e pos.line X.env=pure false:=by rfl)(hw:aoa [cg] e X.env=pure none:=by rfl)
  (c:(ala [cg] X.env).map (·.2)=[al8 cg X.env]:=by rfl):ih X (.Assign [cg] e pos) (tZ te g):=by
 intro zn s U H D J h;refine wpAny_Assign_stores (b0 (he zn s U H _ J h) λv i ⟨x,a,d,f,br⟩=>?_) ax hw;rw[c];exact b0 (b zn i U a x v _ d f br) λ_ s2 q=>q
def Fh(hN:X.N.Nodup)(hi:X.N[i]? = some x)(b:Loc X.env.scope x)(he:b2 X e te)(ax:alW e (some (.Name x pos')) pos.line X.env=pure false:=by rfl)(g:X.fn x=true\/X.env.scope.names.lookup x=some .local:=by first|exact .inl rfl|exact .inr rfl|assumption) :
  ih X (.Assign [.Name x pos'] e pos) (tZ te (kz i)):=by
 intro zn s U H D J h;refine wpAny_Assign_Name (b0 (he zn s U H _ J h) λv j ⟨y,a,d,f,br⟩=>?_) ax;exact PE d hN hi b f (λs2 c=>⟨_,a,c,br⟩) g
end
section
variable{X:aT}{pos:Pos}
def F1(c:TT)(cC:gu):gu:=λD U H=>∃W:Nat->St->aw->Prop,(∃m,W m U H)/\∀m U H,W m U H->
 c U H λb a=>if b=true then ∃N:St->aw->Prop,(∀U' H',N U' H'->∃d,d<m/\W d U' H')/\cC { D with bw:=N,cm:=N,bk:=D.bw } U a else D.bw U a
def OQ(r:an2 (model X.prog X.w) X.A X.env X.dP)(B:ik X c o)(y:ij X body cC):ih X (.While c body [] pos) (F1 o cC):=by
 intro zn s U H D J h;obtain⟨W,⟨E,I⟩,turn⟩:=h;refine wpAny_While (codeAny_whileLoop (λn u=>∃U' H',Inv X zn U' H' u/\W n U' H') ?_ E ⟨U,H,J,I⟩);rintro n G ⟨g,p,z,F⟩;refine ami r (b0 (B zn G g p _ z (turn n g p F)) λb s2 x=>?_);obtain⟨q,t,bP⟩:=x
 cases b with
 |true=>
  obtain⟨N,hN,bP⟩:=bP;rw[if_pos rfl];refine ami r (b0 (y zn s2 g q _ t bP) λf s3 e=>?_)
  cases f with
  |next=>
   obtain⟨d,a,i,k⟩:=e;obtain⟨j,l,m⟩:=hN d a k;exact⟨j,l,d,a,i,m⟩
  |cont=>
   obtain⟨d,a,i,k⟩:=e;obtain⟨j,l,m⟩:=hN d a k;exact⟨j,l,d,a,i,m⟩
  |brk=>exact e|ret v=>exact e
 |false=>
  rw[if_neg akl];exact anB ⟨g,q,t,bP⟩
end
structure ie where
 go:Nat->aw->Prop
 o':Nat->aw->V->aw->Prop
 stop:Nat->aw->Prop
def gR(X:aT)(zn:c0)(H:aw)(b:Addr):Prop:=
 H b=none/\b≠X.env.locals/\b∉X.aU/\(b∈X.ex\/X.gM.heap.objs.size<=b)/\(∀x c,X.env.cells.lookup x=some c->c≠b)/\∀p∈X.nz++zn,p.1≠b
def Inv.qT{H H':aw}{s:akj}(J:Inv X zn U H s)(a:s.heap.objs.size<=b)(d:H' b=none):gR X zn H' b:=by
 refine⟨d,Nat.ne_of_gt (akQ J.lt a),J.abN a,.inr (akU J.oR a),λx c e z=>?_,λp f z=>?_⟩
 .obtain⟨v,q⟩:=J.cell x c e
  exact absurd (akQ q.lt (by rw[z];exact a)) (ak6 _)
 .exact absurd (akQ (akr (J.pin p f).1) (by rw[z];exact a)) (ak6 _)
structure Turn(P:akC)(w:World)(K:aO)(cg:Expr)(cu:ie)(aR:List Addr)(it:Addr)(eT:Nat->Heap->Prop):Prop where
 mem:it∈aR
 obj:∀i h,eT i h->∀b∈aR,∃o,h.get? b=some o/\∀v,o.data≠.cell v
 keep:∀i h h',eT i h->(∀b∈aR,∀o,h.get? b=some o->h'.get? b=some o)->eT i h'
 item:∀(X:aT),X.prog=P->X.w=w->X.K=K->X.calm=true->∀(i:Nat)(zn:c0)(s:akj)(U:St)(H:aw)(E:dj),Inv X zn U H s->(∀b∈aR,gR X zn H b)->eT i s.heap->cu.go i H->
  wpAny (model P w) X.A (am3 (.ref it)) (λr s1=>∃u,r=some u/\
   wpAny (model P w) X.A (anC cg (.ref it) u) (λ_ s2=>∃x H',Inv X zn U H' s2/\RelV x u/\cu.o' i H x H'/\eT (i+1) s2.heap/\∀b∈aR,H' b=none) E s1) E s
 done:∀(X:aT),X.prog=P->X.w=w->X.K=K->X.calm=true->∀(i:Nat)(zn:c0)(s:akj)(U:St)(H:aw)(E:dj),Inv X zn U H s->(∀b∈aR,gR X zn H b)->eT i s.heap->cu.stop i H->
  wpAny (model P w) X.A (am3 (.ref it)) (λr s1=>r=none/\Inv X zn U H s1) E s
 self:∀(A:akL)(i:Nat)(s:akj)(Q:dj)(E:dj),eT i s.heap->Q (.ref it) s->wpAny (model P w) A (pyIter (.ref it)) Q E s
abbrev TI:=St->aw->(ie->aw->Prop)->Prop
def GN(X:aT)(zn:c0)(U:St)(cg:Expr)(R:ie->aw->Prop)(d:Value)(s2:akj):Prop:=
 ∃(it:Addr)(a:List Addr)(eT:Nat->Heap->Prop)(c:ie)(H':aw),d=.ref it/\Inv X zn U H' s2/\Turn X.prog X.w X.K cg c a it eT/\eT 0 s2.heap/\(∀b∈a,gR X zn H' b)/\R c H'
def jT(X:aT)(cg a:Expr)(wi:TI):Prop:=
 ∀(zn:c0)(s:akj)(U:St)(H:aw)(R:ie->aw->Prop),Inv X zn U H s->wi U H R->
  wpAny (model X.prog X.w) X.A (eval a X.env) (λv b=>wpAny (model X.prog X.w) X.A (pyIter v) (GN X zn U cg R) X.dP b) X.dP s
def u6{M:Model}{A:akL}{E:dj}{s:akj}{cg:Expr}{it:Addr}{u:Value}{o:Obj}{n:String}{vs:Array Value}{Q:Unit->akj->Prop}(b:s.heap.get? it=some o)(d:o.cls=.type n)(hd:o.data=.fields vs)
    (c:["enumerate","zip","dict_itemiterator","dict_reverseitemiterator","odict_iterator","itertools.zip_longest","itertools.pairwise"].contains n=false) (a:Q () s):wpAny M A (anC cg (.ref it) u) Q E s:=by
  unfold anC;cases cg<;>first
    |exact akm a
    |(cases u<;>first
        |exact akm a
        | (refine akc (wpAny_load b ?_)
           rw[d,hd];show wpAny M A (if(["enumerate","zip","dict_itemiterator","dict_reverseitemiterator","odict_iterator","itertools.zip_longest","itertools.pairwise"].contains n&&vs[0]? == some (aml _))=true then _ else _) Q E s;rw[if_neg (by intro h;rw[c,Bool.false_and]at h;cases h)];exact akm a))
def ph(K:aO)(a:Addr):ie:=
 ⟨λi H=>∃xs x,dr K H a xs/\xs[i]? = some x,λi H x H'=>H'=H/\∀xs,dr K H a xs->xs[i]? = some x,λi H=>∃xs,dr K H a xs/\xs.length<=i⟩
def rT(K:aO)(a:Addr):ie:=
 ⟨λi H=>∃xs x,dy K H a xs/\xs[i]? = some x,λi H x H'=>H'=H/\∀xs,dy K H a xs->xs[i]? = some x,λi H=>∃xs,dy K H a xs/\xs.length<=i⟩
def mL(lo:Int)(n:Nat):ie:=⟨λi _=>i<n,λi H x H'=>H'=H/\x=.int (lo+i),λi _=>n<=i⟩
def afN{P:akC}{w:World}{K:aO}{cg:Expr}(a it:Addr):Turn P w K cg (ph K a) [it] it (λi h=>h.IsListIter it a i) where
 mem:=by simp
 obj:=λi h st b f=>by
  have e:b=it:=by simpa using f
  subst e;obtain⟨o,e,c,d⟩:=st;exact⟨o,e,λv z=>by rw[d]at z;cases z⟩
 keep:=λi h h' st k=>st.at λo e=>k it (by simp) o e
 item:=by
  intro X q hw A G i zn s U H E J j st l;subst q hw A;obtain⟨xs,x,g,m⟩:=l;obtain⟨its,n,p,hz⟩:=J.list g;obtain⟨u,M,O⟩:=n.get m;obtain⟨r,t,Q,B,y,D⟩:=j it (by simp);refine wpAny_pyNext_list_item st p.isList (x:=u) (by simpa using M) λh' F R=>?_
  have L:Inv X zn U H { s with heap:=h' }:=J.turned (t':=s.toks) (λb o f e=>(R.2 b f).trans e) r t B y D;obtain⟨o,e,c,d⟩:=id F;exact⟨u,rfl,u6 (s:={ s with heap:=h' }) e c d (by decide) ⟨x,H,L,O,⟨rfl,λys I=>by rw[J.ND I g];exact m⟩,F,λb f=>(j b f).1⟩⟩
 done:=by
  intro X q hw A G i zn s U H E J j st l;subst q hw A;obtain⟨xs,g,m⟩:=l;obtain⟨its,n,p,hz⟩:=J.list g;obtain⟨r,t,Q,B,y,D⟩:=j it (by simp);have hl:=n.length;exact wpAny_pyNext_list_end (J.ok.hd G) st p.isList (by simp;omega) λh' N=>⟨rfl,J.turned (t':=s.toks) (λb o f e=>N b o f e) r t B y D⟩
 self:=λ_ _ _ _ _ st h=>wpAny_pyIter_listiter st h
def afP{P:akC}{w:World}{K:aO}{cg:Expr}(a it:Addr):Turn P w K cg (rT K a) [it] it (λi h=>h.IsTupleIter it a i) where
 mem:=by simp
 obj:=λi h st b f=>by
  have e:b=it:=by simpa using f
  subst e;obtain⟨o,e,c,d⟩:=st;exact⟨o,e,λv z=>by rw[d]at z;cases z⟩
 keep:=λi h h' st k=>st.at λo e=>k it (by simp) o e
 item:=by
  intro X q hw A G i zn s U H E J j st l;subst q hw A;obtain⟨xs,x,g,m⟩:=l;obtain⟨its,n,p,hz⟩:=J.tuple g;obtain⟨u,M,O⟩:=n.get m;obtain⟨r,t,Q,B,y,D⟩:=j it (by simp);refine wpAny_pyNext_tuple_item st (show s.heap.IsTuple a its.toArray from p) (x:=u) (by simpa using M) λh' F R=>?_
  have L:Inv X zn U H { s with heap:=h' }:=J.turned (t':=s.toks) (λb o f e=>(R.2 b f).trans e) r t B y D;obtain⟨o,e,c,d⟩:=id F;exact⟨u,rfl,u6 (s:={ s with heap:=h' }) e c d (by decide) ⟨x,H,L,O,⟨rfl,λys I=>by rw[J.PS I g];exact m⟩,F,λb f=>(j b f).1⟩⟩
 done:=by
  intro X q hw A G i zn s U H E J j st l;subst q hw A;obtain⟨xs,g,m⟩:=l;obtain⟨its,n,p,hz⟩:=J.tuple g;obtain⟨r,t,Q,B,y,D⟩:=j it (by simp);have hl:=n.length;exact wpAny_pyNext_tuple_end (J.ok.hd G) st (show s.heap.IsTuple a its.toArray from p) (by simp;omega) λh' N=>⟨rfl,J.turned (t':=s.toks) (λb o f e=>N b o f e) r t B y D⟩
 self:=λ_ _ _ _ _ st h=>wpAny_pyIter_tupleiter st h
def afO{P:akC}{w:World}{K:aO}{cg:Expr}(it:Addr)(lo:Int)(n:Nat):Turn P w K cg (mL lo n) [it] it (λi h=>IsRangeIter h it (lo+(i:Nat)*1) ((n:Int)-(i:Nat)) 1) where
 mem:=by simp
 obj:=λi h st b a=>by
  have e:b=it:=by simpa using a
  subst e;exact⟨_,st,λv z=>by
   have D:Data.fields _=Data.cell v:=z;cases D⟩
 keep:=λi h h' st k=>k it (by simp) _ st
 item:=by
  intro X f hw m r i zn s U H E J c st d;subst f hw m;obtain⟨g,j,B,p,l,q⟩:=c it (by simp);have W:=Walks.range (prog:=X.prog) (w:=X.w) (J.ok.hd r) it lo 1 n;refine W.item i s _ _ d st λv h' tk x u F=>?_
  obtain⟨t,rfl⟩:=x;have y:Inv X zn U H { s with heap:=h',toks:=tk }:=J.turned (λb o a e=>F b o (by simpa using a) e) g j p l q;refine⟨_,rfl,u6 (s:={ s with heap:=h',toks:=tk }) (n:="range_iterator") u rfl rfl (by decide) ⟨.int (lo+i),H,y,⟨t,?_⟩,⟨rfl,rfl⟩,u,λb a=>(c b a).1⟩⟩;rw[Int.mul_one]
 done:=by
  intro X f hw m r i zn s U H E J c st d;subst f hw m;obtain⟨g,j,B,p,l,q⟩:=c it (by simp);exact wpAny_pyNext_range_end (J.ok.hd r) st (by have:n<=i:=d;omega) λh' A=>⟨rfl,J.turned (t':=s.toks) (λb o a e=>A b o a e) g j p l q⟩
 self:=λ_ _ _ _ _ st h=>wpAny_pyIter_rangeiter st h
section
variable{X:aT}{cg:Expr}
def Yh(K:aO)(c:TE):TI:=λU H R=>c U H λx b=>∃a,x=.ref a/\(∃xs,dr K b a xs)/\R (ph K a) b
def Yj(K:aO)(c:TE):TI:=λU H R=>c U H λx b=>∃a,x=.ref a/\(∃xs,dy K b a xs)/\R (rT K a) b
def OK(hl:b2 X l C):jT X cg l (Yh X.K C):=by
 intro zn s U H R J h;refine b0 (hl zn s U H _ J h) λv d i=>?_
 obtain⟨x,f,c,k,br⟩:=i;obtain⟨a,e,⟨xs,g⟩,q⟩:=br;subst e;cases k;obtain⟨its,m,p,hz⟩:=c.list g;refine amm p.isList ?_;refine⟨d.heap.objs.size,[d.heap.objs.size],_,_,f,rfl,c.kept (t':=d.toks) λb o e=>akf _ e,afN a _,⟨_,akp _ rfl,rfl,rfl⟩,λb j=>?_,q⟩;have e:b=d.heap.objs.size:=by simpa using j
 subst e;exact c.qT (akk _) (c.cc.fresh (akk _))
def OL(hl:b2 X l C):jT X cg l (Yj X.K C):=by
 intro zn s U H R J h;refine b0 (hl zn s U H _ J h) λv c i=>?_
 obtain⟨x,f,d,k,br⟩:=i;obtain⟨a,e,⟨xs,g⟩,q⟩:=br;subst e;cases k;obtain⟨its,m,p,hz⟩:=d.tuple g;refine amD (show c.heap.IsTuple a its.toArray from p) ?_;refine⟨c.heap.objs.size,[c.heap.objs.size],_,_,f,rfl,d.kept (t':=c.toks) λb o e=>akf _ e,afP a _,⟨_,akp _ rfl,rfl,rfl⟩,λb j=>?_,q⟩;have e:b=c.heap.objs.size:=by simpa using j
 subst e;exact d.qT (akk _) (d.cc.fresh (akk _))
def Pb{zn:c0}{U:St}{H:aw}{s:akj}{R:ie->aw->Prop}{E:dj}{lo hi:Int}{t u v:Tok}{tk:Nat}(J:Inv X zn U H s)(d:-(2 ^ 62)<=lo)(f:lo<2 ^ 62)(g:-(2 ^ 62)<=hi)(h:hi<2 ^ 62)
  (q:R (mL lo (hi-lo).toNat) H):wpAny (model X.prog X.w) X.A (pyIter (.ref s.heap.objs.size)) (GN X zn U cg R) E { s with heap:=s.heap.push { cls:=.type "range",data:=.fields #[.int lo t,.int hi u,.int 1 v] },toks:=tk }:=by
 refine wpAny_pyIter_range (IsRange.new ..) (small_one d f g h) ?_;have a:Inv X zn U H { s with heap:=s.heap.push { cls:=.type "range",data:=.fields #[.int lo t,.int hi u,.int 1 v] },toks:=tk }:=J.kept λb o e=>akf _ e
 refine⟨(s.heap.push { cls:=.type "range",data:=.fields #[.int lo t,.int hi u,.int 1 v] }).objs.size,[(s.heap.push { cls:=.type "range",data:=.fields #[.int lo t,.int hi u,.int 1 v] }).objs.size],_,_,H,rfl,
  a.kept (t':=tk) λb o e=>akf _ e,afO _ lo (hi-lo).toNat,?_,λb c=>?_,q⟩
 .have av:lo+((0:Nat):Int)*1=lo:=by simp
  have aE:(((hi-lo).toNat:Nat):Int)-((0:Nat):Int)=Builtin.Range.rangeSize lo hi 1:=by rw[rangeSize_one];split<;>omega
  show IsRangeIter _ _ (lo+((0:Nat):Int)*1) ((((hi-lo).toNat:Nat):Int)-((0:Nat):Int)) 1;rw[av,aE];exact akp _ rfl
 .have e:b=(s.heap.push { cls:=.type "range",data:=.fields #[.int lo t,.int hi u,.int 1 v] }).objs.size:=by simpa using c
  subst e;exact a.qT (akk _) (a.cc.fresh (akk _))
def DS(b:fR):TI:=λU H R=>b U H λvs a=>∃j:Int,vs=[.int j]/\-(2 ^ 62)<=j/\j<2 ^ 62/\R (mL 0 j.toNat) a
def Yi(b:fR):TI:=λU H R=>b U H λvs a=>∃i j:Int,vs=[.int i,.int j]/\(-(2 ^ 62)<=i/\i<2 ^ 62/\-(2 ^ 62)<=j/\j<2 ^ 62)/\R (mL i (j-i).toNat) a
def Fe(b:eb X "range")(i:X.mg "range"=none)(c:gS X [a] o)(ax:ake [a] X.env=[(false,eval a X.env)]:=by rfl):jT X cg (.Call (.Name "range" p) [a] [] pos) (DS o):=by
 intro zn s U H R J h;refine Call_ (nk J b i boot_range (alA (b0 (c pos zn s U H _ J h) λus l ⟨vs,k,d,g,br⟩=>?_) ax rfl));obtain⟨j,e,br,bP,q⟩:=br;subst e
 cases g with
 |cons r f=>
  cases f;obtain⟨t,rfl⟩:=r;exact call_range_1 (Pb d (by omega) (by omega) br bP (by simpa using q))
def adt{p pos:Pos}(f:eb X "range")(u:X.mg "range"=none)(g:gS X [a,b] o)(ax:ake [a,b] X.env=[(false,eval a X.env),(false,eval b X.env)]:=by rfl)(d:ake [b] X.env=[(false,eval b X.env)]:=by rfl) :
  jT X cg (.Call (.Name "range" p) [a,b] [] pos) (Yi o):=by
 intro zn s U H R J h;refine Call_ (nk J f u boot_range (alA (b0 (g pos zn s U H _ J h) λus y ⟨vs,x,k,l,br⟩=>?_) (by rw[ax,d]) (by rw[d];rfl)));obtain⟨i,j,e,⟨br,bP,n,w⟩,q⟩:=br;subst e
 cases l with
 |cons r c=>
  cases c with
  |cons m c=>
   cases c;obtain⟨t,rfl⟩:=r;obtain⟨t',rfl⟩:=m;exact call_range_2 (Pb k br bP n w q)
def w0(wi:TI)(g:iM)(cC:gu):gu:=λD U H=>wi U H λa c=>∃W:Nat->Nat->St->aw->Prop,(∃m,W 0 m U c)/\∀i m U H,W i m U H->
 (a.stop i H/\D.bw U H)\/(a.go i H/\∃N:St->aw->Prop,(∀U' H',N U' H'->∃b,b<m/\W (i+1) b U' H')/\∀x H',a.o' i H x H'->g x U H' λe d=>cC { D with bw:=N,cm:=N,bk:=D.bw } e d)
def rA(a:List Addr)(h:Heap):List (Addr×Obj):=a.filterMap λb=>(h.get? b).map λo=>(b,o)
def zH{h:Heap}(a:b∈C)(e:h.get? b=some o):(b,o)∈rA C h:=List.mem_filterMap.mpr ⟨b,a,by rw[e];rfl⟩
def abY{h:Heap}(a:p∈rA C h):p.1∈C/\h.get? p.1=some p.2:=by
 obtain⟨b,c,e⟩:=List.mem_filterMap.mp a
 cases q:h.get? b with
 |none=>rw[q]at e;cases e
 |some o=>
  rw[q]at e;have d:(b,o)=p:=akI e;subst d;exact⟨c,q⟩
def Inv.pinned{s:akj}(J:Inv X zn U H s)(k:∀b∈C,gR X zn H b)(f:∀b∈C,∃o,s.heap.get? b=some o/\∀v,o.data≠.cell v):Inv X (zn++rA C s.heap) U H s:=
 J.OM λp g=>(alc.mp g).elim (λz=>J.pin p (ak4 _ z)) λz=>by
  obtain⟨a,e⟩:=abY z;obtain⟨h,i,j,_⟩:=k p.1 a;obtain⟨o,c,d⟩:=f p.1 a;rw[e]at c;cases c;exact⟨e,h,i,j,d⟩
def Inv.w7{s:akj}(J:Inv X (zn++pl) U H s):Inv X zn U H s:=J.OM λp a=>J.pin p (ak4 _ (List.mem_append_left _ a))
def OO{j:Expr}{body:List Stmt}{wi:TI}{g:iM}{cC:gu}{pos:Pos}(y:an2 (model X.prog X.w) X.A X.env X.dP)(Z:X.calm=true)(hi:jT X cg j wi)(aQ:nN X cg g)(a:ij X body cC)
  (ax:∀x,alf j X.env x=pure x:=by intro _;rfl):ih X (.For cg j body [] pos) (w0 wi g cC):=by
 intro zn s U H D J h;refine wpAny_For (b0 (hi zn s U H _ J h) λv s1 ag=>b0 ag λy1 s2 ah=>?_) ax;obtain⟨it,z,eT,cu,aK,e,b_,T,bL,V,W,⟨m0,w8⟩,turn⟩:=ah;subst e;have M:∀{H':aw},(∀b∈z,H' b=none)->∀b∈z,gR X zn H' b:=λaA b a=>⟨aA b a,(V b a).2⟩
 refine codeAny_forLoop_any (λn R=>∃i U' H',Inv X zn U' H' R/\eT i R.heap/\(∀b∈z,H' b=none)/\W i n U' H') ?_ m0 ⟨0,U,aK,b_,bL,λb a=>(V b a).1,w8⟩;rintro n s3 ⟨i,B,F,S,Y,Q,w9⟩;rcases turn i n B F w9 with⟨stop,kh⟩|⟨go,N,hN,step⟩
 .refine ami y (b0 (T.done X rfl rfl rfl Z i zn s3 B F X.dP S (M Q) Y stop) λr s4 t=>?_)
  obtain⟨G,jS⟩:=t;subst G;exact anB ⟨B,F,jS,kh⟩
 .refine ami y (b0 (T.item X rfl rfl rfl Z i zn s3 B F X.dP S (M Q) Y go) λr s4 t=>?_)
  obtain⟨u,G,cM⟩:=t;subst G;refine ami y (b0 cM λ_ s5 t=>?_);obtain⟨x,C,rR,wH,AV,P,yq⟩:=t;have QO:=rR.pinned (M yq) (T.obj _ _ P);refine ami y (b0 (aQ _ s5 B C x u _ QO wH (step x C AV)) λ_ h9 t=>?_);obtain⟨L,QH,uu,tM⟩:=t;refine ami y (b0 (a _ h9 L QH _ uu tM) λf O q=>?_);have c:∀{p:St}{k:aw},Inv X (zn++rA z s5.heap) p k O->N p k->∃m,m<n/\∃i U' H',Inv X zn U' H' O/\eT i O.heap/\(∀b∈z,H' b=none)/\W i m U' H':=λ{p k} l E=>by
   obtain⟨gm,hm,I⟩:=hN p k E;refine⟨gm,hm,i+1,p,k,l.w7,T.keep _ _ _ P λb a o e=>(l.pin (b,o) (ak4 _ (ak4 _ (zH a e)))).1,λb a=>?_,I⟩;obtain⟨o,e,d⟩:=T.obj _ _ P b a;exact(l.pin (b,o) (ak4 _ (ak4 _ (zH a e)))).2.1
  cases f with
  |next=>obtain⟨p,k,l,E⟩:=q;exact c l E
  |cont=>obtain⟨p,k,l,E⟩:=q;exact c l E
  |brk=>obtain⟨p,k,l,q⟩:=q;exact⟨p,k,l.w7,q⟩
  |ret v=>obtain⟨K,p,k,l,Fs,q⟩:=q;exact⟨K,p,k,l.w7,Fs,q⟩
end
abbrev fB:=V->V->aw->cU->Prop
def d0(X:aT)(f:Value->Value->Sem Value)(r:fB):Prop:=
 ∀(zn:c0)(s:akj)(U:St)(H:aw)(x y:V)(v u:Value)(Q:cU),Inv X zn U H s->RelV x v->RelV y u->r x y H Q->
  wpAny (model X.prog X.w) X.A (f v u) (hp X zn U Q) X.dP s
def jQ(X:aT)(f:Value)(r:List V->aw->cU->Prop):Prop:=
 ∀(zn:c0)(s:akj)(U:St)(H:aw)(xs:List V)(us:List Value)(Q:cU),Inv X zn U H s->Vals xs us->r xs H Q->
  wpAny (model X.prog X.w) X.A (call f us) (hp X zn U Q) X.dP s
def w2(r:fB)(c cC:TE):TE:=λU H Q=>c U H λx a=>cC U a λy b=>r x y b Q
def ki(C:Int->Int->Prop)(g:Int->Int->V):fB:=λx y H Q=>∃i j,x=.int i/\y=.int j/\C i j/\Q (g i j) H
def hL(g:Int->Int->V):fB:=λx y H Q=>∃i j,x=.int i/\y=.int j/\Q (g i j) H
section
variable{X:aT}{a b:Expr}{b9 cC:TE}{pos:Pos}
def B4(i:b2 X a b9)(g:b2 X b cC){zn:c0}{s:akj}{U:St}{H:aw}{R:V->V->aw->Prop}(J:Inv X zn U H s)
  (h:b9 U H λx d=>cC U d λy c=>R x y c) {Q:dj}{f:Value->Value->Sem Value}
  (p:∀v u s2 x y c,Inv X zn U c s2->RelV x v->RelV y u->R x y c->wpAny (model X.prog X.w) X.A (f v u) Q X.dP s2) :
  wpAny (model X.prog X.w) X.A (eval a X.env) (λv n=>wpAny (model X.prog X.w) X.A (eval b X.env) (λu q=>wpAny (model X.prog X.w) X.A (f v u) Q X.dP q) X.dP n) X.dP s:=by
 refine b0 (i zn s U H _ J h) λv r e=>?_
 obtain⟨x,d,l,m,br⟩:=e;refine b0 (g zn r U d _ l br) λu s2 e=>?_
 obtain⟨y,c,k,j,bP⟩:=e;exact p v u s2 x y c k m j bP
def adi{op:Operator}{r:fB}(d:d0 X (amb op) r)(g:b2 X a b9)(f:b2 X b cC):b2 X (.BinOp a op b pos) (w2 r b9 cC):=by
 intro zn s U H Q J h;exact wpAny_BinOp (B4 g f J h λv u s2 x y e j c i q=>d zn s2 U e x y v u Q j c i q)
def tF{f:Value->Value->Sem Value}{C:Int->Int->Prop}{g:Int->Int->Int}
  (c:∀(i j:Int)(t u:Tok)(s:akj)(Q:dj)(E:dj),C i j->Q (.int (g i j) s.toks) { s with toks:=s.toks+1 }->wpAny (model X.prog X.w) X.A (f (.int i t) (.int j u)) Q E s) :
  d0 X f (ki C λi j=>.int (g i j)):=by
 intro zn s U H x y v u Q J d e h;obtain⟨i,j,rfl,rfl,k,q⟩:=h;obtain⟨t,rfl⟩:=d;obtain⟨t',rfl⟩:=e;exact c i j t t' s _ _ k ⟨.int (g i j),H,J.tok _,⟨_,rfl⟩,q⟩
def z0{f:Value->Value->Sem Value}{g:Int->Int->Int}
  (c:∀(i j:Int)(t u:Tok)(s:akj)(Q:dj)(E:dj),Q (.int (g i j) s.toks) { s with toks:=s.toks+1 }->wpAny (model X.prog X.w) X.A (f (.int i t) (.int j u)) Q E s) :
  d0 X f (hL λi j=>.int (g i j)):=by
 intro zn s U H x y v u Q J d e h;obtain⟨i,j,rfl,rfl,q⟩:=h;obtain⟨t,rfl⟩:=d;obtain⟨t',rfl⟩:=e;exact c i j t t' s _ _ ⟨.int (g i j),H,J.tok _,⟨_,rfl⟩,q⟩
def zZ{f:Value->Value->Sem Value}{g:Int->Int->Bool}
  (c:∀(i j:Int)(t u:Tok)(s:akj)(Q:dj)(E:dj),Q (.bool (g i j)) s->wpAny (model X.prog X.w) X.A (f (.int i t) (.int j u)) Q E s) :
  d0 X f (hL λi j=>.ay (g i j)):=by
 intro zn s U H x y v u Q J d e h;obtain⟨i,j,rfl,rfl,q⟩:=h;obtain⟨t,rfl⟩:=d;obtain⟨t',rfl⟩:=e;exact c i j t t' s _ _ ⟨.ay (g i j),H,J,rfl,q⟩
def xm(i j:Int):Prop:=0<=j/\j<=1000000/\i.natAbs<2 ^ 64
def xl(i j:Int):Prop:=(-(2 ^ 64)<i/\i<2 ^ 64)\/(-(2 ^ 64)<j/\j<2 ^ 64)
def xl.ok{i j:Int}(h:xl i j):IntMulOk i j:=by
 rcases h with⟨o,C⟩|⟨o,C⟩
 .exact .of_left (intBits_le_64 o C)
 .exact .of_right (intBits_le_64 o C)
def afR(k:Nat):(0:Int)<=2 ^ k:=by
 rw[two_pow_cast];exact Int.natCast_nonneg _
def ab3:d0 X (amb .Add) (hL λi j=>.int (i+j)):=z0 λ_ _ _ _ _ _ _ q=>add_int q
def aci:d0 X (amb .Sub) (hL λi j=>.int (i-j)):=z0 λ_ _ _ _ _ _ _ q=>sub_int q
def acb:d0 X (amb .Mod) (ki (λ_ j=>0<j) λi j=>.int (i % j)):=tF λi j _ _ _ _ _ c q=>by
 have d:(0:Int)<j:=c;exact mod_int' (by omega) (by rw[Int.fmod_eq_emod_of_nonneg i (by omega)];exact q)
def acf:d0 X (amb .Pow) (ki xm λi j=>.int (i ^ j.toNat)):=tF λ_ _ _ _ _ _ _ c q=>pow_int_small c.1 c.2.1 c.2.2 q
def acg:d0 X (amb .LShift) (ki xm λi j=>.int (i*2 ^ j.toNat)):=tF λ_ _ _ _ _ _ _ c q=>lshift_int_small c.1 c.2.1 c.2.2 q
def ach:d0 X (amb .RShift) (ki (λ_ j=>0<=j) λi j=>.int (i / 2 ^ j.toNat)):=tF λi j _ _ _ _ _ c q=>
 rshift_int c (by rw[aob i (afR _)];exact q)
def ab5:d0 X (amb .BitAnd) (hL λi j=>.int (alM i j)):=z0 λ_ _ _ _ _ _ _ q=>and_int q
def ace:d0 X (amb .BitOr) (hL λi j=>.int (anl i j)):=z0 λ_ _ _ _ _ _ _ q=>or_int q
end
section
variable{X:aT}{a b c:Expr}{b9 cC nC:TE}{pos:Pos}
def CQ{s:akj}{Q:cU}(J:Inv X zn U H s)(q:Q (.ay k) H)(e:k=o):hp X zn U Q (.bool o) s:=by
 subst e;exact⟨.ay k,H,J,rfl,q⟩
def E6:d0 X (akX .Lt) (hL λi j=>.ay (decide (i<j))):=zZ λ_ _ _ _ _ _ _ q=>lt_int q
def rv:d0 X (akX .LtE) (hL λi j=>.ay (decide (i<=j))):=zZ λ_ _ _ _ _ _ _ q=>le_int q
def ab8:d0 X (akX .Gt) (hL λi j=>.ay (decide (j<i))):=zZ λ_ _ _ _ _ _ _ q=>gt_int q
def Om:d0 X (akX .GtE) (hL λi j=>.ay (decide (j<=i))):=zZ λ_ _ _ _ _ _ _ q=>ge_int q
def Oq:d0 X (akX .In) (λx y H Q=>∃i j,x=.str i/\y=.str j/\Q (.ay (!(amA j i 0 j.length 1).isEmpty)) H):=by
 intro zn s U H x y v u Q J d e h;obtain⟨i,j,rfl,rfl,q⟩:=h;obtain⟨t,rfl⟩:=d;obtain⟨t',rfl⟩:=e;exact in_str (CQ J q rfl)
def Ot:d0 X (akX .Is) (λx y H Q=>y=.aJ/\Q (.ay (decide (x=.aJ))) H):=by
 intro zn s U H x y v u Q J d e h;obtain⟨rfl,q⟩:=h;cases e;refine is_none_gen (CQ J q ?_);cases x<;>first
  |(cases d;rfl)
  |(obtain⟨t,rfl⟩:=d;rfl)
def Ou:d0 X (akX .IsNot) (λx y H Q=>y=.aJ/\Q (.ay (!decide (x=.aJ))) H):=by
 intro zn s U H x y v u Q J d e h;obtain⟨rfl,q⟩:=h;cases e;refine isnot_none_gen (CQ J q ?_);cases x<;>first
  |(cases d;rfl)
  |(obtain⟨t,rfl⟩:=d;rfl)
def iz(b:Expr){op:CmpOp}(h:op≠.In:=by decide)(d:op≠.NotIn:=by decide):al7 op b=false:=by
 have av:(op==CmpOp.In)=false:=by cases op<;>first|rfl|exact absurd rfl h
 have aE:(op==CmpOp.NotIn)=false:=by cases op<;>first|rfl|exact absurd rfl d
 cases b<;>simp[al7,av,aE]
def ac3{op:CmpOp}{r:fB}(e:d0 X (akX op) r)(i:b2 X a b9)(g:b2 X b cC)(l:al7 op b=false):b2 X (.Compare a [op] [b] pos) (w2 r b9 cC):=by
 intro zn s U H Q J h;exact wpAny_Compare1 (B4 i g J h λv u s2 x y f k d j q=>e zn s2 U f x y v u Q k d j q) l
def w3(t:TE):TT:=λU H Q=>t U H λx H'=>∃k,x=.ay k/\Q k H'
theorem adL{op:CmpOp}{r:fB}(f:d0 X (akX op) r)(j:b2 X a b9)(i:b2 X b cC)(B:al7 op b=false):ik X (.Compare a [op] [b] pos) (w3 (w2 r b9 cC)):=by
 intro zn s U H Q J h;refine wpAny_isTrue_Compare1 (b0 (j zn s U H _ J h) λv D ⟨x,d,n,p,br⟩=>b0 (i zn D U d _ n br) λu s2 ⟨y,g,m,l,bP⟩=>
  b0 (f zn s2 U g x y v u _ m p l bP) λc s3 ⟨z,q,w,A,k,e,t⟩=>?_) B
 subst e;cases A;exact als ⟨q,w,t⟩
def FZ(r g:fB)(b9 cC nC:TE):TE:=λU H Q=>b9 U H λx e=>cC U e λy f=>r x y f λz d=>∃k,z=.ay k/\
 (if k=true then nC U d λh i=>g y h i Q else Q (.ay false) d)
def ac2{op f:CmpOp}{r i:fB}(p:d0 X (akX op) r)(G:d0 X (akX f) i)(w:b2 X a b9)(t:b2 X b cC)(I:b2 X c nC)
  (K:lastMarks [op,f] [b,c]=false:=by with_unfolding_all rfl):b2 X (.Compare a [op,f] [b,c] pos) (FZ r i b9 cC nC):=by
 intro zn s U H Q J h;refine Compare_chain (b0 (w zn s U H _ J h) λv R ⟨x,n,B,D,br⟩=>chain_link (b0 (t zn R U n _ B br) λu s2 ⟨y,q,A,g,bP⟩=>
  b0 (p zn s2 U q x y v u _ A D g bP) λd s3 ⟨z,j,m,E,k,e,l⟩=>?_)) K
 subst e;cases E;refine als ?_
 cases k with
 |false=>exact ite_ff ⟨.ay false,j,m,rfl,l⟩|true=>exact ite_tt (chain_last (b0 (I zn s3 U j _ m l) λF S ⟨L,M,N,P,O⟩=>G zn S U M y L u F Q N g P O))
def adK{op f:CmpOp}{r i:fB}(q:d0 X (akX op) r)(M:d0 X (akX f) i)(B:b2 X a b9)(A:b2 X b cC)(N:b2 X c nC)
  (O:lastMarks [op,f] [b,c]=false:=by with_unfolding_all rfl):ik X (.Compare a [op,f] [b,c] pos) (w3 (FZ r i b9 cC nC)):=by
 intro zn s U H Q J h;refine isTrue_chain (b0 (B zn s U H _ J h) λv Z ⟨x,p,F,G,br⟩=>test_link (b0 (A zn Z U p _ F br) λu s2 ⟨y,t,E,g,bP⟩=>
  b0 (q zn s2 U t x y v u _ E G g bP) λd s3 ⟨z,j,m,I,k,e,l⟩=>?_)) O
 subst e;cases I;refine als ?_
 cases k with
 |false=>
  obtain⟨j9,D,L⟩:=l;cases D;exact ite_ff ⟨j,m,L⟩
 |true=>
  refine ite_tt (test_last (b0 (N zn s3 U j _ m l) λK o ⟨P,R,S,W,T⟩=>b0 (M zn o U R y P u K _ S g W T) λd' s5 w=>?_));obtain⟨ei,V,Y,C,dW,aE,n⟩:=w;subst aE;cases C;exact als ⟨V,Y,n⟩
def sV:(aki:Nat)<2 ^ 63:=by rw[akB];decide
def ab4:d0 X (amb .Add) (λx y H Q=>∃i j,x=.str i/\y=.str j/\i.length+j.length<=aki/\Q (.str (i++j)) H):=by
 intro zn s U H x y v u Q J d e h;obtain⟨i,j,rfl,rfl,hz,q⟩:=h;obtain⟨t,rfl⟩:=d;obtain⟨t',rfl⟩:=e;exact add_str (λt' tk=>⟨.str (i++j),H,J.tok _,⟨_,rfl⟩,q⟩) hz
def vals1(r:Vals [x] us):∃u,us=[u]/\RelV x u:=by
 cases r with
 |cons e d=>cases d;exact⟨_,rfl,e⟩
def vals2(r:Vals [x,y] us):∃u d,us=[u,d]/\RelV x u/\RelV y d:=by
 cases r with
 |cons f e=>
  cases e with
  |cons g h=>cases h;exact⟨_,_,rfl,f,g⟩
def S2:jQ X (.builtin "abs") (λxs H Q=>∃i,xs=[.int i]/\Q (.int (if i<0 then -i else i)) H):=by
 intro zn s U H xs us Q J r h;obtain⟨i,rfl,q⟩:=h;obtain⟨u,rfl,t,rfl⟩:=vals1 r;exact call_abs_int λu tk=>⟨.int (if i<0 then -i else i),H,J.tok _,⟨_,rfl⟩,q⟩
def S9(e:X.calm=true):jQ X (.builtin "max") (λxs H Q=>∃i j,xs=[.int i,.int j]/\Q (.int (if j > i then j else i)) H):=by
 intro zn s U H xs us Q J r h;obtain⟨i,j,rfl,q⟩:=h;obtain⟨u,f,rfl,⟨t,rfl⟩,⟨t',rfl⟩⟩:=vals2 r;refine max_two_ints (J.ok.hd e) λh' tk k=>⟨_,H,J.kept k,?_,q⟩
 by_cases d:j > i
 .rw[if_pos d,if_pos d];exact⟨_,rfl⟩
 .rw[if_neg d,if_neg d];exact⟨_,rfl⟩
def S_(e:X.calm=true):jQ X (.builtin "min") (λxs H Q=>∃i j,xs=[.int i,.int j]/\Q (.int (if j<i then j else i)) H):=by
 intro zn s U H xs us Q J r h;obtain⟨i,j,rfl,q⟩:=h;obtain⟨u,f,rfl,⟨t,rfl⟩,⟨t',rfl⟩⟩:=vals2 r;refine min_two_ints (J.ok.hd e) λh' tk k=>⟨_,H,J.kept k,?_,q⟩
 by_cases d:j<i
 .rw[if_pos d,if_pos d];exact⟨_,rfl⟩
 .rw[if_neg d,if_neg d];exact⟨_,rfl⟩
end
structure qr(h:Heap)(x cb C:Addr)(eg:bp):Prop where
 obj:h.get? x=some (am2 C cb)
 ns:h.Ns1 cb eg
 ne:cb≠x
def ZD{h:Heap}{d:bp}(n:h.Ns1 C d):∃c,h.get? C=some c/\∀name,W.lookIn name c=some (d name):=by
 obtain⟨o,b,ct,g,hd,j,_,k⟩:=n;refine⟨o,g,λname=>?_⟩;have e:=k name;unfold nsFind an3 at e;rw[<-Array.find?_toList]at e;unfold W.lookIn;rw[hd];dsimp only;split
 .rename_i y q
  rw[q]at e;exact congrArg some e
 .rename_i q
  rw[q]at e;have a:b.toList.any (·.refKey)=false:=by
   rw[List.any_eq_false];intro y i;obtain⟨z,t,l⟩:=j y (Array.mem_toList_iff.mp i);simp[DictEntry.refKey,l]
  have f:¬b.toList.any (·.refKey)=true:=by rw[a];exact akl
  rw[if_neg f];exact congrArg some e
def qr.look{b:bp}(J:qr h x U C b):∃a,W.InstAt h x (am2 C U) C (some a)/\∀name,W.lookIn name a=some (b name):=
 let⟨a,o,hl⟩:=ZD J.ns
 ⟨a,⟨J.obj,rfl,rfl,o⟩,hl⟩
section
variable{prog:akC}{w:World}{A:akL}{E:dj}{s:akj}{K:aO}{x cb C f:Addr}{eg:bp}{name:Str}{v:Value}
def get_map{a:Bool}{Q:dj}(X:K.In s.heap)(J:qr s.heap x cb C eg)(b:aoo K C name=true)(cR:aoK K C=true)
  (c:amj K (.ref C) name=some none) (d:eg name=some v) (g:W.handedIn v=true) (h:Q v { s with toks:=s.toks+1 }) :
  wpAny (model prog w) A (getAttr (.ref x) name a) Q E s:=by
 obtain⟨i,e,hl⟩:=J.look;exact W.get_value X e (W.plainGet_of b).1 (W.findObj_own cR c rfl (by rw[hl,d])) g h
def UP{pl:Sem Bool}{Q:Value×List Value->akj->Prop}(X:K.In s.heap)(J:qr s.heap x cb C eg)(a:aoo K C name=true)
  (g:amj K (.ref C) name=some (some (.ref f))) (b:W.isFn K (.ref f)=true) (c:eg name=none) (h:Q (.ref f,[.ref x]) s) :
  wpAny (model prog w) A (ame (.ref x) name pl) Q E s:=by
 obtain⟨d,e,hl⟩:=J.look;exact W.method_fn X e (W.plainGet_of a).1 (W.plainGet_of a).2 g (beq_iff_eq.mp b) (by show(W.lookIn name d).map (·.isSome)=some false;rw[hl,c];rfl) h
def aez{ns:List Str}{Q:Unit->akj->Prop}(X:K.In s.heap)(J:qr s.heap x cb C eg)
  (ax:amj K (.ref C) "__setattr__"=some (some (.builtin "object.__setattr__"))) (l:W.plainOver K C=true) (t:W.takerIn K C name=some none) (cR:aoK K C=true)
  (hw:Within eg ns) (B:ns.length<=aki)
  (h:∀h',qr h' x cb C (λy=>if y=name then some v else eg y)->aou cb s.heap h'->Q () { s with heap:=h',toks:=s.toks+2 }) :
  wpAny (model prog w) A (setAttr (.ref x) name v) Q E s:=by
 obtain⟨z,c,hl⟩:=J.look;refine W.set_plain X c ax (W.osa_open (s:={ s with toks:=s.toks+1 }) (r:=none) X c l t λb=>?_);obtain⟨cd,u,g⟩:=W.any_some cR;have m:s.heap.get? x=some ⟨.ref C,some cb,.plain,#[]⟩:=J.obj;refine akc (akm (akc (akc (wpAny_loadPart m (akc (W.Looks.here (s:={ s with toks:=s.toks+1 }) (W.looks_clsIn X u) ?_))))));rw[g];refine akm (a:=some cb) (akc (akm (akc ?_)));refine wpAny_nsSet1 (s:={ s with toks:=s.toks+1 }) J.ns λh' e d=>?_
 obtain⟨n,q,p,k,j,i⟩:=e.count (Within.cons name v hw);refine akc (wpAny_lookBehind k (by rw[j];exact pastItsLine_dict (akU i (by rw[akO];omega))) ?_);exact akm (h _ ⟨(d.2 _ (amV J.ne)).trans J.obj,e,J.ne⟩ d)
def ZV{R:Result->akj->Prop}{vs:List Value}{a:List (Str×Value)}(X:K.In s.heap)(c:W.makesIn K C=true)
  (hi:amj K (.ref C) "__init__"=some (some (.ref f))) (b:W.typeIn K (.ref f)=some (.type "function"))
  (h:amW (model prog w) (A.under (.builtin "type.__call__" ⟨.ref C::vs,a⟩)) (.call (.ref f) ⟨.ref (s.heap.objs.size+1)::vs,a⟩) (W.InitBack (s.heap.objs.size+1) R)
   { s with heap:=(s.heap.push amo).push (am2 C s.heap.objs.size) }) :
  amW (model prog w) A (.call (.ref C) ⟨vs,a⟩) R s:=by
 obtain⟨cR,g,d,t,os⟩:=s;exact W.make_core (W.makes_of X c) (W.looks_findIn X hi) (λself=>W.bind_fn X self b) (.inl rfl) h
end
def h7(f:Str)(v:V):List (Str×V)->List (Str×V)
 |[]=>[(f,v)]
 |(g,x)::r=>if g=f then(g,v)::r else(g,x)::h7 f v r
theorem NH(f g:Str)(v:V):∀aU:List (Str×V),(h7 f v aU).lookup g=if g=f then some v else aU.lookup g
 |[]=>by
  show alT g [(f,v)]=_
  by_cases h:g=f
  .have a:(g==f)=true:=beq_iff_eq.mpr h
   simp only[alT,a,if_pos h]
  .have a:(g==f)=false:=beq_eq_false_iff_ne.mpr h
   simp only[alT,a,if_neg h]
 |(k,x)::r=>by
  have c:=NH f g v r;rw[show h7 f v ((k,x)::r)=(if k=f then(k,v)::r else(k,x)::h7 f v r)from rfl]
  by_cases b:k=f
  .rw[if_pos b]
   by_cases h:g=k
   .have a:(g==k)=true:=beq_iff_eq.mpr h
    simp only[alT,a,if_pos (h.trans b)]
   .have a:(g==k)=false:=beq_eq_false_iff_ne.mpr h
    simp only[alT,a,if_neg (λe:g=f=>h (e.trans b.symm))]
  .rw[if_neg b]
   by_cases h:g=k
   .have a:(g==k)=true:=beq_iff_eq.mpr h
    simp only[alT,a,if_neg (λe:g=f=>b (h.symm.trans e))]
   .have a:(g==k)=false:=beq_eq_false_iff_ne.mpr h
    simp only[alT,a];exact c
theorem D7(f:Str)(v:V):∀aU:List (Str×V),f∈(h7 f v aU).map (·.1)/\∀g,g∈aU.map (·.1)->g∈(h7 f v aU).map (·.1)
 |[]=>⟨by simp[h7],λg h=>by simp at h⟩
 |(k,x)::r=>by
  obtain⟨b,c⟩:=D7 f v r;rw[show h7 f v ((k,x)::r)=(if k=f then(k,v)::r else(k,x)::h7 f v r)from rfl]
  by_cases a:k=f
  .rw[if_pos a]
   subst a;exact⟨by simp,λg h=>by simpa using h⟩
  .rw[if_neg a]
   refine⟨?_,λg h=>?_⟩
   .rw[aks]
    exact akq _ b
   .rw[aks]at h ⊢
    rcases akt.mp h with e|e
    .exact akt.mpr (.inl e)
    .exact akq _ (c g e)
theorem NB(f:Str)(v:V):∀aU:List (Str×V),(h7 f v aU).length<=aU.length+1
 |[]=>by simp[h7]|(k,x)::r=>by
  have b:=NB f v r;rw[show h7 f v ((k,x)::r)=(if k=f then(k,v)::r else(k,x)::h7 f v r)from rfl]
  by_cases a:k=f
  .rw[if_pos a,akO,akO];omega
  .rw[if_neg a,akO,akO];omega
def mP.some_of{v:V}(r:mP (some v) o):∃u,o=some u/\RelV v u:=by
 cases o with
 |none=>exact(show False from r).elim|some u=>exact⟨u,rfl,r⟩
def mP.none_of(r:mP none o):o=none:=by
 cases o with
 |none=>rfl|some u=>exact(show False from r).elim
def Vm{v:V}(r:RelV v u):W.handedIn u=true:=by
 cases v with
 |aJ=>cases(show u=amC from r);rfl
 |ay b=>cases(show u=aom b from r);rfl
 |int i=>obtain⟨t,e⟩:=(show ∃t,u=ao0 i t from r);cases e;rfl
 |str x=>obtain⟨t,e⟩:=(show ∃t,u=ao1 x t from r);cases e;rfl
 |x1 b=>obtain⟨t,e⟩:=(show ∃t,u=Value.bytes b t from r);cases e;rfl
 |yn b=>obtain⟨t,e⟩:=(show ∃t,u=Value.float b t from r);cases e;rfl
 |ref a=>cases(show u=ald a from r);rfl
 |ty n=>cases(show u=aoS n from r);rfl
section
variable{P:akC}{w:World}{H:aw}{h:Heap}{a C cb:Addr}{aU:List (Str×V)}
def DW(cc:gb P w H h)(e:H a=some (.ins C cb aU)):∃b,qr h a cb C b/\(∀f,mP (aU.lookup f) (b f))/\Within b (aU.map (·.1))/\aU.length<=1000/\H cb=some (.own a):=by
 obtain⟨d,z,ne,bc,b,n,r,q⟩:=(show iL P w H h a (.ins C cb aU)from cc a _ e);exact⟨b,⟨bc,n,ne⟩,r,q,z,d⟩
end
structure i2(K:aO)(C:Addr):Prop where
 kL:aoo K C Str.empty=true
 hd:aoK K C=true
 po:W.plainOver K C=true
 mr:amj K (.ref C) "__setattr__"=some (some (.builtin "object.__setattr__"))
def i2.get{K:aO}{C:Addr}(c:i2 K C)(f:Str):aoo K C f=true:=c.kL
def qp(K:aO)(C:Addr)(f:Str):Prop:=amj K (.ref C) f=some none
def qp.afA{K:aO}{C:Addr}{f:Str}(n:qp K C f):W.takerIn K C f=some none:=by
 unfold W.takerIn;rw[show amj K (.ref C) f=some none from n];rfl
structure Meth(K:aO)(C:Addr)(m:Str)(f:Addr):Prop where
 at_:amj K (.ref C) m=some (some (.ref f))
 fn:W.isFn K (.ref f)=true
 kp:amc K (.ref f)=true
section
variable{X:aT}{zn:c0}{U:St}{H:aw}{s:akj}{a C cb:Addr}{aU:List (Str×V)}{f:Str}{v:V}{A:akL}{E:dj}
def UQ{b:Bool}{Q:dj}(J:Inv X zn U H s)(e:H a=some (.ins C cb aU))(c:i2 X.K C)(n:qp X.K C f)(l:aU.lookup f=some v)
  (h:∀u d,Inv X zn U H d->RelV v u->Q u d):wpAny (model X.prog X.w) A (getAttr (.ref a) f b) Q E s:=by
 obtain⟨j,O,r,_,_,_⟩:=DW J.cc e;obtain⟨u,i,g⟩:=mP.some_of (v:=v) (o:=j f) (by rw[<-l];exact r f);exact get_map J.f3 O (c.get f) c.hd n i (Vm g) (h u _ (J.tok _) g)
def C6{m:Str}{g:Addr}{pl:Sem Bool}{Q:Value×List Value->akj->Prop}(J:Inv X zn U H s)(e:H a=some (.ins C cb aU))(c:i2 X.K C)(k:Meth X.K C m g)(l:aU.lookup m=none)
  (h:Q (.ref g,[.ref a]) s):wpAny (model X.prog X.w) A (ame (.ref a) m pl) Q E s:=by
 obtain⟨d,O,r,_,_,_⟩:=DW J.cc e;have b:d m=none:=mP.none_of (by rw[<-l];exact r m);exact UP J.f3 O (c.get m) k.at_ k.fn b h
def aeB{y:V}{u:Value}{Q:Unit->akj->Prop}(J:Inv X zn U H s)(e:H a=some (.ins C cb aU))(c:i2 X.K C)(n:qp X.K C f)(hl:aU.length<1000)(p:RelV y u)
  (h:∀i,Inv X zn U (upd H a (.ins C cb (h7 f y aU))) i->Q () i):wpAny (model X.prog X.w) A (setAttr (.ref a) f u) Q E s:=by
 obtain⟨k,O,r,wi,_,j⟩:=DW J.cc e;have hz:(aU.map (·.1)).length<=aki:=by rw[akh,akB];omega
 refine aez J.f3 O c.mr c.po n.afA c.hd wi hz λh' d t=>h _ ?_
 have hd:∃o,h'.get? cb=some o:=let⟨o,_,_,bC,_⟩:=d.ns;⟨o,bC⟩
 refine J.write (x:=a) (e:=cb) (by rw[e];exact anD) (.inr j) (λb q m z=>(t.2 b m).trans z) hd ?_;refine⟨by rw[c2 O.ne];exact j,?_,O.ne,d.obj,_,d.ns,λg=>?_,λg l=>?_⟩
 .have:=NB f y aU;omega
 .show mP ((h7 f y aU).lookup g) (if g=f then some u else k g)
  rw[NH]
  by_cases q:g=f
  .rw[if_pos q,if_pos q];exact p
  .rw[if_neg q,if_neg q];exact r g
 .by_cases q:g=f
  .rw[q];exact(D7 f y aU).1
  .refine(D7 f y aU).2 g (wi g λz=>l ?_)
   show(if g=f then some u else k g)=none;rw[if_neg q];exact z
theorem Inv.made(J:Inv X zn U H s):Inv X zn U (upd (upd H s.heap.objs.size (.own (s.heap.objs.size+1))) (s.heap.objs.size+1) (.ins C s.heap.objs.size []))
  { s with heap:=(s.heap.push amo).push (am2 C s.heap.objs.size) }:=by
 have av:(s.heap.push amo).get? s.heap.objs.size=some amo:=akp s.heap rfl;have aE:((s.heap.push amo).push (am2 C s.heap.objs.size)).get? (s.heap.objs.size+1)=some (am2 C s.heap.objs.size):=by
  have:=akp (s.heap.push amo) (o:=am2 C s.heap.objs.size) rfl
  rwa[amN]at this
 have cJ:(s.heap.push amo).Ns s.heap.objs.size (λ_=>none):=⟨amo,#[],_,av,rfl,(λe he=>absurd he (by simp)),λ_=>rfl⟩;have d:=J.laid (a:=s.heap.objs.size) (o:=.own (s.heap.objs.size+1)) (h':=s.heap.push amo) (t':=s.toks) (λb u q=>akf _ q) (akk _) ⟨_,av⟩;refine d.laid (a:=s.heap.objs.size+1) (o:=.ins C s.heap.objs.size []) (t':=s.toks) (λb u q=>akf _ q) (am4 (amN _ _)) ?_;have ne:s.heap.objs.size≠s.heap.objs.size+1:=akR (ano _);refine⟨by rw[c2 ne,d6],akY _,ne,aE,λ_=>none,(Heap.Ns1.of_empty cJ).at λo q=>akf _ q,λ_=>anD,λy c=>absurd rfl c⟩
def Rl{prog:akC}{w:World}{env:Env}{e:Expr}{f:Str}{pos:Pos}{s:akj}{Q:dj}(b:alU e f env (eval e env)=eval e env)
  (h:wpAny (model prog w) A (eval e env) (λo c=>wpAny (model prog w) A (getAttr o f true) Q E c) E s):wpAny (model prog w) A (eval (.Attribute e f pos) env) Q E s:=
 Attribute_any_ h (by rw[arm_eval_Attribute,b])
end
def ae9(K:aO)(c:TE)(f:Str):TE:=λU H Q=>c U H λx b=>∃a C d aU v,x=.ref a/\b a=some (.ins C d aU)/\i2 K C/\qp K C f/\aU.lookup f=some v/\Q v b
def aet(K:aO)(g d:TE)(f:Str):gu:=λD U H=>d U H λy e=>g U e λx b=>∃a C c aU,x=.ref a/\b a=some (.ins C c aU)/\i2 K C/\qp K C f/\aU.length<1000/\
 D.bw U (upd b a (.ins C c (h7 f y aU)))
section
variable{X:aT}{o e value:Expr}{f:Str}{pos pos':Pos}{b9 Ax:TE}
def ac4(he:b2 X e b9)(i:alU e f X.env (eval e X.env)=eval e X.env):b2 X (.Attribute e f pos) (ae9 X.K b9 f):=by
 intro zn s U H Q J h;refine Rl i (b0 (he zn s U H _ J h) λu t g=>?_);obtain⟨x,b,k,d,a,C,r,aU,v,ex,m,c,n,l,q⟩:=g;subst ex;obtain rfl:u=ald a:=d;exact UQ k m c n l λu' s2 j p=>⟨v,b,j,p,q⟩
def adG(g:b2 X o b9)(j:b2 X value Ax)(ax:alW value (some (.Attribute o f pos')) pos.line X.env=pure false):ih X (.Assign [.Attribute o f pos'] value pos) (aet X.K b9 Ax f):=by
 intro zn s U H D J h;refine plainObj_wpAny_Assign_Attribute (b0 (j zn s U H _ J h) λu t ⟨y,b,m,i,q⟩=>b0 (g zn t U b _ m q) λbM s2 ⟨x,w,k,d,a,C,z,aU,ex,r,c,n,l,bP⟩=>?_) ax;subst ex;obtain rfl:bM=ald a:=d;exact aeB k r c n l i λs3 p=>⟨U,_,p,bP⟩
def ajN{pl:Sem Bool}{m:Str}{b:Pos}{args:List Expr}{zn:c0}{s:akj}{U:St}{H:aw}{Q:dj}{te:TE}(he:b2 X e te)(J:Inv X zn U H s)
  (h:te U H λx i=>∃a C n aU g,x=.ref a/\i a=some (.ins C n aU)/\i2 X.K C/\Meth X.K C m g/\aU.lookup m=none/\
   ∀d,Inv X zn U i d->wpAny (model X.prog X.w) X.A (amG pos (.ref g) [.ref a] (akJ pos (ake args X.env)) (alV pos (alp [] X.env))) Q X.dP d)
  (r:eval (.Call (.Attribute e m b) args [] pos) X.env=(do
   let bM <-eval e X.env
   ama b.atName
   let(f,first) <-alm [bM] (ame bM m pl)
   amG pos f first (akJ pos (ake args X.env)) (alV pos (alp [] X.env)))) :
  wpAny (model X.prog X.w) X.A (eval (.Call (.Attribute e m b) args [] pos) X.env) Q X.dP s:=by
 refine aoF (pl:=pl) (b0 (he zn s U H _ J h) λu d ⟨x,i,j,p,a,C,n,aU,g,ex,t,c,k,l,q⟩=>?_) r;subst ex;obtain rfl:u=ald a:=p;exact C6 j t c k l (q d j)
end
structure cA(k:Nat)(A:akL):Prop where
 hd:A.handled=none
 uW:A.depth+3*k+5<recursionLimit
 un:A.units+16*k+200<cLine
def cA.mono(r:cA k A)(h:j<=k):cA j A:=⟨r.hd,by have:=r.uW;omega,by have:=r.un;omega⟩
def cA.deeper{A:akL}(r:cA (k+1) A)(env:Env):cA k (A.deeper env):=
 ⟨r.hd,by have:=r.uW;show A.depth+1+3*k+5 < _;omega,by have:=r.un;show A.units+3+16*k+200 < _;omega⟩
def cA.in1{A:akL}(r:cA (k+1) A):cA k A.in1:=
 ⟨r.hd,by have:=r.uW;show A.depth+3*k+5 < _;omega,by have:=r.un;show A.units+1+16*k+200 < _;omega⟩
def ZU{A:akL}:(A.under (.builtin "type.__call__" ⟨.ref C::us,kw⟩)).depth=A.depth+1:=by
 first|rfl|simp[ao4,Code.weight,Code.isCreation,Code.isGuard,Code.isCaller,Code.frames,Code.isFrame,guardIds]
def ZW{A:akL}:(A.under (.builtin "type.__call__" ⟨.ref C::us,kw⟩)).units=A.units+1:=by
 first|rfl|simp[ao4,Code.cUnits,Code.frames,Code.isFrame]
def cA.make{A:akL}(r:cA (k+1) A)(C:Addr)(us:List Value)(a:List (Str×Value)):cA k (A.under (.builtin "type.__call__" ⟨.ref C::us,a⟩)):=
 ⟨r.hd,by have:=r.uW;rw[ZU];omega,by have:=r.un;rw[ZW];omega⟩
def cA.depth{A:akL}(r:cA k A):A.depth<recursionLimit:=by have:=r.uW;omega
def cA.units{A:akL}(r:cA k A):A.units+64<cLine:=by have:=r.un;omega
def cA.afW{A:akL}(r:cA k A):A.units<cLine:=by have:=r.un;omega
def w1:fR:=λ_ H Q=>Q [] H
def ae7(c:TE)(d:fR):fR:=λU H Q=>c U H λx a=>d U a λxs b=>Q (x::xs) b
section
variable{X:aT}{e:Expr}{az:List Expr}{te:TE}{t:fR}{pos:Pos}
def z2:gS X [] w1:=λ_ _ _ _ H Q J h=>aoj ⟨[],H,J,.nil,h⟩
theorem wA(f:b2 X e te)(b:gS X az t)(ax:ake (e::az) X.env=(false,eval e X.env)::ake az X.env:=by rfl):gS X (e::az) (ae7 te t):=by
 intro pos zn s U H Q J h;rw[ax];show wpAny _ _ (spliced ((false,eval e X.env)::akJ pos (ake az X.env))) _ _ s;refine an4 (b0 (f zn s U H _ J h) λu l d=>?_);obtain⟨x,a,j,k,br⟩:=d;exact b0 (b pos zn l U a _ j br) λus s2 ⟨xs,c,i,g,bP⟩=>⟨x::xs,c,i,.cons k g,bP⟩
def afp(t:fR):TE:=λU H Q=>t U H λxs a=>xs.length<=aki/\∀p,a p=none->Q (.ref p) (upd a p (.t xs))
def afb(t:fR):TE:=λU H Q=>t U H λxs a=>xs.length<=aki/\∀p,a p=none->Q (.ref p) (upd a p (.l xs))
theorem adl{o}(h:gS X az t):b2 X (.Tuple az o pos) (afp t):=by
 intro zn s U H Q J f;refine wpAny_Tuple_spliced (b0 (h pos zn s U H _ J f) λus a ⟨xs,c,d,r,z,q⟩=>⟨by rw[<-r.length];exact z,?_⟩);have g:c a.heap.objs.size=none:=d.cc.fresh (akk _);refine⟨.ref a.heap.objs.size,upd c a.heap.objs.size (.t xs),d.laid (t':=a.toks) (λb u e=>akf _ e) (akk _) ?_,rfl,q _ g⟩;exact⟨z,us,r,⟨_,akp _ rfl,rfl,_,rfl⟩⟩
theorem ada(h:gS X az t):b2 X (.List az pos) (afb t):=by
 intro zn s U H Q J f;refine wpAny_List_spliced (b0 (h pos zn s U H _ J f) λus a ⟨xs,c,d,r,z,q⟩=>⟨by rw[<-r.length];exact z,?_⟩);have g:c a.heap.objs.size=none:=d.cc.fresh (akk _);refine⟨.ref a.heap.objs.size,upd c a.heap.objs.size (.l xs),d.laid (t':=a.toks) (λb u e=>akf _ e) (akk _) ?_,rfl,q _ g⟩;exact⟨z,us,0,r,akp _ rfl⟩
end
abbrev en:=List V->aw->cU->gw->Prop
abbrev mH:=List Env->aw->akj->gw->Value->akj->Prop
structure kX(P:akC)(w:World)(K:aO)(mg:bp)(base:Heap)(A:akL)(outer:List Env)(s:akj)(H:aw):Prop where
 frames:A.frames=some outer
 mod:Mod K mg base
 bs:∀b o,base.get? b=some o->s.heap.get? b=some o/\H b=none
 lP:base.objs.size<=s.heap.objs.size
 ky:s.heap.FunFrames base outer
 pK:∀b∈lU outer,H b=none
 cc:gb P w H s.heap
 bare:ant s.gens
def gO(outer:List Env)(P:akC)(w:World)(H:aw)(s:akj)(Q:cU)(u:Value)(a:akj):Prop:=
 ∃v H',a.os=s.os/\ant a.gens/\gG (lU outer) [] H H' s.heap a.heap/\gb P w H' a.heap/\RelV v u/\Q v H'
def Gx(b:mH)(outer:List Env)(P:akC)(w:World)(H:aw)(s:akj)(Q:cU)(E:gw)(r:Result)(a:akj):Prop:=
 match r with
 |.ok (.ret u)=>gO outer P w H s Q u a|.ok _=>False|.error e=>b outer H s E e a
structure e2(P:akC)(w:World)(K:aO)(mg:bp)(base:Heap)(et:mH)(k:Nat)(f:Addr)(fd:alo)(ps:List Str)(sp:en):Prop where
 len:∀vs H Q E,sp vs H Q E->vs.length=ps.length
 run:∀(A:akL)(outer:List Env)(s:akj)(H:aw)(args:Args)(us:List Value)(vs:List V)(Q:cU)(E:gw),cA k A->kX P w K mg base A outer s H->BindsTo s fd args (ps.zip us)->Vals vs us->sp vs H Q E->
  amW (model P w) A (.call (.ref f) args) (Gx et outer P w H s Q E) s
def e2.mono{P:akC}{w:World}{K:aO}{mg:bp}{base:Heap}{a:mH}{j k:Nat}{f:Addr}{b:alo}{ps:List Str}{sp:en}(F:e2 P w K mg base a j f b ps sp)(h:j<=k) :
  e2 P w K mg base a k f b ps sp:=⟨F.len,λA outer s H args us vs Q E c=>F.run A outer s H args us vs Q E (c.mono h)⟩
def e2.imp{P:akC}{w:World}{K:aO}{mg:bp}{base:Heap}{b:mH}{k:Nat}{f:Addr}{c:alo}{ps:List Str}{sp a:en}(F:e2 P w K mg base b k f c ps sp)
  (h:∀vs H Q E,a vs H Q E->sp vs H Q E):e2 P w K mg base b k f c ps a:=
 ⟨λvs H Q E q=>F.len vs H Q E (h _ _ _ _ q),λA outer s H args us vs Q E d he e g ax=>F.run A outer s H args us vs Q E d he e g (h _ _ _ _ ax)⟩
def kX.make{P:akC}{w:World}{K:aO}{mg:bp}{base:Heap}{A:akL}{outer:List Env}{s:akj}{H:aw}(e:kX P w K mg base A outer s H)(C:Addr)(us:List Value)(a:List (Str×Value)) :
  kX P w K mg base (A.under (.builtin "type.__call__" ⟨.ref C::us,a⟩)) outer s H:=⟨by first|exact e.frames|(simpa[ao4,Code.envs,Code.isFrame,pushEnvs]using e.frames),e.mod,e.bs,e.lP,e.ky,e.pK,e.cc,e.bare⟩
def kX.in1{P:akC}{w:World}{K:aO}{mg:bp}{base:Heap}{A:akL}{outer:List Env}{s:akj}{H:aw}(e:kX P w K mg base A outer s H) :
  kX P w K mg base A.in1 outer s H:=⟨e.frames,e.mod,e.bs,e.lP,e.ky,e.pK,e.cc,e.bare⟩
section
variable{X:aT}{zn:c0}{U:St}{H:aw}{s a0:akj}
def Inv.uZ(J:Inv X zn U H s):kX X.prog X.w X.K X.mg X.base X.A X.stack s H:=
 ⟨J.ok.frames,J.ok.mod,J.bs,akU J.ok.lP J.oR,J.stack,J.PD,J.cc,J.bare⟩
def Inv.after(J:Inv X zn U H s)(h:gO X.stack X.prog X.w H s Q u a0):hp X zn U Q u a0:=by
 obtain⟨v,H',os,bare,un,cc,r,q⟩:=h;obtain⟨cR,g,d,t,a⟩:=a0;obtain rfl:a=s.os:=os;exact⟨v,H',J.call (h':=cR) (g':=g) (d':=d) (t':=t) (ch:=[]) un cc bare (λb z=>absurd z (by simp)),r,q⟩
end
def PK(sp:en)(dvs:List V)(E:gw)(t:fR):TE:=λU H Q=>t U H λvs a=>sp (vs++dvs) a Q E
def PL(C:Addr)(m:Str)(sp:en)(dvs:List V)(E:gw)(d:TE)(t:fR):TE:=λU H Q=>d U H λx b=>∃a e aU,x=.ref a/\b a=some (.ins C e aU)/\aU.lookup m=none/\
 t U b λvs c=>sp (x::(vs++dvs)) c Q E
def afc(C:Addr)(sp:en)(dvs:List V)(E:gw)(t:fR):TE:=λU H Q=>t U H λvs b=>∀x a,b x=none->b a=none->a≠x->
 sp (.ref x::(vs++dvs)) (upd (upd b a (.own x)) x (.ins C a [])) (λv c=>v=.aJ/\Q (.ref x) c) E
def Binds(K:aO)(a:alo)(ps:List Str)(ds:List Value):Prop:=
 ∀(s:akj)(us:List Value),K.In s.heap->(us++ds).length=ps.length->BindsTo s a ⟨us,[]⟩ (ps.zip (us++ds))
def Binds.all{K:aO}{a:alo}{ps:List Str}(h:∀us:List Value,us.length=ps.length->ams a ⟨us,[]⟩=pure (ps.zip us)):Binds K a ps []:=λs us _ hl=>by
 rw[alx]at hl ⊢;exact .of_eq (h us hl)
def Passes(b:mH)(X:aT)(E:gw):Prop:=∀(zn:c0)(U:St)(H:aw)(s:akj)(e:Value)(a:akj),Inv X zn U H s->b X.stack H s E e a->X.dP e a
section
variable{X:aT}{et:mH}{k:Nat}{f C:Addr}{fd:alo}{ps:List Str}{sp:en}{dvs:List V}{ds:List Value}{E:gw}{x m:Str}{p pos apos:Pos}{e o:Expr}{az:List Expr}{b9:TE}{t:fR}
theorem wM{zn:c0}{U:St}{H:aw}{s:akj}{Q:cU}{us:List Value}{vs:List V}(F:e2 X.prog X.w X.K X.mg X.base et k f fd ps sp)(d:cA k X.A)(i:Binds X.K fd ps ds)(hd:Vals dvs ds)(j:Passes et X E)
  (J:Inv X zn U H s) (r:Vals vs us) (h:sp (vs++dvs) H Q E):wpAny (model X.prog X.w) X.A (call (.ref f) us) (hp X zn U Q) X.dP s:=by
 have b:Vals (vs++dvs) (us++ds):=r.append hd;have hl:(us++ds).length=ps.length:=by rw[<-b.length];exact F.len _ _ _ _ h
 refine wpAny_call (amO (F.run X.A X.stack s H ⟨us,[]⟩ (us++ds) (vs++dvs) Q E d J.uZ (i s us J.f3 hl) b h) λr c a=>?_)
 cases r with
 |error e=>exact j zn U H s e c J a|ok g=>
  cases g with
  |ret u=>exact J.after a|next=>exact akT a
  |brk=>exact akT a|cont=>exact akT a
def acX(F:e2 X.prog X.w X.K X.mg X.base et k f fd ps sp)(b:cA k X.A)(c:eb X x)(u:X.mg x=some (.ref f))(j:amc X.K (.ref f)=true)(d:Binds X.K fd ps ds)(hd:Vals dvs ds)(g:Passes et X E)
  (i:gS X (e::az) t) (l:(x==("__debug__":Str))=false:=by decide) (he:ake (e::az) X.env=(false,eval e X.env)::ake az X.env:=by rfl) (n:(akJ pos (ake az X.env)).any (·.1)=false:=by rfl) :
  b2 X (.Call (.Name x p) (e::az) [] pos) (PK sp dvs E t):=by
 intro zn s U H Q J h;refine alB (sU J c u ?_ l);refine aov (h₀:=X.base) J.ok.mod.sR j (b0 (i pos zn s U H _ J h) λus z ⟨vs,y,a,r,q⟩=>⟨a.f3,?_⟩) he n;exact wM F b d hd g a r q
def acY(F:e2 X.prog X.w X.K X.mg X.base et k f fd ps sp)(a:cA k X.A)(b:eb X x)(j:X.mg x=some (.ref f))(g:amc X.K (.ref f)=true)(c:Binds X.K fd ps ds)(hd:Vals dvs ds)(d:Passes et X E)
  (i:(x==("__debug__":Str))=false:=by decide):b2 X (.Call (.Name x p) [] [] pos) (PK sp dvs E w1):=by
 intro zn s U H Q J h;refine alB (sU J b j ?_ i);exact W.callWith_K0 J.f3 g (wM (us:=[]) F a c hd d J .nil h)
theorem OD{pl:Sem Bool}(he:b2 X o b9)(c:i2 X.K C)(g:Meth X.K C m f)(F:e2 X.prog X.w X.K X.mg X.base et k f fd ps sp)(n:cA k X.A)(y:Binds X.K fd ps ds)(hd:Vals dvs ds)(z:Passes et X E)(B:gS X (e::az) t)
  (L:ake (e::az) X.env=(false,eval e X.env)::ake az X.env:=by rfl) (I:(akJ pos (ake az X.env)).any (·.1)=false:=by rfl)
  (D:eval (.Call (.Attribute o m apos) (e::az) [] pos) X.env=(do
   let bM <-eval o X.env
   ama apos.atName
   let(f,first) <-alm [bM] (ame bM m pl)
   amG pos f first (akJ pos (ake (e::az) X.env)) (alV pos (alp [] X.env))):=by rfl) :
  b2 X (.Call (.Attribute o m apos) (e::az) [] pos) (PL C m sp dvs E b9 t):=by
 intro zn s U H Q J h;refine aoF (pl:=pl) (b0 (he zn s U H _ J h) λu M ⟨x,i,d,j,a,O,aU,ex,G,l,q⟩=>?_) D;subst ex;obtain rfl:u=ald a:=j;refine C6 d G c g l ?_;refine aov (first:=[.ref a]) (h₀:=X.base) J.ok.mod.sR g.kp (b0 (B pos zn M U i _ d q) λus s2 ⟨vs,N,b,r,bP⟩=>⟨b.f3,?_⟩) L I;exact wM (us:=.ref a::us) (vs:=.ref a::vs) F n y hd z b (.cons rfl r) bP
theorem ade{pl:Sem Bool}(he:b2 X o b9)(c:i2 X.K C)(d:Meth X.K C m f)(F:e2 X.prog X.w X.K X.mg X.base et k f fd ps sp)(i:cA k X.A)(j:Binds X.K fd ps ds)(hd:Vals dvs ds)(n:Passes et X E)
  (r:eval (.Call (.Attribute o m apos) [] [] pos) X.env=(do
   let bM <-eval o X.env
   ama apos.atName
   let(f,first) <-alm [bM] (ame bM m pl)
   amG pos f first (akJ pos (ake [] X.env)) (alV pos (alp [] X.env))):=by rfl) :
  b2 X (.Call (.Attribute o m apos) [] [] pos) (PL C m sp dvs E b9 w1):=by
 intro zn s U H Q J h;refine aoF (pl:=pl) (b0 (he zn s U H _ J h) λu D ⟨x,z,b,g,a,B,aU,ex,y,l,q⟩=>?_) r;subst ex;obtain rfl:u=ald a:=g;refine C6 b y c d l ?_;exact W.callWith_K0 (first:=[.ref a]) b.f3 d.kp (wM (us:=[.ref a]) (vs:=[.ref a]) F i j hd n b (.cons rfl .nil) q)
structure GK(K:aO)(C f:Addr):Prop where
 makes:W.makesIn K C=true
 init:amj K (.ref C) "__init__"=some (some (.ref f))
 fn:W.isFn K (.ref f)=true
 kp:amc K (.ref C)=true
theorem aen{zn:c0}{U:St}{H:aw}{s:akj}{Q:cU}{us:List Value}{vs:List V}(M:GK X.K C f)(F:e2 X.prog X.w X.K X.mg X.base et k f fd ps sp)(j:cA (k+1) X.A)(q:Binds X.K fd ps ds)(hd:Vals dvs ds)
  (y:Passes et X E) (J:Inv X zn U H s) (r:Vals vs us)
  (h:∀x c,H x=none->H c=none->c≠x->sp (.ref x::(vs++dvs)) (upd (upd H c (.own x)) x (.ins C c [])) (λv n=>v=.aJ/\Q (.ref x) n) E) :
  wpAny (model X.prog X.w) X.A (call (.ref C) us) (hp X zn U Q) X.dP s:=by
 have d:=h (s.heap.objs.size+1) s.heap.objs.size (J.cc.fresh (an1 _)) (J.cc.fresh (akk _)) (akR (ano _));have b:=Inv.made (C:=C) J;have g:Vals (V.ref (s.heap.objs.size+1)::(vs++dvs)) (ald (s.heap.objs.size+1)::(us++ds)):=.cons rfl (r.append hd);have hl:(ald (s.heap.objs.size+1)::us++ds).length=ps.length:=by
  have e:=g.length;rw[F.len _ _ _ _ d]at e;exact e.symm
 refine wpAny_call (ZV (f:=f) J.f3 M.makes M.init (beq_iff_eq.mp M.fn) (amO (F.run _ X.stack _ _ ⟨ald (s.heap.objs.size+1)::us,[]⟩ (ald (s.heap.objs.size+1)::(us++ds)) _ _ E (j.make C us [])
  (b.uZ.make C us []) (q _ (ald (s.heap.objs.size+1)::us) b.f3 hl) g d) λr i a=>?_))
 cases r with
 |error e=>exact y zn U _ _ e i b a|ok l=>
  cases l with
  |ret u=>
   obtain⟨v,H',D,z,G,B⟩:=b.after a;subst G;exact⟨z,⟨V.ref (s.heap.objs.size+1),H',D,rfl,B⟩⟩
  |next=>exact akT a
  |brk=>exact akT a|cont=>exact akT a
def adb(M:GK X.K C f)(F:e2 X.prog X.w X.K X.mg X.base et k f fd ps sp)(b:cA (k+1) X.A)(c:eb X x)(n:X.mg x=some (.ref C))(d:Binds X.K fd ps ds)(hd:Vals dvs ds)(g:Passes et X E)
  (i:gS X (e::az) t) (j:(x==("__debug__":Str))=false:=by decide) (he:ake (e::az) X.env=(false,eval e X.env)::ake az X.env:=by rfl) (l:(akJ pos (ake az X.env)).any (·.1)=false:=by rfl) :
  b2 X (.Call (.Name x p) (e::az) [] pos) (afc C sp dvs E t):=by
 intro zn s U H Q J h;refine alB (sU J c n ?_ j);refine aov (h₀:=X.base) J.ok.mod.sR M.kp (b0 (i pos zn s U H _ J h) λus y ⟨vs,u,a,r,q⟩=>⟨a.f3,?_⟩) he l;exact aen M F b d hd g a r q
end
structure gQ(N P:List Str)(sc:Scope):Prop where
 kind:sc.kind=.function:=by rfl
 co:sc.isCoroutine=false:=by rfl
 gen:sc.isGenerator=false:=by rfl
 fM:N.Nodup:=by decide +kernel
 pre:N.take P.length=P:=by rfl
 par:∀x∈P,sc.names.lookup x=some .local\/sc.names.lookup x=some .cell:=by decide +kernel
 abM:∀y∈sc.names,y.2≠.free:=by decide +kernel
theorem IP{kindOf:Str->Option amH}{x:Str}:∀{binds:List (Str×Value)}{m:bp},(∀v,(x,v)∉binds)->bindL kindOf binds m x=m x
 |[],_,_=>rfl|(n,v)::r,m,h=>by
  unfold bindL;rw[IP λw hw=>h w (akq _ hw)];split
  .have:x≠n:=by rintro rfl;exact h v akw
   simp[this]
  .rfl
theorem IL{kindOf:Str->Option amH}{x:Str}:∀{binds:List (Str×Value)}{m:bp},(∀v,(x,v)∉binds)->bindC kindOf binds m x=m x
 |[],_,_=>rfl|(n,v)::r,m,h=>by
  unfold bindC;rw[IL λw hw=>h w (akq _ hw)];split
  .rfl
  .have:x≠n:=by rintro rfl;exact h v akw
   simp[this]
theorem IM{kindOf:Str->Option amH}{v:Value}:∀{P:List Str}{vs:List Value}{i:Nat}{m:bp},P.Nodup->P[i]? = some x->vs[i]? = some v->kindOf x=some .local->
  bindL kindOf (P.zip vs) m x=some v
 |[],_,_,_,_,h,_,_=>by simp at h| _::_,[],_,_,_,_,h,_=>by simp at h|p::P,w::vs,0,m,fM,o,C,J=>by
  simp at o C;subst o;subst C;show bindL kindOf ((p,w)::P.zip vs) m p=_;unfold bindL;rw[IP λv a=>(ale.mp fM).1 (amX a).1,if_pos J];simp
 |p::P,w::vs,i+1,m,fM,o,C,J=>by
  show bindL kindOf ((p,w)::P.zip vs) m x=_;unfold bindL;exact IM (i:=i) (ale.mp fM).2 (by simpa using o) (by simpa using C) J
theorem IK{kindOf:Str->Option amH}{v:Value}:∀{P:List Str}{vs:List Value}{i:Nat}{m:bp},P.Nodup->P[i]? = some x->vs[i]? = some v->kindOf x≠some .local->
  bindC kindOf (P.zip vs) m x=some v
 |[],_,_,_,_,h,_,_=>by simp at h| _::_,[],_,_,_,_,h,_=>by simp at h|p::P,w::vs,0,m,fM,o,C,J=>by
  simp at o C;subst o;subst C;show bindC kindOf ((p,w)::P.zip vs) m p=_;unfold bindC;rw[IL λv a=>(ale.mp fM).1 (amX a).1,if_neg J];simp
 |p::P,w::vs,i+1,m,fM,o,C,J=>by
  show bindC kindOf ((p,w)::P.zip vs) m x=_;unfold bindC;exact IK (i:=i) (ale.mp fM).2 (by simpa using o) (by simpa using C) J
def start(N:List Str)(vs:List V):St:=vs.map some++akW (N.length-vs.length) none
def gU(b:mH)(P:akC)(w:World)(K:aO)(mg:bp)(base:Heap)(N:List Str)(qual:Str)(scope:Scope)(f:Addr)(cd:Value)(A:akL)(outer:List Env)(s:akj)(H:aw)(E:gw):aT where
 prog:=P
 w:=w
 K:=K
 mg:=mg
 base:=base
 A:=A.deeper (amP qual scope s.heap.objs.size f cd)
 N:=N
 gM:=s
 H₀:=H
 env:=amP qual scope s.heap.objs.size f cd
 outer:=outer
 stack:=amP qual scope s.heap.objs.size f cd::outer
 ex:=[]
 calm:=true
 fn:=λ_=>true
 nz:=[]
 dP:=λe c=>wpAny (model P w) (A.deeper (amP qual scope s.heap.objs.size f cd)) (leaving (amP qual scope s.heap.objs.size f cd) e) (λ_ a=>b outer H s E e a) (λd a=>b outer H s E d a) c
def I4{a:Scope}(h:a.names.lookup x=some .cell):∃c,(cellsFrom n a.names []).lookup x=some c:=by
 have q:=aow a.names n [] (.inl h);exact aox.mp q
def MP{G:mH}{P:akC}{w:World}{K:aO}{mg:bp}{base:Heap}{N ps:List Str}{qual:Str}{scope:Scope}{f:Addr}{cd:Value}{A:akL}{outer:List Env}{s I:akj}{H:aw}{E:gw}{us:List Value}{vs:List V}
  (S:gQ N ps scope) (hd:A.handled=none) (g:kX P w K mg base A outer s H) (hl:vs.length=ps.length) (r:Vals vs us)
  (x:InCallC s s.heap.objs.size (bindL (amP qual scope s.heap.objs.size f cd).kindOf (ps.zip us) λ_=>none) (cellsFrom (s.heap.objs.size+1) scope.names []) (bindC (amP qual scope s.heap.objs.size f cd).kindOf (ps.zip us) λ_=>none) I) :
  Inv (gU G P w K mg base N qual scope f cd A outer s H E) [] (start N vs) H I:=by
 have Q:ps.length<=N.length:=by have:=congrArg al0 S.pre;rw[alC]at this;omega
 obtain⟨m,tk,rfl,D⟩:=x.done;have t:∀b:Addr,b∉(gU G P w K mg base N qual scope f cd A outer s H E).ex:=λb z=>absurd (show b∈([]:List Addr)from z) (by simp)
 refine⟨⟨g.mod,S.kind,rfl,rfl,akk _,λy z c m d=>?_,λy j=>?_,λy c _ h=>?_,λ_=>hd,Around.frames_deeper g.frames,.inr ⟨rfl,rfl⟩,λb z=>absurd z (t b),g.bs,g.lP,λb _ _=>t b,λb z=>absurd z (t b),g.ky,g.pK⟩,
  rfl,g.bare,gG.kept D,⟨_,x.toInCall.ns,λi y v m d O=>?_⟩,λy c h=>⟨_,x.cell y c h⟩,g.cc.fresh (akk _),λy c h=>?_,λp l=>absurd (show p∈([]:c0)from l) (by simp),g.cc.kept D,?_⟩
 .exact name_of_addr x.apart (alH m) (alH d)
 .have j:scope.names.lookup y=some .cell\/scope.names.lookup y=some .free:=j
  rcases j with j|j
  .exact I4 j
  .exact absurd rfl (S.abM _ (alH j))
 .exact al1 (x.above y c (alH h))
 .have hi:i<vs.length:=by
   unfold start at d
   by_cases hi:i<vs.length
   .exact hi
   .rw[akz (by simpa using hi)]at d
    rw[alO]at d;split at d<;>cases d
  have L:vs[i]? = some v:=by
   unfold start at d;rw[akD (by simpa using hi),akA]at d
   cases e:vs[i]? with
   |none=>rw[e]at d;cases d
   |some a=>rw[e]at d;cases d;rfl
  obtain⟨u,F,M⟩:=r.get L;have l:ps[i]? = some y:=by
   rw[<-S.pre,List.getElem?_take_of_lt (by omega)];exact m
  have B:ps.Nodup:=by rw[<-S.pre];exact S.fM.sublist (List.take_sublist _ _)
  refine⟨u,M,?_⟩;rcases S.par y (akM l)with k|k
  .exact .inl ⟨k,IM B l F k⟩
  .obtain⟨c,e⟩:=I4 (n:=s.heap.objs.size+1) k
   refine .inr ⟨.inl k,c,e,?_⟩;have q:=x.cell y c e;rw[IK B l F (by show scope.names.lookup y≠_;rw[k];decide)]at q;exact q
 .exact g.cc.fresh (al1 (x.above y c (alH h)))
 .unfold start
  show _=N.length;rw[akg,akh,ak8];omega
def CU{h:mH}{P:akC}{w:World}{K:aO}{mg:bp}{base:Heap}{k:Nat}{f:Addr}{name qual:Str}{params:am5}{body:List Stmt}{scope:Scope}{F du d D c cm dE:Value}{p Y:Option Addr}
  {Z:Array (Option Value)}{N ps:List Str}{sp:en}(U:K.lookup f=some ⟨dE,Y,.func (al9 name qual params body scope F du d D p c cm),Z⟩) (C:anR K c qual=true) (S:gQ N ps scope)
  (len:∀vs H Q E,sp vs H Q E->vs.length=ps.length)
  (ve:∀(A:akL)(outer:List Env)(s:akj)(H:aw)(vs:List V)(Q:cU)(E:gw),cA k (A.deeper (amP qual scope s.heap.objs.size f c))->sp vs H Q E->
   ∃t,ij (gU h P w K mg base N qual scope f c A outer s H E) body t/\t { bw:=λ_ H'=>Q .aJ H',cn:=Q } (start N vs) H) :
  e2 P w K mg base h (k+1) f (al9 name qual params body scope F du d D p c cm) ps sp:=by
 refine⟨len,λA outer s H args us vs Q E j g T r B=>?_⟩;have hl:=len _ _ _ _ B;have z:K.In s.heap:=g.mod.sR.keeps λb o e=>(g.bs b o e).1
 have m:s.heap.NoLimit:=g.mod.nolimit.keeps λb o e=>(g.bs b o e).1
 have I:∀y∈ps.zip us,scope.names.lookup y.1=some .local\/(scope.names.lookup y.1=some .cell/\((cellsFrom (s.heap.objs.size+1) scope.names []).lookup y.1).isSome=true):=λR M=>by
  obtain⟨n,v⟩:=R;rcases S.par n (amX M).1 with q|q
  .exact .inl q
  .exact .inr ⟨q,aow _ _ _ (.inl q)⟩
 refine codeAny_call_function j.depth (z _ _ U) rfl S.co S.gen rfl (W.codeRec_of z C) (T _ _ _ _ ?_);refine wpAny_newFunctionEnv_cells S.kind I λenv he G x=>?_
 subst he;refine⟨m.keeps x.toInCall.keep,codeAny_func ?_⟩;obtain⟨t,X,L⟩:=ve A outer s H vs Q E (j.deeper _) B;have J:Inv (gU h P w K mg base N qual scope f c A outer s H E) [] (start N vs) H G:=MP S j.hd g hl r x;refine ak9 (X [] G (start N vs) H _ J L) (λO i ax=>?_) λe i ax=>ax
 have fin:∀{U':St}{H':aw}{v:V}{u:Value},Inv (gU h P w K mg base N qual scope f c A outer s H E) [] U' H' i->RelV v u->Q v H'->gO outer P w H s Q u i:=
  λ{U' H' v u} a l q=>⟨v,H',a.os,a.bare,a.base,a.cc,l,q⟩
 cases O with
 |ret u=>
  obtain⟨v,U',H',a,l,q⟩:=ax;exact fin a l q
 |next=>
  obtain⟨U',H',a,q⟩:=ax;exact fin (v:=V.aJ) (u:=amC) a rfl q
 |brk=>
  obtain⟨_,_,_,q⟩:=ax;exact akT q
 |cont=>
  obtain⟨_,_,_,q⟩:=ax;exact akT q
section
variable{X:aT}{x:Str}{p pos:Pos}{e:Expr}{az:List Expr}{t:fR}{id T:String}{r:List V->aw->cU->Prop}
def FY(r:List V->aw->cU->Prop)(t:fR):TE:=λU H Q=>t U H λvs a=>r vs a Q
def acZ(l:jQ X (.builtin id) r)(c:eb X x)(m:X.mg x=none)(f:ak1 x=some (.builtin id))(d:gS X (e::az) t)(b:x≠"__name__":=by decide)(j:(x==("__debug__":Str))=false:=by decide)
  (he:ake (e::az) X.env=(false,eval e X.env)::ake az X.env:=by rfl) (k:(akJ pos (ake az X.env)).any (·.1)=false:=by rfl):b2 X (.Call (.Name x p) (e::az) [] pos) (FY r t):=by
 intro zn s U H Q J h;refine alB (nk J c m f ?_ b j);exact PyProof.Rows.callWith_builtin1 (b0 (d pos zn s U H _ J h) λus n ⟨vs,a,g,i,br⟩=>l zn n U a vs us Q g i br) he k
def ac0(l:jQ X (.type T) r)(c:eb X x)(m:X.mg x=none)(f:ak1 x=some (.type T))(d:gS X (e::az) t)(b:x≠"__name__":=by decide)(j:(x==("__debug__":Str))=false:=by decide)
  (he:ake (e::az) X.env=(false,eval e X.env)::ake az X.env:=by rfl) (k:(akJ pos (ake az X.env)).any (·.1)=false:=by rfl):b2 X (.Call (.Name x p) (e::az) [] pos) (FY r t):=by
 intro zn s U H Q J h;refine alB (nk J c m f ?_ b j);exact alA (b0 (d pos zn s U H _ J h) λus n ⟨vs,a,g,i,br⟩=>l zn n U a vs us Q g i br) he k
end
end aB
namespace c5
open PySem PyProof.Rows
def TZ(A:akL)(s:akj)(a:Int)(t:Tok)(c:Int)(u:Tok):∃e,SeqAt.EqAt A s (.int a t) (.int c u) e/\(e=true↔a=c):=
 ⟨(a==c),ao5 a t c u,by simp⟩
section
variable{prog:akC}{w:World}{A:akL}{E:dj}{s:akj}
def cw(n d:Nat):Option Int->Nat
 |none=>d|some v=>if v<0 then(v+(n:Int)).toNat else min v.toNat n
def Aa(n d:Nat):cw n d none=d:=rfl
def z'(n d k:Nat):cw n d (some (k:Int))=min k n:=by
 show(if(k:Int)<0 then((k:Int)+(n:Int)).toNat else min (k:Int).toNat n)=min k n;rw[if_neg (by omega),aok]
def aeu(n d:Nat)(hd:d<=n)(o:Option Int):cw n d o<=n:=by
 cases o with
 |none=>exact hd|some v=>
  show(if v<0 then(v+(n:Int)).toNat else min v.toNat n)<=n
  by_cases a:v<0
  .rw[if_pos a];omega
  .rw[if_neg a];exact Nat.min_le_right _ _
def I8(v:Int)(n d:Nat):(if v<0 then max (v+(n:Int)) 0 else min v (n:Int))=((cw n d (some v):Nat):Int):=by
 show(if v<0 then max (v+(n:Int)) 0 else min v (n:Int))=(((if v<0 then(v+(n:Int)).toNat else min v.toNat n):Nat):Int)
 by_cases a:v<0
 .simp only[if_pos a];omega
 .simp only[if_neg a];omega
def Q6(lo hi:Option Int)(n:Nat):amY lo hi 1 (n:Int)=(((cw n 0 lo:Nat):Int),((cw n n hi:Nat):Int)):=by
 have a:¬((1:Int)<0):=by omega
 unfold amY;simp only[a,if_false];refine Prod.ext ?_ ?_
 .cases lo with
  |none=>rfl|some v=>exact I8 v n 0
 .cases hi with
  |none=>rfl|some v=>exact I8 v n n
def adA(i j:Nat):amn (i:Int) (j:Int) 1=j-i:=by
 unfold amn;have a:(1:Int) > 0:=by omega
 simp only[a,if_true,Int.ediv_one];split<;>omega
def Pw{v:Value}{o:Option Int}{Q:Option Int->akj->Prop}(p:anc v o)(h:Q o s):wpAny (model prog w) A (Builtin.Slice.slicePartIndex v) Q E s:=by
 cases p with
 |none=>exact slicePart_none h|int i t=>exact slicePart_int h
def Pu{bh:Addr}{a b:Value}{lo hi:Option Int}{n:Nat}{Q:Int×Int×Nat->akj->Prop}(ax:s.heap.IsSliceOf bh a b .none)(pl:anc a lo)(e:anc b hi)
  (h:Q (((cw n 0 lo:Nat):Int),1,cw n n hi-cw n 0 lo) s):wpAny (model prog w) A (aoc (.ref bh) (pure (n:Int))) Q E s:=by
 obtain⟨os,d,f,c⟩:=id ax;unfold aoc Builtin.Slice.sliceFields;refine akc (akc (aly d c (x:=a) rfl (akc (aly d c (x:=b) rfl (akc (aly d c (x:=.none) rfl (akm ?_)))))));refine akc (slicePart_none ?_);show wpAny _ _ (if((1:Int)==0)=true then _ else _) _ _ s;rw[if_neg (by decide)];refine akc (Pw pl (akc (Pw e (akc (akm ?_)))));show wpAny _ _ (match amY lo hi 1 (n:Int)with|(lo,hi)=>pure (lo,(1:Int),amn lo hi 1)) _ _ s;rw[Q6 lo hi n];show wpAny _ _ (pure (((cw n 0 lo:Nat):Int),(1:Int),amn ((cw n 0 lo:Nat):Int) ((cw n n hi:Nat):Int) 1)) _ _ s;rw[adA];exact akm h
def adw(xs:Array Value)(i k:Nat):((akG k).filterMap λ(m:Nat)=>xs[((i:Int)+(m:Int)*1).toNat]?).toArray=((xs.toList.drop i).take k).toArray:=by
 have e:(λ(m:Nat)=>xs[((i:Int)+(m:Int)*1).toNat]?)=λm=>xs[i+m]?:=by
  funext m
  have:((i:Int)+(m:Int)*1).toNat=i+m:=by omega
  rw[this]
 rw[e];have:=pick_run xs i k;rw[List.filterMap_map]at this;have aE:((λx=>xs[x]?)∘λx=>i+x)=λm=>xs[i+m]?:=rfl
 rw[aE]at this;rw[this]
def UK{t bh:Addr}{a:Array Value}{d e:Value}{lo hi:Option Int}{Q:dj}(b:IsTup s.heap t a)(ax:s.heap.IsSliceOf bh d e .none)(pl:anc d lo)(i:anc e hi)
  (hw:¬(cw a.size 0 lo=0/\cw a.size a.size hi=a.size))
  (h:Q (.ref s.heap.objs.size) { s with heap:=s.heap.push { cls:=.type "tuple",data:=.seq ((a.toList.drop (cw a.size 0 lo)).take (cw a.size a.size hi-cw a.size 0 lo)).toArray } })
  (n:a.size<=aki):wpAny (model prog w) A (anu (.ref t) (.ref bh)) Q E s:=by
 have c:sizeOk (.seq ((a.toList.drop (cw a.size 0 lo)).take (cw a.size a.size hi-cw a.size 0 lo)).toArray):=by
  show((a.toList.drop (cw a.size 0 lo)).take (cw a.size a.size hi-cw a.size 0 lo)).toArray.size<=aki;rw[ako,alC,alj,ak0];omega
 have l:cw a.size a.size hi<=a.size:=aeu _ _ (akk _) hi;obtain⟨os,j,k,p⟩:=id ax;have f:s.TypeIs (.ref bh) "slice":=⟨os,j,k⟩;unfold anu
 try with_reducible refine alL ?_
 first|refine akc (akm ?_)|skip
 refine akc (wpAny_sequenceKey b.typeIs (by decide) ?_);refine akc (alP (name:=aky "__getitem__") b.typeIs aln
  (amt aln b.typeIs entry_tuple_getitem ?_ (args_tuple_getitem _ _)))
 show wpAny _ _ (aod (.ref t) >>= _) _ _ s;refine akc (tupleItemsOf_ b ?_);refine akc (wpAny_typeOf f ?_);rw[if_pos (by decide)];refine akc (Pu ax pl i ?_);have g:¬((((cw a.size 0 lo:Nat):Int)==0&&(1:Int)==1&&(cw a.size a.size hi-cw a.size 0 lo)==a.size)=true):=by
  intro q;rw[akH,akH]at q;have br:((cw a.size 0 lo:Nat):Int)=0:=eq_of_beq q.1.1;have bP:cw a.size a.size hi-cw a.size 0 lo=a.size:=eq_of_beq q.2;exact hw ⟨by omega,by omega⟩
 show wpAny _ _ (if(((cw a.size 0 lo:Nat):Int)==0&&(1:Int)==1&&(cw a.size a.size hi-cw a.size 0 lo)==a.size)=true then _ else _) _ _ s;rw[if_neg g,adw]
 first
  |exact akc (m:=amu _) (al6 (akm ⟨_,rfl,akm h⟩) c)
  |exact akc (m:=amu _) (al6 (akc (akm (akm ⟨_,rfl,akm h⟩))) c)
  |exact akc (akc (m:=amu _) (al6 (akm (akm ⟨_,rfl,akm h⟩)) c))
  |exact akc (akc (m:=amu _) (al6 (akm ⟨_,rfl,akm h⟩) c))
end
end c5
namespace aB
open PySem PySem.Spec PyProof.Rows
abbrev dQ:=St->aw->(Option Int->aw->Prop)->Prop
def ux(X:aT)(e:Option Expr)(t:dQ):Prop:=
 ∀(zn:c0)(s:akj)(U:St)(H:aw)(Q:Option Int->aw->Prop),Inv X zn U H s->t U H Q->
  wpAny (model X.prog X.w) X.A (evalPart e X.env) (λu a=>∃o H',Inv X zn U H' a/\anc u o/\Q o H') X.dP s
def aff:dQ:=λ_ H Q=>Q none H
def afj(t:TE):dQ:=λU H Q=>t U H λx a=>∃i,x=.int i/\Q (some i) a
def intsAre_of{ns:List Int}:∀{us:List Value},Vals (ns.map V.int) us->amr us ns:=by
 induction ns with
 |nil=>intro us r;rw[List.map_nil]at r;cases r;exact .nil
 |cons n ns a=>
  intro us r;rw[aks]at r
  cases r with
  |cons c b=>
   obtain⟨t,e⟩:=c;subst e;exact .cons n t (a b)
section
variable{X:aT}{e:Expr}{te:TE}{lo hi:Option Expr}{jh Aq:dQ}{pos ck:Pos}
def adB:ux X none aff:=by
 intro zn s U H Q J h;rw[evalPart_none];exact akm ⟨none,H,J,.none,h⟩
def adC(h:b2 X e te):ux X (some e) (afj te):=by
 intro zn s U H Q J hw;rw[evalPart_some];refine b0 (h zn s U H _ J hw) λu f b=>?_
 obtain⟨x,a,c,d,br⟩:=b;obtain⟨i,rfl,q⟩:=br;obtain⟨t,rfl⟩:=d;exact⟨some i,a,c,.int i t,q⟩
def nP(X:aT)(r:V->Option Int->Option Int->aw->cU->Prop):Prop:=
 ∀(zn:c0)(s:akj)(U:St)(H:aw)(x:V)(v a b:Value)(lo hi:Option Int)(bh:Addr)(Q:cU),Inv X zn U H s->RelV x v->s.heap.IsSliceOf bh a b .none->anc a lo->anc b hi->r x lo hi H Q->
  ∃T id,typeLookup (.type T) "__getitem__"=pure (some (.builtin id))/\s.TypeIs v T/\wpAny (model X.prog X.w) X.A (anu v (.ref bh)) (hp X zn U Q) X.dP s
def nP.or{r b:V->Option Int->Option Int->aw->cU->Prop}(h:nP X r)(h':nP X b):nP X (λx lo hi H Q=>r x lo hi H Q\/b x lo hi H Q):=by
 intro zn s U H x v c d lo hi bh Q J a ax pl f q;rcases q with q|q
 .exact h zn s U H x v c d lo hi bh Q J a ax pl f q
 .exact h' zn s U H x v c d lo hi bh Q J a ax pl f q
def afn(r:V->Option Int->Option Int->aw->cU->Prop)(te:TE)(jh Aq:dQ):TE:=λU H Q=>te U H λx a=>jh U a λl b=>Aq U b λu c=>r x l u c Q
def Fc{r:V->Option Int->Option Int->aw->cU->Prop}(i:nP X r)(he:b2 X e te)(hl:ux X lo jh)(y:ux X hi Aq):b2 X (.Subscript e (.Slice lo hi none ck) pos) (afn r te jh Aq):=by
 intro zn s U H Q J h;refine Subscript_ (b0 (he zn s U H _ J h) λv G d=>?_);obtain⟨x,g,p,t,br⟩:=d;refine wpAny_Slice (b0 (hl zn G U g _ p br) λa s2 ⟨l,j,n,pl,bP⟩=>b0 (y zn s2 U j _ n bP) λc s3 d=>?_);obtain⟨u,f,B,F,z⟩:=d;rw[evalPart_none];refine akm ?_;have E:Inv X zn U f { s3 with heap:=s3.heap.push { cls:=.type "slice",data:=.fields #[a,c,.none] } }:=B.kept (t':=s3.toks) λb bc q=>akf _ q
 obtain⟨T,id,D,m,k⟩:=i zn { s3 with heap:=s3.heap.push { cls:=.type "slice",data:=.fields #[a,c,.none] } } U f x v a c l u s3.heap.objs.size Q E t (Heap.IsSliceOf.new ..) pl F z;show wpAny (model X.prog X.w) X.A (subscriptTail e (.Slice lo hi none ck) v (.ref s3.heap.objs.size)) (hp X zn U Q) X.dP { s3 with heap:=s3.heap.push { cls:=.type "slice",data:=.fields #[a,c,.none] } };exact tail_any (ops:=[.ref s3.heap.objs.size,v]) m D k (by with_unfolding_all rfl)
def pA(xs:List V)(lo hi:Option Int):List V:=(xs.drop (c5.cw xs.length 0 lo)).take (c5.cw xs.length xs.length hi-c5.cw xs.length 0 lo)
def Jh(xs:List V)(lo hi:Option Int):(pA xs lo hi).length<=xs.length:=by
 unfold pA;rw[alC,alj];omega
def ad7(K:aO):V->Option Int->Option Int->aw->cU->Prop:=λx lo hi H Q=>∃a xs,x=.ref a/\dy K H a xs/\
 ¬(c5.cw xs.length 0 lo=0/\c5.cw xs.length xs.length hi=xs.length)/\∀p,H p=none->Q (.ref p) (upd H p (.t (pA xs lo hi)))
theorem Pt:nP X (ad7 X.K):=by
 intro zn s U H x v j k lo hi bh Q J f ax pl i h;obtain⟨a,xs,rfl,g,hw,q⟩:=h;cases f;obtain⟨its,r,d,hz⟩:=J.tuple g;have c:its.toArray.size=xs.length:=by rw[ako];exact r.length.symm
 refine⟨"tuple",_,aln.lookup,d.typeIs,?_⟩;refine c5.UK d ax pl i (by rw[c];exact hw) ?_ (by rw[c];exact hz);rw[c];refine⟨.ref s.heap.objs.size,_,J.laid (t':=s.toks) (o:=.t (pA xs lo hi)) (λb bc q=>akf _ q) (akk _) ?_,rfl,q _ (J.cc.fresh (akk _))⟩;exact⟨akU (Jh xs lo hi) hz,_,(r.drop (c5.cw xs.length 0 lo)).take (c5.cw xs.length xs.length hi-c5.cw xs.length 0 lo),IsTup.new _ _⟩
end
def ng(n:Nat)(i:Int):Option Nat:=if 0<=i then(if i<n then some i.toNat else none)else if -(n:Int)<=i then some (i+n).toNat else none
def d3{α:Type}(xs:List α)(i:Int):Option α:=(ng xs.length i).bind λj=>xs[j]?
def MX{i:Int}(h:ng n i=some j):seqIndex? i n=some j/\j<n/\-(n:Int)<=i/\i<n:=by
 unfold ng at h
 by_cases b:0<=i
 .rw[if_pos b]at h
  by_cases a:i<n
  .rw[if_pos a]at h
   have e:i.toNat=j:=akI h;exact⟨by rw[seqIndex_of b a,e],by omega,by omega,a⟩
  .rw[if_neg a]at h;cases h
 .rw[if_neg b]at h
  by_cases a:-(n:Int)<=i
  .rw[if_pos a]at h
   have e:(i+n).toNat=j:=akI h;exact⟨by rw[seqIndex_neg (by omega) a,e],by omega,a,by omega⟩
  .rw[if_neg a]at h;cases h
def xP{α:Type}{xs:List α}{i:Int}{v:α}(h:d3 xs i=some v):∃j,seqIndex? i xs.length=some j/\xs[j]? = some v/\j<xs.length/\-(xs.length:Int)<=i/\i<xs.length:=by
 unfold d3 at h
 cases e:ng xs.length i with
 |none=>rw[e]at h;cases h
 |some j=>
  rw[e]at h;obtain⟨a,b,c,d⟩:=MX e;exact⟨j,a,h,b,c,d⟩
def G3{α:Type}{xs:List α}{j:Nat}{v:α}(h:xs[j]? = some v):d3 xs (j:Int)=some v:=by
 have a:j<xs.length:=(akd.mp h).1;have e:ng xs.length (j:Int)=some j:=by
  unfold ng;rw[if_pos (by omega),if_pos (by omega)];simp
 unfold d3;rw[e];exact h
def GP(b:Expr):Prop:=∀o i,aoL b false o i=operate [o,i] (anu o i)
def mM(X:aT)(r:fB):Prop:=
 ∀(value a:Expr)(zn:c0)(s:akj)(U:St)(H:aw)(x y:V)(v u:Value)(Q:cU),Inv X zn U H s->RelV x v->RelV y u->r x y H Q->
  aoL a false v u=operate [v,u] (anu v u)->wpAny (model X.prog X.w) X.A (subscriptTail value a v u) (hp X zn U Q) X.dP s
def uw(X:aT)(id:String)(r:V->List V->aw->cU->Prop):Prop:=
 ∀(zn:c0)(s:akj)(U:St)(H:aw)(x:V)(xs:List V)(v:Value)(us:List Value)(Q:cU),Inv X zn U H s->RelV x v->Vals xs us->r x xs H Q->
  wpAny (model X.prog X.w) X.A (call (.builtin id) (v::us)) (hp X zn U Q) X.dP s
section
variable{X:aT}{a b:Expr}{b9 cC:TE}{pos:Pos}
def mM.or{r f:fB}(h:mM X r)(h':mM X f):mM X (λx y H Q=>r x y H Q\/f x y H Q):=by
 intro value c zn s U H x y v u Q J d e q ax;rcases q with q|q
 .exact h value c zn s U H x y v u Q J d e q ax
 .exact h' value c zn s U H x y v u Q J d e q ax
def ac8{r:fB}(d:mM X r)(g:b2 X a b9)(f:b2 X b cC)(ax:GP b):b2 X (.Subscript a b pos) (w2 r b9 cC):=by
 intro zn s U H Q J h;exact Subscript_ (B4 g f J h λv u s2 x y e j c i q=>d a b zn s2 U e x y v u Q j c i q (ax _ _))
def O_(K:aO):fB:=λx y H Q=>∃p xs i v,x=.ref p/\y=.int i/\dr K H p xs/\d3 xs i=some v/\Q v H
def Pa(K:aO):fB:=λx y H Q=>∃p xs i v,x=.ref p/\y=.int i/\dy K H p xs/\d3 xs i=some v/\Q v H
def O':fB:=λx y H Q=>∃z i c,x=.str z/\y=.int i/\z.length<=aki/\d3 z.cps.toList i=some c/\Q (.str ⟨#[c]⟩) H
def YE:mM X (O_ X.K):=by
 intro value e zn s U H x y v u Q J k A h ax;obtain⟨p,xs,i,z,rfl,rfl,m,he,q⟩:=h;cases k;obtain⟨t,rfl⟩:=A;obtain⟨its,r,pl,hz⟩:=J.list m;obtain⟨j,c,n,G,B,D⟩:=xP he;obtain⟨w,g,E⟩:=r.get n;have hl:=r.length;have F:=sV;have fin:hp X zn U Q w s:=⟨z,H,J,E,q⟩
 by_cases f:0<=i
 .have d:i.toNat=j:=by
   rw[seqIndex_of f D]at c;exact akI c
  exact item_listR pl.isList f (by omega) (by rw[d];simpa using g) fin ax
 .have d:(i+(its.toArray.size:Int)).toNat=j:=by
   rw[seqIndex_neg (by omega) B]at c;rw[ako,<-hl];exact akI c
  exact subscriptTail_builtinR (x:=w) pl.isList.typeIs slot_list_getitem.lookup
   (wpAny_getItem_list_neg (Q:=λr l=>r=w/\hp X zn U Q r l) pl.isList (by omega) (by rw[ako]<;>omega) (by omega) (by rw[d];simpa using g) ⟨rfl,fin⟩) ax
def YG:mM X (Pa X.K):=by
 intro value c zn s U H x y v u Q J d l h ax;obtain⟨p,xs,i,z,rfl,rfl,f,he,q⟩:=h;cases d;obtain⟨t,rfl⟩:=l;obtain⟨its,r,pl,hz⟩:=J.tuple f;obtain⟨j,g,k,B,D,E⟩:=xP he;obtain⟨w,m,n⟩:=r.get k;have hl:=r.length;have A:=sV;have fin:hp X zn U Q w s:=⟨z,H,J,n,q⟩;exact subscriptTail_builtinR (x:=w) pl.typeIs slot_tuple_getitem.lookup
  (getItem_tuple (j:=j) (Q:=λr e=>r=w/\hp X zn U Q r e) pl (by omega) (by omega) (by rw[ako,<-hl];exact g) (by simpa using m) ⟨rfl,fin⟩) ax
def YF:mM X O':=by
 intro value d zn s U H x y v u Q J f k h ax;obtain⟨z,i,c,rfl,rfl,hz,he,q⟩:=h;obtain⟨t,rfl⟩:=f;obtain⟨t',rfl⟩:=k;obtain⟨j,e,g,p,l,m⟩:=xP he;have hl:z.cps.toList.length=z.length:=by simp[Str.length]
 rw[hl]at e l m;have n:=sV;exact tail_any (typeIs_str s z t) slot_str_getitem.lookup (getItem_str (c:=c) (by
  have av:decide (i < -(2 ^ 63:Int))=false:=decide_eq_false (by omega);have aE:decide (i≥2 ^ 63)=false:=decide_eq_false (by omega);rw[av,aE,Bool.or_false]) (by rw[e];simpa using g) ⟨.str ⟨#[c]⟩,H,J.tok _,⟨_,rfl⟩,q⟩) ax
def O9(K:aO):fB:=λx y H Q=>O_ K x y H Q\/Pa K x y H Q\/O' x y H Q
def ha:mM X (O9 X.K):=YE.or (YG.or YF)
def ZY(its:List Value)(n j:Nat)(u:Value):akN (·.setIfInBounds j u) { cls:=.type "list",data:=.seq its.toArray n }={ cls:=.type "list",data:=.seq (its.set j u).toArray n }:=by
 simp[akN]
def Inv.l{zn:c0}{U:St}{H:aw}{s:akj}{p:Addr}{xs:List V}(J:Inv X zn U H s)(h:H p=some (.l xs)) :
  ∃(its:List Value)(n:Nat),Vals xs its/\s.heap.get? p=some { cls:=.type "list",data:=.seq its.toArray n }/\xs.length<=aki:=by
 obtain⟨z,its,n,r,e⟩:=J.cc p _ h;exact⟨its,n,r,e,z⟩
theorem Inv.ZH{zn:c0}{U:St}{H:aw}{s:akj}{p:Addr}{xs ys:List V}{its its':List Value}{n c:Nat}{f:Obj->Obj}(J:Inv X zn U H s)(h:H p=some (.l xs))
  (g:s.heap.get? p=some { cls:=.type "list",data:=.seq its.toArray n }) (d:f { cls:=.type "list",data:=.seq its.toArray n }={ cls:=.type "list",data:=.seq its'.toArray c }) (r:Vals ys its') (hz:ys.length<=aki) (t:Nat) :
  Inv X zn U (upd H p (.l ys)) { s with heap:=s.heap.update p f,toks:=t }:=by
 have e:(s.heap.update p f).get? p=some { cls:=.type "list",data:=.seq its'.toArray c }:=by
  rw[Heap.get?_update_self f g (by rw[d]<;>rfl),d]
 refine J.write (x:=p) (e:=p) (by rw[h];trivial) (.inl rfl) (λb u i q=>(aoM _ _ (amV i)).trans q) ⟨_,e⟩ ?_;exact⟨hz,its',c,r,e⟩
def ad5:V->V->V->aw->(aw->Prop)->Prop:=λo i v H Q=>∃p xs k j,o=.ref p/\i=.int k/\H p=some (.l xs)/\ng xs.length k=some j/\Q (upd H p (.l (xs.set j v)))
def set_list:GO X ad5:=by
 intro zn s U H o i v bM F u Q J B e z h;obtain⟨p,xs,k,j,rfl,rfl,g,A,q⟩:=h;cases B;obtain⟨t,rfl⟩:=e;obtain⟨its,n,r,d,hz⟩:=J.l g;obtain⟨c,E,m,w⟩:=MX A;have hl:=r.length;have D:=sV;have x:Inv X zn U (upd H p (.l (xs.set j v))) { s with heap:=s.heap.update p (akN (·.setIfInBounds j u)) }:=
  J.ZH g d (ZY its n j u) (r.set z j) (by rw[akS];exact hz) s.toks
 by_cases y:0<=k
 .have f:k.toNat=j:=by
   rw[seqIndex_of y w]at c;exact akI c
  exact W.ki_setAt d y (by omega) (by rw[ako,<-hl];exact w) (by rw[f];exact⟨_,x,q⟩)
 .have f:(k+(its.toArray.size:Int)).toNat=j:=by
   rw[seqIndex_neg (by omega) m]at c;rw[ako,<-hl];exact akI c
  exact W.ki_setBack d (by omega) (by rw[ako,<-hl];exact m) (by omega) (by rw[f];exact⟨_,x,q⟩)
def Px(lo hi:Option Int)(n:Nat):(amq lo hi none n).1=((c5.cw n 0 lo:Nat):Int)/\(amq lo hi none n).2.1=((c5.cw n n hi:Nat):Int)/\(amq lo hi none n).2.2=1:=by
 refine⟨?_,?_,rfl⟩
 .cases lo with
  |none=>simp[amq,c5.cw]|some i=>
   simp only[amq,c5.cw,Option.getD_none,show(1:Int) > 0 by decide,if_true]
   by_cases h:i<0
   .simp only[h,if_true]<;>omega
   .simp only[h,if_false]<;>omega
 .cases hi with
  |none=>simp[amq,c5.cw]|some i=>
   simp only[amq,c5.cw,Option.getD_none,show(1:Int) > 0 by decide,if_true]
   by_cases h:i<0
   .simp only[h,if_true]<;>omega
   .simp only[h,if_false]<;>omega
def aeH(its:List Value)(lo hi:Option Int):slicePick its.toArray lo hi none=((its.drop (c5.cw its.length 0 lo)).take (c5.cw its.length its.length hi-c5.cw its.length 0 lo)).toArray:=by
 obtain⟨c,d,e⟩:=Px lo hi its.toArray.size;unfold slicePick;rw[c,d,e];simp only[sliceRange_one,pick_run,ako]<;>rfl
def ad6(K:aO):V->Option Int->Option Int->aw->cU->Prop:=λx lo hi H Q=>∃a xs,x=.ref a/\dr K H a xs/\∀p,H p=none->Q (.ref p) (upd H p (.l (pA xs lo hi)))
theorem aeE:nP X (ad6 X.K):=by
 intro zn s U H x v i j lo hi bh Q J e ax pl g h;obtain⟨a,xs,rfl,f,q⟩:=h;cases e;obtain⟨its,r,d,hz⟩:=J.list f;have c:=r.length;refine⟨"list",_,slot_list_getitem.lookup,d.isList.typeIs,?_⟩;refine wpAny_getItem_list_slice d.isList ax pl g .none (by simp) ?_ (by rw[ako]<;>omega);rw[aeH,<-c];refine⟨.ref s.heap.objs.size,_,J.laid (t':=s.toks) (o:=.l (pA xs lo hi)) (λb bc q=>akf _ q) (akk _) ?_,rfl,q _ (J.cc.fresh (akk _))⟩;exact⟨akU (Jh xs lo hi) hz,_,0,(r.drop (c5.cw xs.length 0 lo)).take (c5.cw xs.length xs.length hi-c5.cw xs.length 0 lo),akp _ rfl⟩
def m8:V->Bool
 |.aJ=>true|.ay _=>true|.int _=>true|.str _=>true|_=>false
def m5:V->V->Bool
 |.aJ,.aJ=>true|.ay a,.ay b=>a==b|.ay a,.int b=>(if a then 1 else 0)==b|.int a,.ay b=>a==(if b then 1 else 0)|.int a,.int b=>a==b|.str a,.str b=>a==b|_,_=>false
theorem TY{s:akj}{u v:Value}(d:RelV y u)(c:RelV x v)(f:m8 y=true)(e:m8 x=true):SeqAt.EqAt A s u v (m5 y x):=by
 cases y with
 |aJ=>
  cases d
  cases x with
  |aJ=>cases c;exact SeqAt.EqAt.same _
  |ay b=>cases c;exact SeqAt.EqAt.none_bool b
  |int b=>obtain⟨t,rfl⟩:=c;exact SeqAt.EqAt.none_int b t
  |str b=>obtain⟨t,rfl⟩:=c;exact SeqAt.EqAt.none_str b t
  |_=>exact absurd (show false=true from e) akl
 |ay a=>
  cases d
  cases x with
  |aJ=>cases c;exact SeqAt.EqAt.bool_none a
  |ay b=>cases c;exact SeqAt.EqAt.bool_bool a b
  |int b=>obtain⟨t,rfl⟩:=c;exact SeqAt.EqAt.bool_int a b t
  |str b=>obtain⟨t,rfl⟩:=c;exact SeqAt.EqAt.bool_str a b t
  |_=>exact absurd (show false=true from e) akl
 |int a=>
  obtain⟨t',rfl⟩:=d
  cases x with
  |aJ=>cases c;exact SeqAt.EqAt.int_none a t'
  |ay b=>cases c;exact SeqAt.EqAt.int_bool a t' b
  |int b=>obtain⟨t,rfl⟩:=c;exact ao5 a t' b t
  |str b=>obtain⟨t,rfl⟩:=c;exact ao2 a t' b t
  |_=>exact absurd (show false=true from e) akl
 |str a=>
  obtain⟨t',rfl⟩:=d
  cases x with
  |aJ=>cases c;exact SeqAt.EqAt.str_none a t'
  |ay b=>cases c;exact SeqAt.EqAt.str_bool a t' b
  |int b=>obtain⟨t,rfl⟩:=c;exact ao3 a t' b t
  |str b=>obtain⟨t,rfl⟩:=c;exact SeqAt.EqAt.str_str a t' b t
  |_=>exact absurd (show false=true from e) akl
 |_=>exact absurd (show false=true from f) akl
def n2(x:V)(u:Value):Bool:=match u with
 |.none=>m5 .aJ x|.bool b=>m5 (.ay b) x|.int i _=>m5 (.int i) x|.str z _=>m5 (.str z) x|_=>false
theorem Lj(r:RelV y u)(f:m8 y=true):n2 x u=m5 y x:=by
 cases y with
 |aJ=>cases r;rfl
 |ay b=>cases r;rfl
 |int i=>obtain⟨t,rfl⟩:=r;rfl
 |str z=>obtain⟨t,rfl⟩:=r;rfl
 |_=>exact absurd (show false=true from f) akl
theorem Br:∀{xs:List V}{us:List Value},Vals xs us->xs.all m8=true->us.any (n2 x)=xs.any λy=>m5 y x
 |_,_,.nil,_=>rfl|y::xs,u::us,.cons r t,f=>by
  rw[amS,akH]at f;rw[aoe,aoe,Lj r f.1,Br t f.2]
theorem EH{s:akj}{v:Value}(d:RelV x v)(e:m8 x=true):∀{xs:List V}{us:List Value},Vals xs us->xs.all m8=true->∀u∈us,SeqAt.EqAt A s u v (n2 x u)
 |_,_,.nil,_=>λu c=>by cases c
 |y::xs,u::us,.cons r t,f=>λu' c=>by
  rw[amS,akH]at f;rcases akt.mp c with rfl|c
  .rw[Lj r f.1];exact TY r d f.1 e
  .exact EH d e t f.2 u' c
def DU(x:V)(xs:List V):Bool:=xs.any λy=>m5 y x
def O7(K:aO)(neg:Bool):fB:=λx y H Q=>∃p xs,y=.ref p/\(dr K H p xs\/dy K H p xs)/\m8 x=true/\xs.all m8=true/\Q (.ay (if neg then !DU x xs else DU x xs)) H
def Oo:d0 X (akX .In) (O7 X.K false):=by
 intro zn s U H x y v u Q J d f h;obtain⟨p,xs,rfl,c,e,aU,q⟩:=h;cases f;rcases c with c|c
 .obtain⟨its,r,pl,hz⟩:=J.list c
  refine SeqAt.in_listAt (n2 x) pl.isList (λw hw=>EH d e r aU w (by simpa using hw)) ⟨.ay _,H,J,rfl,?_⟩;rw[show its.toArray.any (n2 x)=its.any (n2 x)by simp,Br r aU];exact q
 .obtain⟨its,r,pl,hz⟩:=J.tuple c
  refine SeqAt.in_tupleAt (n2 x) pl (λw hw=>EH d e r aU w (by simpa using hw)) ⟨.ay _,H,J,rfl,?_⟩;rw[show its.toArray.any (n2 x)=its.any (n2 x)by simp,Br r aU];exact q
def S6:jQ X (.builtin "len") (λxs H Q=>∃p ys,xs=[.ref p]/\(dr X.K H p ys\/dy X.K H p ys)/\Q (.int ys.length) H):=by
 intro zn s U H xs us Q J r h;obtain⟨p,ys,rfl,d,q⟩:=h;obtain⟨u,rfl,f⟩:=vals1 r;cases f;have g:=sV;rcases d with d|d
 .obtain⟨its,e,pl,hz⟩:=J.list d
  have c:=e.length;exact Calls.call_len_list pl.isList (by simp only[ako]<;>omega) ⟨.int ys.length,H,J.tok _,⟨s.toks+1,by rw[ako,c]⟩,q⟩
 .obtain⟨its,e,pl,hz⟩:=J.tuple d
  have c:=e.length;exact len_tuple pl (by simp only[ako]<;>omega) ⟨.int ys.length,H,J.tok _,⟨s.toks+1,by rw[ako,c]⟩,q⟩
def S7:jQ X (.builtin "len") (λxs H Q=>∃z,xs=[.str z]/\z.length<=aki/\Q (.int z.length) H):=by
 intro zn s U H xs us Q J r h;obtain⟨z,rfl,hz,q⟩:=h;obtain⟨u,rfl,t,rfl⟩:=vals1 r;have c:=sV;exact len_str (by omega) ⟨.int z.length,H,J.tok _,⟨_,rfl⟩,q⟩
theorem S8:jQ X (.type "list") (λxs H Q=>∃p ys,xs=[.ref p]/\(dr X.K H p ys\/dy X.K H p ys)/\∀l,H l=none->Q (.ref l) (upd H l (.l ys))):=by
 intro zn s U H xs us Q J r h;obtain⟨p,ys,rfl,d,q⟩:=h;obtain⟨u,rfl,k⟩:=vals1 r;cases k;have fin:∀(its:List Value),Vals ys its->ys.length<=aki->∀(h':Heap)(c':Nat),(∀b j,s.heap.get? b=some j->h'.get? b=some j)->
   h'.get? s.heap.objs.size=some { cls:=.type "list",dict:=none,data:=.seq its.toArray c',slots:=#[] }->hp X zn U Q (.ref s.heap.objs.size) { s with heap:=h' }:=λits c hz h' c' kp e=>
  ⟨.ref s.heap.objs.size,_,J.laid (t':=s.toks) kp (akk _) (show iL X.prog X.w _ h' _ (.l ys)from⟨hz,its,c',c,e⟩),rfl,q _ (J.cc.fresh (akk _))⟩
 rcases d with d|d
 .obtain⟨its,c,pl,hz⟩:=J.list d
  have f:=c.length;obtain⟨o,g,i,n,hd⟩:=pl.isList;exact call_list_seq p (.inl rfl) g i hd (λh' c' kp e=>fin its c hz h' c' kp e) (by simp only[ako]<;>omega)
 .obtain⟨its,c,pl,hz⟩:=J.tuple d
  have f:=c.length;obtain⟨o,g,i,n,hd⟩:=pl;exact call_list_seq p (.inr rfl) g i hd (λh' c' kp e=>fin its c hz h' c' kp e) (by simp only[ako]<;>omega)
theorem x7:jQ X (.type "tuple") (λxs H Q=>∃p ys,xs=[.ref p]/\((dr X.K H p ys/\∀l,H l=none->Q (.ref l) (upd H l (.t ys)))\/(dy X.K H p ys/\Q (.ref p) H))):=by
 intro zn s U H xs us Q J r h;obtain⟨p,ys,rfl,h⟩:=h;obtain⟨u,rfl,g⟩:=vals1 r;cases g;rcases h with⟨C,q⟩|⟨C,q⟩
 .obtain⟨its,c,pl,hz⟩:=J.list C
  have f:=c.length;refine call_tuple_list pl.isList (λh' kp=>?_) (by simp only[ako]<;>omega);have d:Inv X zn U H { s with heap:=h' }:=J.kept (t':=s.toks) kp;have i:Inv X zn U (upd H h'.objs.size (.t ys)) { s with heap:=h'.push { cls:=.type "tuple",data:=.seq its.toArray } }:=
   d.laid (t':=s.toks) (λb o e=>akf _ e) (akk _) (show iL X.prog X.w _ _ _ (.t ys)from⟨hz,its,c,IsTup.new _ _⟩)
  exact⟨.ref h'.objs.size,_,i,rfl,q _ (d.cc.fresh (akk _))⟩
 .obtain⟨its,c,pl,hz⟩:=J.tuple C
  exact call_tuple_same pl ⟨.ref p,H,J,rfl,q⟩
def Ay(K:aO)(T:String)(x:V)(H:aw):Prop:=match x with
 |.str _=>T="str"|.int _=>T="int"|.ref p=>(T="list"/\∃xs,dr K H p xs)\/(T="tuple"/\∃o,K.lookup p=some o/\o.cls=.type "tuple"/\o.dict=none)\/
   (T="dict"/\((∃c,H p=some (.r_ c))\/∃c,H p=some (.gh c)))\/(T="set"/\∃S n,H p=some (.set S n))
 |_=>False
def PW{s:akj}{v:Value}(J:Inv X zn U H s)(r:RelV x v)(ty:Ay X.K T x H) :
  s.TypeIs v T/\∀a,v=.ref a->∃bc,s.heap.get? a=some bc/\bc.dict=none:=by
 cases x with
 |str z=>
  obtain⟨t,rfl⟩:=r;cases(show T="str" from ty);exact⟨typeIs_str s z t,λ_ e=>nomatch e⟩
 |int i=>
  obtain⟨t,rfl⟩:=r;cases(show T="int" from ty);exact⟨typeIs_int s i t,λ_ e=>nomatch e⟩
 |ref p=>
  cases r;rcases ty with⟨rfl,xs,a6⟩|⟨rfl,o,C,hc,hd⟩|⟨rfl,C⟩|⟨rfl,S,n,C⟩
  .obtain⟨its,_,pl,_⟩:=J.list a6
   refine⟨pl.isList.typeIs,λa e=>?_⟩;cases e;obtain⟨o,n,e,c,hd,_⟩:=pl;exact⟨o,e,hd⟩
  .refine⟨⟨o,J.f3 p o C,hc⟩,λa e=>?_⟩
   cases e;exact⟨o,J.f3 _ o C,hd⟩
  .have z:∃o,s.heap.get? p=some o/\o.ExactDict:=by
    rcases C with⟨dm,C⟩|⟨dm,C⟩
    .obtain⟨_,_,_,_,o,_,_,e,ex,_⟩:=J.cc p _ C
     exact⟨o,e,ex⟩
    .obtain⟨_,_,_,_,o,_,_,e,ex,_⟩:=J.cc p _ C
     exact⟨o,e,ex⟩
   obtain⟨o,e,ex⟩:=z;refine⟨⟨o,e,ex.1⟩,λa aE=>?_⟩;cases aE;exact⟨o,e,ex.2.1⟩
  .obtain⟨o,_,_,_,e,ex,_⟩:=J.cc p _ C
   refine⟨⟨o,e,ex.1⟩,λa aE=>?_⟩;cases aE;exact⟨o,e,ex.2.1⟩
 |_=>exact akT ty
def ae6(K:aO)(T:String)(r:V->List V->aw->cU->Prop)(to:TE):TE:=λU H Q=>to U H λx c=>Ay K T x c/\r x [] c Q
def ae5(K:aO)(T:String)(r:V->List V->aw->cU->Prop)(to:TE)(t:fR):TE:=λU H Q=>to U H λx c=>Ay K T x c/\t U c λxs d=>r x xs d Q
variable{o e:Expr}{az:List Expr}{to:TE}{t:fR}{name:Str}{apos dK:Pos}{T id:String}{r:V->List V->aw->cU->Prop}
def acW(f:PlainAttrs T)(slot:Slot T name id)(q:typeOf (.builtin id)=pure (.type "method_descriptor"))(m:uw X id r)(i:b2 X o to)
  (n:alU o name X.env (eval o X.env)=eval o X.env:=by rfl) (p:(apos.endLine==dK.line)=true:=by rfl):b2 X (.Call (.Attribute o name apos) [] [] dK) (ae6 X.K T r to):=by
 intro zn s U H Q J h;refine wpAny_Call_method0_late n p (b0 (i zn s U H _ J h) λv u j=>?_);obtain⟨x,g,c,d,ty,br⟩:=j;obtain⟨k,l⟩:=PW c d ty;exact⟨T,id,f,slot,q,k,l,ane rfl (PySem.evalArgs_none (m zn u U g x [] v [] Q c d .nil br))⟩
def E'(g:PlainAttrs T)(slot:Slot T name id)(B:typeOf (.builtin id)=pure (.type "method_descriptor"))(y:uw X id r)(j:b2 X o to)(p:gS X (e::az) t)
  (z:alU o name X.env (eval o X.env)=eval o X.env:=by rfl)
  (D:((akJ dK (ake (e::az) X.env)).all (λx=>!x.1)&&(alV dK (alp [] X.env)).all (λx=>x.1.isSome)
&&decide ((e::az).length+([]:List ana).length+(if([]:List ana).isEmpty then 0 else 1)<30))=true:=by rfl)
  (A:(apos.endLine==dK.line)=true:=by rfl) (ax:ake (e::az) X.env=(false,eval e X.env)::ake az X.env:=by rfl) (w:(akJ dK (ake az X.env)).any (·.1)=false:=by rfl) :
  b2 X (.Call (.Attribute o name apos) (e::az) [] dK) (ae5 X.K T r to t):=by
 intro zn s U H Q J h;refine wpAny_Call_method_late z D A rfl (b0 (j zn s U H _ J h) λv E l=>?_);obtain⟨x,i,c,d,ty,br⟩:=l;obtain⟨m,n⟩:=PW c d ty;refine⟨T,id,g,slot,B,m,n,?_⟩;have f:=p dK zn E U i _ c br;rw[ax]at f ⊢;refine ane (by show(false||(akJ dK (ake az X.env)).any (·.1))=false;rw[w]<;>rfl) (Calls.evalArgs_plain ?_);exact b0 f λus s2 ⟨vs,k,u,q,bP⟩=>y zn s2 U k x vs v us Q u d q bP
end
def uv(X:aT)(id:String)(r:V->List V->aw->cU->Prop):Prop:=
 ∀(zn:c0)(s:akj)(U:St)(H:aw)(x:V)(xs:List V)(v:Value)(us:List Value)(Q:cU),Inv X zn U H s->RelV x v->Vals xs us->r x xs H Q->
  wpAny (model X.prog X.w) X.A (call (.builtin id) (v::us)) (hp X zn U Q) X.dP s
def Vals.one:∀{x:V}{us:List Value},Vals [x] us->∃u,us=[u]/\RelV x u
 |_,_,.cons r .nil=>⟨_,rfl,r⟩
section
variable{X:aT}{zn:c0}{U:St}{H:aw}{s:akj}{l:Addr}{xs ys:List V}
def Inv.Em{its its':List Value}{n:Nat}{f:Array Value->Array Value}{t':Nat}(J:Inv X zn U H s)(d:H l=some (.l xs))
  (e:s.heap.get? l=some { cls:=.type "list",data:=.seq its.toArray n }) (g:f its.toArray=its'.toArray) (b:Vals ys its') (hz:ys.length<=aki) :
  Inv X zn U (upd H l (.l ys)) { s with heap:=s.heap.update l (akN f),toks:=t' }:=by
 have q:=IsL.update e f;rw[g]at q;refine J.write (x:=l) (e:=l) (by rw[d];exact trivial) (.inl rfl) (λh u a c=>(aoM s.heap (akN f) (amV a)).trans c) ⟨_,q⟩ ?_;exact⟨hz,its',_,b,q⟩
def Inv.NF{t':Nat}(J:Inv X zn U H s)(a:Vals ys its)(hz:ys.length<=aki) :
  Inv X zn U (upd H s.heap.objs.size (.l ys)) { s with heap:=s.heap.push { cls:=.type "list",data:=.seq its.toArray },toks:=t' }:=
 J.laid (λ_ _ q=>akf _ q) (akk _) ⟨hz,its,0,a,akp _ rfl⟩
def Inv.fresh(J:Inv X zn U H s):H s.heap.objs.size=none:=J.cc.fresh (akk _)
def Inv.sX(J:Inv X zn U H s)(a:H l=some (.l xs)):xs.length<=aki/\∃(its:List Value)(n:Nat),Vals xs its/\xs.length=its.length/\s.heap.get? l=some { cls:=.type "list",data:=.seq its.toArray n }:=by
 obtain⟨z,its,n,r,e⟩:=J.cc l _ a;exact⟨z,its,n,r,r.length,e⟩
def N9(h:n<=aki):al2 n=false:=by
 unfold al2;exact decide_eq_false (by omega)
end
section
variable{X:aT}
def O3:V->List V->aw->cU->Prop:=λx vs H Q=>∃l xs y,x=.ref l/\vs=[y]/\H l=some (.l xs)/\xs.length<aki/\Q .aJ (upd H l (.l (xs++[y])))
def tq:uv X "list.append" O3:=by
 intro zn s U H x vs v us Q J b c h;obtain⟨l,xs,y,rfl,rfl,a,hz,q⟩:=h;cases b;obtain⟨u,rfl,d⟩:=c.one;obtain⟨z,its,n,r,hl,e⟩:=J.sX a;refine call_meets F.slot_list_append ⟨_,e,rfl⟩ F.entry_list_append (F.args_list_append_2 _ _) (PySem.list_append l its.toArray n u (by rw[ako];omega)) ⟨e,?_⟩;refine⟨.aJ,_,J.Em (its':=its++[u]) a e (by simp) (r.append (.cons d .nil)) ?_,rfl,q⟩;rw[akg,alv];omega
def O6:V->List V->aw->cU->Prop:=λx vs H Q=>∃l b xs a,x=.ref l/\vs=[.ref b]/\H l=some (.l xs)/\H b=some (.l a)/\xs.length+a.length<=aki/\Q .aJ (upd H l (.l (xs++a)))
def Z_:uv X "list.extend" O6:=by
 intro zn s U H x vs v us Q J f i h;obtain⟨l,b,xs,y,rfl,rfl,c,p,hz,q⟩:=h;cases f;obtain⟨u,rfl,j⟩:=i.one;cases j;obtain⟨z,its,n,r,hl,e⟩:=J.sX c;obtain⟨t,a,k,g,w,aE⟩:=J.sX p;have m:its.toArray.size+a.toArray.size<=aki:=by rw[ako,ako];omega
 have d:¬(!its.toArray.isEmpty&&al2 (its.toArray.size+a.toArray.size))=true:=by
  rw[N9 m,Bool.and_false];exact akl
 refine call_meets F.slot_list_extend ⟨_,e,rfl⟩ F.entry_list_extend (F.args_list_extend_2 _ _)
  (AutoSeq1.list_extend_list_list_0 l its.toArray n b a.toArray k d (by rw[ako];omega) (by omega)) ⟨e,aE,?_⟩
 refine⟨.aJ,_,J.Em (its':=its++a) c e (by simp) (r.append g) ?_,rfl,q⟩;rw[akg];omega
def O4:fB:=λx y H Q=>∃l b xs a,x=.ref l/\y=.ref b/\H l=some (.l xs)/\H b=some (.l a)/\xs.length+a.length<=aki/\∀p,H p=none->Q (.ref p) (upd H p (.l (xs++a)))
def ab6:d0 X (amb .Add) O4:=by
 intro zn s U H x y v u Q J c d h;obtain⟨l,b,xs,t,rfl,rfl,i,j,hz,q⟩:=h;cases c;cases d;obtain⟨z,its,n,r,hl,e⟩:=J.sX i;obtain⟨k,a,m,f,p,aE⟩:=J.sX j;refine P.add_list e aE ?_ (by rw[ako,ako];omega);have g:its.toArray++a.toArray=(its++a).toArray:=by simp
 rw[g];exact⟨.ref _,_,J.NF (t':=s.toks) (r.append f) (by rw[akg];omega),rfl,q _ J.fresh⟩
end
end aB
namespace Gq
open PySem PySem.W PySem.Calls PyProof.Rows
def Ys:∀(ns:List Int)(vs:List Value),WellAll P h vs (ns.map WData.int)->amr vs ns:=by
 intro ns
 induction ns with
 |nil=>
  intro vs w;rw[List.map_nil]at w;cases w;exact .nil
 |cons n ns c=>
  intro vs w;rw[aks]at w
  cases w with
  |cons a b=>
   cases a;exact .cons _ _ (c _ b)
def aex{l:OpenLaw}{n:Nat}(p:l.most=some n){P:Params}{h:Heap}{args:List WData}{b:List Value}
  (j:l.row.toRowW.claim.pre args=true) (k:WellAll P h b args) :
  ∃a vs ns,b=[ald a]/\args=[WData.list (ns.map WData.int)]/\h.get? a=some { cls:=.type "list",data:=.seq vs.toArray }/\amr vs ns/\ns.length<=n:=by
 have x:WShape.hasAll [] args [.list .int]=true:=(pre_splitW j).1;have i:l.pre.holds [] { args:=args }=true:=(pre_splitW j).2;obtain⟨d,r,rfl,s,t⟩:=hasAllW_cons x;obtain rfl:=hasAllW_nil t;obtain⟨xs,rfl,u⟩:=hasW_list s;obtain⟨ns,rfl⟩:=items_int u;have e:ns.length<=n:=by
  unfold OpenLaw.pre at i;have f:(WTm.not (.lt (.lit (.int (n:Int))) (.len (.arg 0)))).holds [] { args:=[.list (ns.map .int)] }=true:=by
   have f:=(holds_andW i).1;rw[p]at f;exact f
  have g:=condW_of f (w_not (w_lt w_lit (w_len_list (w_arg rfl))));rw[akh]at g;refine Nat.le_of_not_lt λq=>?_
  have w:(n:Int)<((ns.length:Nat):Int):=by omega
  first
   |(rw[decide_eq_true w]at g;exact absurd g (by decide))
   |(simp at g;omega)
 cases k with
 |cons z y=>
  cases y
  cases z with
  |list m c=>exact⟨_,_,ns,rfl,rfl,m,Ys ns _ c,e⟩
def adD(l:OpenLaw)(args:List WData):l.row.toRowW.claim.post args (.bool true) args=true:=
 postW_of (r:=l.row.toRowW) (X:=(true==true))
  (show WShape.has [] (.bool true) .bool=true by first|rfl|decide|simp[WShape.has,WShape.arms,WShape.armsAll])
  (show(WTm.eq .res (.lit (.bool true))).value [] { args:=args,res:=some (.bool true),after:=args }=some (.bool (true==true))from w_eq_bool (w_res rfl) w_lit) rfl
def Rk{l:OpenLaw}{n:Nat}{q:akC}{c:List Str}{t:(Str->Option Value)->Heap->Prop}{p:World->Heap->Prop}{d:DefRec}
  (B:l.most=some n) (x:d.params.defaults=[])
  (call:∀(w:World)(gM b:akj)(mg j:bp)(fa:Addr)(o:Obj)(k cd e:Value)(a:Addr)(vs:List Value)(ns:List Int),
   Ground q c [] t w gM mg j b.heap->p w b.heap->
   b.heap.get? fa=some o->o.data=.func (docDef d.name d.params d.body d.scope k cd e)->b.heap.CodeRec cd d.name->mg d.name=some (.ref fa)->
   b.heap.get? a=some { cls:=.type "list",data:=.seq vs.toArray }->amr vs ns->ns.length<=n->b.gens=#[]->
   amW (model l.prog w) aot (.call (.ref fa) ⟨[.ref a],[]⟩) (λr i=>r=.ok (.ret (.bool true))/\OldK b.heap i.heap/\i.os=b.os/\ant i.gens) b) :
  WalkO q c t p l.row.toRowW d [] (λf vs=>PySem.call f vs):=by
 intro w gM b mg j G Y fa o k cd e O du z hd M m P D args s as Q F I u H;obtain rfl:O=.none:=Dflts.none m x;obtain rfl:du=.none:=Dflts.noKw m;obtain⟨a,vs,ns,rfl,rfl,y,g,h⟩:=aex B Q u;refine enter_call (amO (call w gM b mg j fa o k cd e a vs ns G Y z (fd_plain hd) M P y g h D) λr i A=>?_);obtain⟨rfl,E,K,L⟩:=A;exact⟨.inl ⟨.bool true,.bool true,[],rfl,λ_=>rfl,.bool true,adD l _,λ_=>⟨List.Pairwise.nil,λ_ N=>(nomatch N)⟩⟩,E,K,L⟩
end Gq
namespace aB
open PySem PySem.Spec PyProof.Rows
theorem P1:∀{vs:List Value}{ns:List Int},amr vs ns->Vals (ns.map V.int) vs
 |_,_,.nil=>.nil|_,_,.cons n t h=>.cons ⟨t,rfl⟩ (P1 h)
abbrev iI{K:aO}{h:Heap}(_:K.In h):aO:=K
def inClass(s:Stmt)(j:Nat):Stmt:=match s with
 |.ClassDef _ _ _ body _ _ _ _ _ _ _=>body.getD j (.Pass ⟨0,0,0,0⟩)|_=>.Pass ⟨0,0,0,0⟩
def iP(s:Stmt):am5:=match s with
 |.FunctionDef _ a _ _ _ _ _ _ _ _=>a|_=>{ posonlyargs:=[],args:=[],vararg:=none,kwonlyargs:=[],kw_defaults:=[],kwarg:=none,defaults:=[] }
def fJ(s:Stmt):List Stmt:=match s with
 |.FunctionDef _ _ b _ _ _ _ _ _ _=>b|_=>[]
def dd(s:Stmt):Scope:=match s with
 |.FunctionDef _ _ _ _ _ _ a _ _ _=>a|_=>{ kind:=.function,names:=[],isGenerator:=false,isCoroutine:=false }
abbrev eA:mH:=λ_ _ _ _ _ _=>False
abbrev i3:gw:=λ_ _ _=>False
def rx:Passes eA X i3:=λ_ _ _ _ _ _ _ h=>h.elim
structure kY(K:aO)(x qual:Str)(st:Stmt)(f:Addr)(fd:alo):Prop where
 ex:∃(dE:Value)(c9:Option Addr)(du doc pm:Value)(an:Option Addr)(bQ cm:Value)(f6:Array (Option Value)),
  fd=al9 x qual (iP st) (fJ st) (dd st) .none du doc pm an bQ cm/\K.lookup f=some ⟨dE,c9,.func fd,f6⟩/\anR K bQ qual=true
 kp:amc K (.ref f)=true
section
variable{P:akC}{w:World}{K:aO}{mg:bp}{base:Heap}
def kY.ok{x qual:Str}{st:Stmt}{f:Addr}{b:alo}{N ps:List Str}{k:Nat}{sp:en}(F:kY K x qual st f b)(S:gQ N ps (dd st))(len:∀vs H Q E,sp vs H Q E->vs.length=ps.length)
  (j:∀(a:Value)(A:akL)(outer:List Env)(s:akj)(H:aw)(vs:List V)(Q:cU)(E:gw),cA k (A.deeper (amP qual (dd st) s.heap.objs.size f a))->sp vs H Q E->
   ∃t,ij (gU eA P w K mg base N qual (dd st) f a A outer s H E).gA (fJ st) t/\t { bw:=λ_ H'=>Q .aJ H',cn:=Q } (start N vs) H):e2 P w K mg base eA (k+1) f b ps sp:=by
 obtain⟨dE,m,du,d,p,l,a,cm,n,rfl,i,e⟩:=F.ex;refine CU i e S len λA outer s H vs Q E c g=>?_
 obtain⟨t,h,q⟩:=j a A outer s H vs Q E c g;exact⟨t,h.gA,q⟩
def kY.binds{x qual:Str}{st:Stmt}{f:Addr}{e:alo}{ps:List Str}(F:kY K x qual st f e)
  (h:∀(du a d:Value)(b:Option Addr)(c cm:Value)(us:List Value),us.length=ps.length->ams (al9 x qual (iP st) (fJ st) (dd st) .none du a d b c cm) ⟨us,[]⟩=pure (ps.zip us)):Binds K e ps []:=by
 obtain⟨dE,g,du,a,d,b,c,cm,i,rfl,k,j⟩:=F.ex;exact .all (h du a d b c cm)
def yt{x qual:Str}{st:Stmt}{f:Addr}{dE:Value}{g d:Option Addr}{h:Array (Option Value)}{du a e b cm:Value}(l:K.lookup f=some ⟨dE,g,.func (al9 x qual (iP st) (fJ st) (dd st) .none du a e d b cm),h⟩)
  (c:anR K b qual=true) (k:amc K (.ref f)=true):kY K x qual st f (al9 x qual (iP st) (fJ st) (dd st) .none du a e d b cm):=⟨⟨dE,g,du,a,e,d,b,cm,h,rfl,l,c⟩,k⟩
end
def f7(h:n<=1000):n<aki:=Nat.lt_of_le_of_lt h (by decide)
def og{A B:Prop}(h:B):if false=true then A else B:=by
 rw[if_neg akl];exact h
def oh{A B:Prop}(h:A):if true=true then A else B:=by
 rw[if_pos rfl];exact h
end aB
set_option maxHeartbeats 4000000
namespace aB
open PySem PySem.Spec PyProof.Rows
section
variable{κ:Type}[DecidableEq κ]
def F_(a:List (κ×V))(k:κ):Option V:=(a.find? λkv=>decide (kv.1=k)).map (·.2)
end
def Bc(i:Expr):Prop:=∀bM a,aoL i false bM a=operate [bM,a] (anu bM a)
def aeY{prog:akC}{w:World}{A:akL}{E:dj}{s:akj}{env:Env}{value a:Expr}{pos:Pos}{T id:String}{Q:dj}
  (hl:typeLookup (.type T) "__getitem__"=pure (some (.builtin id))) (ax:Bc a)
  (h:wpAny (model prog w) A (eval value env) (λo d=>wpAny (model prog w) A (eval a env) (λi b=>b.TypeIs o T/\wpAny (model prog w) A (anu o i) Q E b) E d) E s) :
  wpAny (model prog w) A (eval (.Subscript value a pos) env) Q E s:=by
 refine Subscript_ (ak9 h (λo d g=>ak9 g (λi b c=>?_) λ_ _ x=>x) λ_ _ x=>x);obtain⟨e,c⟩:=c;unfold subscriptTail;refine akc ?_;rw[getitemInPython_of_ne e.not_modules];refine akc (wpAny_specialOf e hl ?_);have fin:wpAny (model prog w) A (aoL a false o i) (λr f=>wpAny (model prog w) A (letTemporaryGo value o r >>= λ_=>pure r) Q E f) E b:=by
  rw[ax o i];exact wpAny_operating (ak9 c (λr f j=>akc (wpAny_letTemporaryGo (akm j))) λ_ _ x=>x)
 first
  |exact akm (akc fin)
  |exact akc (akm (akc fin))
  |exact akc fin
structure gc(X:aT)(o:Expr)(m:Str)(apos:Pos)(e:Expr)(dK:Pos):Prop where
 base:alU o m X.env (eval o X.env)=eval o X.env
 Ub:((akJ dK (ake [e] X.env)).all (λx=>!x.1)&&(alV dK (alp [] X.env)).all (λx=>x.1.isSome)
&&decide (([e]:List Expr).length+([]:List ana).length+(if([]:List ana).isEmpty then 0 else 1)<30))=true
 line:(apos.endLine==dK.line)=true
 trees:akJ dK (ake [e] X.env)=[(false,eval e X.env)]
class a5 where
 ia:Addr->Prop
 tN:Addr->Str
def oC:gF->Prop
 |.f9 _=>False|_=>True
def qC(c:Addr)(q:Str):Heap->Prop:=λh=>h.CodeRec (.ref c) q
def QY[a5](H:aw)(P:Addr):Prop:=∃ps:Array Value,H P=some (.f9 ps)/\aoG ps.toList/\∀pos a,anv pos ps.toList=some a->∃c,a=.ref c/\H c=some (.ext (qC c (a5.tN P)))
def TabsOk[a5](H:aw):Prop:=∀P,a5.ia P->QY H P
structure eC[a5](H H':aw):Prop where
 at':∀b o,H b=some o->(h:oC o:=by exact trivial)->H' b=some o
 cC:∀b ps,H b=some (.f9 ps)->∃lq,H' b=some (.f9 lq)
 b1:TabsOk H->TabsOk H'
variable[a5]
def aaf(o:gF):oC o\/∃ps,o=.f9 ps:=by cases o<;>first|exact .inl trivial|exact .inr ⟨_,rfl⟩
def eC.refl(H:aw):eC H H:=⟨λ_ _ h _=>h,λ_ ps h=>⟨ps,h⟩,id⟩
def eC.trans(a:eC H H1)(b:eC H1 C):eC H C:=
 ⟨λc o h n=>b.at' c o (a.at' c o h n) n,λc ps h=>let⟨p1,av⟩:=a.cC c ps h;b.cC c p1 av,λg=>b.b1 (a.b1 g)⟩
def eC.some{H H':aw}(s:eC H H')(h:H b≠none):H' b≠none:=by
 cases e:H b with
 |none=>exact absurd e h|some o=>
  rcases aaf o with n|⟨ps,rfl⟩
  .rw[s.at' b o e n];intro z;cases z
  .obtain⟨p,q⟩:=s.cC b ps e;rw[q];intro z;cases z
def eC.free{H H':aw}(e:eC H H')(h:H' l=Option.none):H l=Option.none:=by
 cases q:H l with
 |none=>rfl| some o=>exact absurd h (e.some (by rw[q];intro z;cases z))
def eC.seq{K:aO}{H H':aw}{a:Addr}{xs:List V}(e:eC H H')(h:dr K H a xs):dr K H' a xs:=by
 rcases h with(h|⟨o,h⟩)|h
 .exact .inl (.inl (e.at' _ _ h))
 .exact .inl (.inr ⟨o,e.at' _ _ h⟩)
 .exact .inr h
def TabsOk.put{H:aw}(g:TabsOk H)(o:gF)(a:∀ps,H p≠some (.f9 ps))(b:∀q,H p≠some (.ext (qC p q))):TabsOk (upd H p o):=λP d=>by
 obtain⟨ps,e,t,c⟩:=g P d;refine⟨ps,by rw[c2 (by rintro rfl;exact a _ e)];exact e,t,λpos h f=>?_⟩;obtain⟨c',av,aE⟩:=c pos h f;exact⟨c',av,by rw[c2 (by rintro rfl;exact b _ aE)];exact aE⟩
def TabsOk.new{H:aw}(g:TabsOk H)(h:H p=none)(o:gF):TabsOk (upd H p o):=g.put o (λps=>by rw[h];intro z;cases z) (λa=>by rw[h];intro z;cases z)
def TabsOk.l{H:aw}{p:Addr}{a:List V}(g:TabsOk H)(h:H p=some (.l a))(o:gF):TabsOk (upd H p o):=g.put o (λps=>by rw[h];intro z;cases z) (λb=>by rw[h];intro z;cases z)
def tU{H:aw}(h:H p=none)(o:gF):eC H (upd H p o):=
 ⟨λb u q _=>by rw[c2 (kJ q h)];exact q,λb ps q=>⟨ps,by rw[c2 (kJ q h)];exact q⟩,λg=>g.new h o⟩
def t_{a H:aw}{D:Addr}(c:a D=none)(s:eC a H)(hl:H D=some (.l zs))(o:gF):eC a (upd H D o):=
 ⟨λb u q n=>by rw[c2 (kJ q c)];exact s.at' b u q n,λb ps q=>by rw[c2 (kJ q c)];exact s.cC b ps q,λg=>(s.b1 g).l hl o⟩
end aB
namespace aB
open PySem
def nX(env:Env):List (Str×amH)->List (Str×Addr)->List (Str×Addr)
 |[],acc=>acc|(n,k)::r,acc=>if(k==amT)=true then nX env r ((n,(env.cells.lookup n).getD 0)::acc)else nX env r acc
abbrev m2(scope:Scope)(env:Env):List (Str×Addr):=nX env scope.names []
def I9{scope:Scope}{env:Env}(h:∀y∈scope.names,y.2=.free->∃c,env.cells.lookup y.1=some c):amE scope env=pure (m2 scope env):=by
 unfold amE m2;generalize scope.names=ns at h;generalize([]:List (Str×Addr))=acc;show(forIn ns acc _ >>= _)=_
 induction ns generalizing acc with
 |nil=>rfl|cons y r f=>
  obtain⟨n,k⟩:=y;rw[aoH];have b:=λacc=>f (λy e=>h y (akq _ e)) acc
  by_cases a:(k==amT)=true
  .have g:k=.free:=by simpa using a
   obtain⟨c,d⟩:=h (n,k) akw g;have av:cellOf env n=pure c:=by unfold cellOf;rw[d]
   simp only[a,if_true,av,pure_bind,nX,d,Option.getD_some];exact b _
  .simp only[a,nX]
   exact b _
theorem Ci{env:Env}:∀{ns:List (Str×amH)}{acc:List (Str×Addr)}{p:Str×Addr},p∈nX env ns acc->p∈acc\/∃k,(p.1,k)∈ns/\k=amT/\p.2=(env.cells.lookup p.1).getD 0
 |[],_,_,h=>.inl h|(n,k)::r,acc,p,h=>by
  unfold nX at h;split at h
  .rename_i c
   rcases Ci h with h|⟨o,a,b⟩
   .rcases akt.mp h with rfl|h
    .exact .inr ⟨k,akw,by simpa using c,rfl⟩
    .exact .inl h
   .exact .inr ⟨o,akq _ a,b⟩
  .rcases Ci h with h|⟨o,a,b⟩
   .exact .inl h
   .exact .inr ⟨o,akq _ a,b⟩
theorem Cg:∀{ns:List (Str×amH)}{acc:List (Str×Addr)}{y:Str},((y,amT)∈ns\/∃c,(y,c)∈acc)->∃c,(y,c)∈nX env ns acc
 |[],_,_,h=>by
  rcases h with h|h
  .cases h
  .exact h
 |(n,k)::r,acc,y,h=>by
  unfold nX;split
  .refine Cg ?_
   rcases h with h|⟨c,h⟩
   .rcases akt.mp h with e|h
    .cases e;exact .inr ⟨_,akw⟩
    .exact .inl h
   .exact .inr ⟨c,akq _ h⟩
  .rename_i a
   refine Cg ?_;rcases h with h|h
   .rcases akt.mp h with e|h
    .cases e;exact absurd rfl a
    .exact .inl h
   .exact .inr h
theorem NG{α:Type}{y:Str}{c:α}:∀{l:List (Str×α)},(y,c)∈l->∃c',l.lookup y=some c'
 |(n,k)::r,h=>by
  by_cases e:(y==n)=true
  .exact⟨k,by rw[akv,e]⟩
  .have a:(y==n)=false:=by simpa using e
   rcases akt.mp h with z|z
   .cases z;simp at e
   .obtain⟨c',q⟩:=NG z
    exact⟨c',by rw[akv,a];exact q⟩
def Ti{scope:Scope}{env:Env}(h:∀y∈scope.names,y.2=.free->∃c,env.cells.lookup y.1=some c)(e:(m2 scope env).lookup y=some c):env.cells.lookup y=some c:=by
 rcases Ci (alH e)with z|⟨k,a,b,d⟩
 .cases z
 .obtain⟨c',q⟩:=h _ a b
  have d':c=(env.cells.lookup y).getD 0:=d;have f:env.cells.lookup y=some c':=q;rw[f]at d' ⊢;exact congrArg some d'.symm
def I7{scope:Scope}(h:scope.names.lookup y=some .free):∃c,(m2 scope env).lookup y=some c:=by
 obtain⟨c,q⟩:=Cg (env:=env) (acc:=[]) (.inl (alH h));exact NG q
theorem NQ{g:Str×amH->Str×amH}{y:Str}(c:∀p,(g p).1=p.1)(d:∀p,p.2≠.cell->(g p).2=.cell\/(g p).2=.free->p.2=.free) :
  ∀{ns:List (Str×amH)},(∀z∈ns,z.2≠aof)->((ns.map g).lookup y=some .cell\/(ns.map g).lookup y=some .free)->ns.lookup y=some .free
 | [],_,h=>by simp at h|p::r,hc,h=>by
  rw[aks]at h;have f:=NQ (g:=g) (y:=y) c d (ns:=r) λz hz=>hc z (akq _ hz)
  have b:=hc p akw;have br:=c p;have bP:=d p b;generalize g p=q at h br bP;obtain⟨kh,a⟩:=q;obtain⟨n,k⟩:=p;have br:kh=n:=br;subst br;have bP:a=.cell\/a=.free->k=.free:=bP;rw[akv]at h ⊢
  cases e:(y==kh)with
  |true=>
   rw[e]at h;have h':some a=some aof\/some a=some amT:=h;exact congrArg some (bP (h'.imp akI akI))
  |false=>
   rw[e]at h;exact f h
def aeb{scope:Scope}(c:∀z∈scope.names,z.2≠aof)(h:(relabel scope env).names.lookup y=some .cell\/(relabel scope env).names.lookup y=some .free):scope.names.lookup y=some .free:=by
 refine NQ (λp=>?_) (λp a q=>?_) c h
 .obtain⟨n,k⟩:=p
  dsimp only;split<;>rfl
 .obtain⟨n,k⟩:=p
  dsimp only at q a ⊢;split at q
  .rename_i b
   have:=(akH _ _▸(akH _ _▸b).1).1;simpa using this
  .exact q.elim (λz=>absurd z a) id
end aB
namespace aB
open PySem PySem.Spec PyProof.Rows
def cI(X:aT)(scope:Scope)(N:List Str)(C:Addr)(a:List Addr)(s:akj)(H:aw):aT where
 prog:=X.prog
 w:=X.w
 K:=X.K
 mg:=X.mg
 base:=X.base
 A:=X.A
 N:=N
 gM:=s
 H₀:=H
 env:=compEnvC scope (m2 scope X.env) C X.env
 outer:=X.stack
 stack:=X.stack
 ex:=a
 fn:=λ_=>false
 calm:=X.calm
 nz:=[]
 dP:=λ_ _=>False
structure kW(esc scope:Scope)(EN N:List Str)(n:Nat)(cap:List Nat):Prop where
 kind:scope.kind=.function
 cell:∀y∈scope.names,y.2≠.cell
 loc:∀y∈scope.names,y.2=.local->scope.names.lookup y.1=some .local
 free:∀y∈scope.names,y.2=.free->esc.names.lookup y.1=some .cell\/esc.names.lookup y.1=some .free
 fM:N.Nodup
 len:N.length=n+cap.length
 Ta:∀j<cap.length,N[n+j]? = EN[cap.getD j 0]?/\∀x,N[n+j]? = some x->scope.names.lookup x=some .free
def fY(n:Nat)(cap:List Nat)(U:St):St:=akW n none++cap.map λk=>(U[k]?).join
def Tr{cap:List Nat}:(fY n cap U).length=n+cap.length:=by
 unfold fY;rw[akg,ak8,akh]
def Tq{cap:List Nat}{U:St}{v:V}(h:(fY n cap U)[i]? = some (some v)):∃j,i=n+j/\j<cap.length/\U[cap.getD j 0]? = some (some v):=by
 unfold fY at h
 by_cases hi:i<n
 .rw[akD (by simpa using hi),alO,if_pos hi]at h
  cases h
 .rw[akz (by simpa using hi),ak8,akA]at h
  cases e:cap[i-n]? with
  |none=>rw[e]at h;cases h
  |some k=>
   rw[e]at h;have hl:i-n<cap.length:=(akd.mp e).1;refine⟨i-n,by omega,hl,?_⟩;have h':(U[k]?).join=some v:=akI h;rw[ak7,e,Option.getD_some]
   cases q:U[k]? with
   |none=>rw[q]at h';cases h'
   |some z=>rw[q]at h';exact congrArg some h'
section
variable{X:aT}{scope esc:Scope}{EN N:List Str}{n:Nat}{cap:List Nat}{zn:c0}{U:St}{H:aw}{s:akj}{aR:List Addr}
def Yu{h':Heap}{tk:Nat}{m:bp}(S:kW esc scope EN N n cap)(he:X.env.scope=esc)(hN:X.N=EN)(J:Inv X zn U H s)(g:∀b∈aR,gR X zn H b)(I:∀b∈aR,∃o,s.heap.get? b=some o)
  (W:h'.Ns s.heap.objs.size m) (k:∀b o,s.heap.get? b=some o->h'.get? b=some o) :
  Inv (cI X scope N s.heap.objs.size aR s H) [] (fY n cap U) H { s with heap:=h',toks:=tk }:=by
 have V:∀y∈scope.names,y.2=.free->∃c,X.env.cells.lookup y.1=some c:=λy A P=>by
  refine J.ok.has y.1 ?_;show X.env.scope.names.lookup y.1=_\/X.env.scope.names.lookup y.1=_;rw[he];exact S.free y A P
 have up:∀{y:Str}{c:Addr},(m2 scope X.env).lookup y=some c->X.env.cells.lookup y=some c:=λ{y c} e=>Ti V e
 have G:∀y,(cI X scope N s.heap.objs.size aR s H).env.kindOf y=some .cell\/(cI X scope N s.heap.objs.size aR s H).env.kindOf y=some .free->scope.names.lookup y=some .free:=λy h=>aeb S.cell h
 have a:∀c v,s.heap.IsCell c v->h'.IsCell c v:=λc v ⟨o,e,d⟩=>⟨o,k c o e,d⟩
 refine⟨⟨J.ok.mod,S.kind,J.ok.glob,J.ok.blt,akk _,λx y c L M=>J.ok.inj x y c (up L) (up M),λy A=>I7 (G y A),λ_ _ z=>absurd z akl,J.ok.hd,J.ok.frames,.inl rfl,λb f=>⟨?_,λx c e=>(g b f).2.2.2.2.1 x c (up e)⟩,J.bs,akU J.ok.lP J.oR,λb o e f=>?_,λb f hz=>?_,J.stack,J.PD⟩,
  rfl,J.bare,gG.kept k,⟨m,W,λi x v av aE cJ=>?_⟩,λx c e=>?_,J.cc.fresh (akk _),λx c e=>J.lT x c (up e),λp K=>absurd (show p∈([]:c0)from K) (by simp),J.cc.kept k,?_⟩
 .obtain⟨o,e⟩:=I b f
  exact akR (akr e)
 .rcases(g b f).2.2.2.1 with z|z
  .exact J.ok.we b o e z
  .exact absurd (akQ (akr e) (akU J.ok.lP z)) (ak6 _)
 .rcases akt.mp (J.FT b hz)with z|z
  .exact(g b f).2.1 z
  .exact(g b f).2.2.1 z
 .obtain⟨j,rfl,Q,eJ⟩:=Tq aE
  obtain⟨bb,ab⟩:=S.Ta j Q;have av:N[n+j]? = some x:=av;have t:=ab x av;rw[av,<-hN]at bb;obtain⟨c,E⟩:=I7 (env:=X.env) t;obtain⟨Y,O,hl⟩:=J.loc;have F:X.env.scope.names.lookup x=some .cell\/X.env.scope.names.lookup x=some .free:=by
   rw[he];exact S.free (x,.free) (alH t) rfl
  obtain⟨u,r,l⟩:=hl _ x v bb.symm eJ (F.elim (λz=>.inr (.inl z)) λz=>.inr (.inr z));refine⟨u,r,.inr ⟨?_,c,E,?_⟩⟩
  .rcases cJ with z|z|z
   .exfalso
    have R:(relabel scope X.env).names.lookup x=some .local:=z;have hz:∀ns:List (Str×amH),ns.lookup x=some .free->(ns.map λ(n,k)=>if(k==amT&&X.env.scope.kind==.function&&X.env.kindOf n==some .cell)then(n,aof)else(n,k)).lookup x≠some .local:=by
     intro ns
     induction ns with
     |nil=>intro h;simp at h|cons p r B=>
      obtain⟨nz,T⟩:=p;intro h;rw[aks];rw[akv]at h
      cases q:(x==nz)with
      |true=>
       rw[q]at h;have h':T=.free:=akI h;subst h';dsimp only;split
       .rw[akv,q];intro w;cases w
       .rw[akv,q];intro w;cases w
      |false=>
       rw[q]at h;dsimp only;split
       .rw[akv,q];exact B h
       .rw[akv,q];exact B h
    exact hz _ t R
   .exact .inl z
   .exact .inr z
  .rcases l with⟨q,_⟩|⟨_,c',k4,z⟩
   .exfalso
    have D:X.env.scope.names.lookup x=some .local:=q;rcases F with w|w<;>rw[w]at D<;>cases D
   .rw[up E]at k4
    cases k4;exact a c _ z
 .obtain⟨v,z⟩:=J.cell x c (up e)
  exact⟨v,a c v z⟩
 .show(fY n cap U).length=N.length
  rw[Tr,S.len]
def Yt{N:List Str}(J:Inv X zn U H s)(d:∀b∈aR,gR X zn H b)(c:Inv (cI X scope N C aR s H) ajU U' H' o):Inv X zn U H' o:=
 J.SY c.os c.base c.cc c.bare λb a=>⟨(d b a).2.2.2.1,(d b a).2.1,(d b a).2.2.2.2.1,(d b a).2.2.2.2.2⟩
end
section
variable{X:aT}
def rX(X:aT)(a:List Expr)(t:TT):Prop:=
 ∀(zn:c0)(s:akj)(U:St)(H:aw)(Q:Bool->aw->Prop),Inv X zn U H s->t U H Q->
  wpAny (model X.prog X.w) X.A (forIn a true λc r=>if r=true then do let ok <-isTrue c X.env (eval c X.env);pure (anE ok)else pure (anE r)) (Bh X zn U Q) X.dP s
def F0:TT:=λ_ H Q=>Q true H
def OH:rX X [] F0:=λ_ _ _ H _ J h=>wpAny_tests_nil ⟨H,J,h⟩
def adn(h:ik X c t):rX X [c] t:=λzn s U H Q J a=>wpAny_tests_one (h zn s U H Q J a)
end
section
variable{prog:akC}{w:World}{A:akL}{R:Result->akj->Prop}{s:akj}
def Tj{d a b:Expr}{e:List Expr}{scope:Scope}{pos:Pos}{it acc:Value}{env:Env}(J:Nat->akj->Prop)
  (turn:∀n s,J n s->wpAny (model prog w) A (am3 it) (λr f=>match r with
   |none=>R (.ok .next) f| some v=>wpAny (model prog w) A (anC a it v) (λ_ j=>wpAny (model prog w) A (al8 a env v) (λ_ p=>
     wpAny (model prog w) A (forIn e true λc r=>if r=true then do let ok <-isTrue c env (eval c env);pure (anE ok)else pure (anE r)) (λok g=>
      if ok=true then wpAny (model prog w) A (eval d env) (λx i=>
       wpAny (model prog w) A (call (.builtin "list.append") [acc,x]) (λ_ k=>∃m,m<n/\J m k) (λ_ _=>False) i) (λ_ _=>False) g
      else ∃m,m<n/\J m g) (λ_ _=>False) p) (λ_ _=>False) j) (λ_ _=>False) f) (λ_ _=>False) s)
  (n:Nat) (h:J n s) :
  amW (model prog w) A (.compLoop (.ListComp d [⟨a,b,e,0⟩] scope pos) 0 it acc env) R s:=by
 refine codeAny_loop rfl J (λn s y=>?_) n h;show wpAny _ A ((compTurn (.ListComp d [⟨a,b,e,0⟩] scope pos) 0 it acc env).onRaise (λx=>do noteFrame x env;theTreesLotGoes x)) _ _ s;refine wpAny_noted ?_;rw[compTurn_list];refine akc (ank (akc (ak9 (turn n s y) (λr f l=>?_) λ_ _ h'=>h'.elim)))
 cases r with
 |none=>exact akm l|some v=>
  refine akc (ak9 l (λ_ j t=>?_) λ_ _ h'=>h'.elim);refine akc (ak9 t (λ_ p z=>akc (ak9 z (λok g q=>?_) λ_ _ h'=>h'.elim)) λ_ _ h'=>h'.elim)
  cases ok with
  |false=>exact akm ⟨rfl,q⟩|true=>
   exact akc (akc (ak9 q (λx i B=>akc (ak9 B (λ_ k u=>akm (akm ⟨rfl,u⟩)) λ_ _ h'=>h'.elim)) λ_ _ h'=>h'.elim))
end
def mK(U a:St):Prop:=U.length=a.length/\∀(i:Nat) v,U[i]? = some (some v)->a[i]? = some (some v)
def mK.refl(U:St):mK U U:=⟨rfl,λ_ _ h=>h⟩
def mK.set{U b:St}(h:mK U b)(c:U[i]? = some none):mK U (b.set i (some x)):=by
 refine⟨by rw[akS];exact h.1,λj v e=>?_⟩
 by_cases a:i=j
 .subst a;rw[c]at e;cases e
 .rw[akn a];exact h.2 j v e
def Cn(d:ie)(U':St)(g:iM)(tt:TT)(te:TE)(D:Addr)(h:aw)(Q:cU):Prop:=
  ∃W:Nat->Nat->List V->aw->Prop,(∃m,W 0 m [] (upd h D (.l [])))/\∀i m ys H,W i m ys H->
   ((d.stop i H/\Q (.ref D) H)\/(d.go i H/\∀x H',d.o' i H x H'->g x U' H' λc j=>mK U' c/\tt c j λb e=>
       if b=true then te c e λy f=>f D=some (.l ys)/\ys.length<aki/\∃a,a<m/\W (i+1) a (ys++[y]) (upd f D (.l (ys++[y])))else ∃a,a<m/\W (i+1) a ys e))
def t2(n:Nat)(cap:List Nat)(wi:TI)(g:iM)(tt:TT)(te:TE):TE:=λU H Q=>wi U H λb a=>∀D,a D=none->Cn b (fY n cap U) g tt te D a Q
section
variable{X:aT}{scope esc:Scope}{EN N:List Str}{n:Nat}{cap:List Nat}{zn:c0}{U:St}{s:akj}{elt cg iter:Expr}{ifs:List Expr}{pos:Pos}{g:iM}{tt:TT}{te:TE}
def Je{E:dj}{H:aw}{cu:ie}{a:List Addr}{it:Addr}{eT:Nat->Heap->Prop}{Q:cU}{xF:Value->Addr->Result->akj->Prop}(S:kW esc scope EN N n cap)(he:X.env.scope=esc)(hN:X.N=EN)(hc:X.calm=true)
  (aQ:∀C a s H,nN (cI X scope N C a s H) cg g) (bF:∀C a s H,rX (cI X scope N C a s H) ifs tt) (hX:∀C a s H,b2 (cI X scope N C a s H) elt te)
  (J:Inv X zn U H s) (T:Turn X.prog X.w X.K cg cu a it eT) (st:eT 0 s.heap) (hf:∀b∈a,gR X zn H b) (a6:∀D,H D=none->Cn cu (fY n cap U) g tt te D H Q)
  (Vi:∀D C H' f m,Inv X zn U H' f->gR X zn H' C->f.heap.Ns C m->Q (.ref D) H'->xF (.ref D) C (.ok .next) f) :
  wpAny (model X.prog X.w) X.A (newList []) (λacc j=>wpAny (model X.prog X.w) X.A (newFunctionEnv scope X.env.globals (m2 scope X.env) [] X.env.qual none .none (some X.env)) (λI5 Aj=>
   amW (model X.prog X.w) X.A (.compStart (.ListComp elt [⟨cg,iter,ifs,0⟩] scope pos) 0 (.ref it) acc { I5 with scope:=relabel scope X.env }) (xF acc I5.locals) Aj) E j) E s:=by
 refine al6 (wpAny_newFunctionEnv S.cell (by intro y a9;simp at a9) (λG O L=>?_) S.kind);have B:=J.NF (t':=s.toks) (ys:=[]) (its:=[]) .nil (akY _);have gX:H s.heap.objs.size=none:=J.fresh;obtain⟨W,⟨m0,w8⟩,turn⟩:=a6 _ gX;generalize pN:({ s with heap:=s.heap.push { cls:=.type "list",data:=.seq ([]:List Value).toArray },toks:=s.toks }:akj)=s3 at B;have vw:∀b o,s.heap.get? b=some o->s3.heap.get? b=some o:=λb o e=>by rw[<-pN];exact akf _ e
 have ajA:({ s with heap:=s.heap.push { cls:=.type "list",data:=.seq ([]:List Value).toArray } }:akj)=s3:=pN;have cR:s.heap.push { cls:=.type "list",data:=.seq ([]:List Value).toArray }=s3.heap:=by rw[<-pN]
 dsimp only at O L ⊢
 try rw[cR]at O
 try rw[cR]at L
 have M:∀b∈a,gR X zn (upd H s.heap.objs.size (.l [])) b:=λb c=>by
  refine⟨?_,(hf b c).2⟩;obtain⟨o,e,_⟩:=T.obj _ _ st b c;rw[c2 (akR (akr e))];exact(hf b c).1
 have sN:∀b o,s3.heap.get? b=some o->G.get? b=some o:=λb o e=>L.extBut b o (akR (akr e)) (akf _ e)
 have bc:∀b∈a,∃o,s3.heap.get? b=some o:=λb c=>by
  obtain⟨o,e,_⟩:=T.obj _ _ st b c;exact⟨o,vw b o e⟩
 have jS:=Yu (tk:=s3.toks) S he hN B M bc O sN;have tW:eT 0 G:=T.keep _ _ _ st λb _ o e=>sN b o (vw b o e)
 have Vc:s3.heap.objs.size<=s3.heap.objs.size:=akk _;have h:∀j:akj,j.heap=G->Inv (cI X scope N s3.heap.objs.size a s3 (upd H s.heap.objs.size (.l []))) [] (fY n cap U) (upd H s.heap.objs.size (.l [])) j->
   amW (model X.prog X.w) X.A (.compLoop (.ListComp elt [⟨cg,iter,ifs,0⟩] scope pos) 0 (.ref it) (.ref s.heap.objs.size) (compEnvC scope (m2 scope X.env) s3.heap.objs.size X.env)) (xF (.ref s.heap.objs.size) s3.heap.objs.size) j:=by
  intro j T_ I;have rC:∀{H':aw},(∀b∈a,H' b=none)->∀b∈a,gR (cI X scope N s3.heap.objs.size a s3 (upd H s.heap.objs.size (.l []))) [] H' b:=λ{H'} R b c=>
   ⟨R b c,(I.ok.yj b c).1,I.ok.u0 b c,.inl c,(I.ok.yj b c).2,λp aP=>absurd (show p∈([]:c0)from aP) (by simp)⟩
  refine Tj (λk f=>∃i ys H',Inv (cI X scope N s3.heap.objs.size a s3 (upd H s.heap.objs.size (.l []))) [] (fY n cap U) H' f/\eT i f.heap/\(∀b∈a,H' b=none)/\W i k ys H') ?_ m0
   ⟨0,[],_,I,by rw[T_];exact tW,λb c=>(M b c).1,w8⟩
  rintro k s5 ⟨i,ys,F,rR,tX,yq,af2⟩;rcases turn i k ys F af2 with⟨stop,q⟩|⟨go,step⟩
  .refine b0 (T.done (cI X scope N s3.heap.objs.size a s3 (upd H s.heap.objs.size (.l []))) rfl rfl rfl hc i [] s5 _ F _ rR (rC yq) tX stop) λr h9 ⟨V,uu⟩=>?_
   subst V;obtain⟨m,R,_⟩:=uu.loc;exact Vi _ _ F h9 m (Yt B M uu) (B.qT Vc uu.free) R q
  .refine b0 (T.item (cI X scope N s3.heap.objs.size a s3 (upd H s.heap.objs.size (.l []))) rfl rfl rfl hc i [] s5 _ F (λ_ _=>False) rR (rC yq) tX go) λr h9 ⟨u,V,fZ⟩=>?_
   subst V;refine b0 fZ λ_ tT ⟨x,jR,ko,Fs,AW,P,Uv⟩=>?_
   have QP:=ko.pinned (rC Uv) (T.obj _ _ P);refine b0 (aQ _ _ _ _ _ tT _ jR x u _ QP Fs (step x jR AW)) λ_ aes ⟨t,QI,QQ,yl,Y⟩=>?_
   refine b0 (bF _ _ _ _ _ aes t QI _ QQ Y) λb iA ⟨GD,GG,OZ⟩=>?_
   have back:∀{H':aw}{f:akj},Inv (cI X scope N s3.heap.objs.size a s3 (upd H s.heap.objs.size (.l []))) ([]++rA a tT.heap) t H' f->
     Inv (cI X scope N s3.heap.objs.size a s3 (upd H s.heap.objs.size (.l []))) [] (fY n cap U) H' f/\eT (i+1) f.heap/\∀b∈a,H' b=none:=λ{H' f} gq=>by
    refine⟨gq.w7.weak yl.1 yl.2,T.keep _ _ _ P λb c o e=>(gq.pin (b,o) (ak4 _ (ak4 _ (zH c e)))).1,λb c=>?_⟩;obtain⟨o,e,d⟩:=T.obj _ _ P b c;exact(gq.pin (b,o) (ak4 _ (ak4 _ (zH c e)))).2.1
   cases b with
   |false=>
    obtain⟨gm,hm,ey⟩:=OZ;obtain⟨cq,cx,g5⟩:=back GG;exact⟨gm,hm,i+1,ys,GD,cq,cx,g5,ey⟩
   |true=>
    refine b0 (hX _ _ _ _ _ iA t GD _ GG OZ) λv mq ⟨y,GC,QM,Z,Ve,hz,gm,hm,ey⟩=>?_
    refine b0 (tq _ mq t GC (.ref s.heap.objs.size) [y] (.ref s.heap.objs.size) [v] (λz H'=>z=.aJ/\H'=upd GC s.heap.objs.size (.l (ys++[y]))) QM rfl (.cons Z .nil) ⟨_,ys,y,rfl,rfl,Ve,hz,rfl,rfl⟩) λz lx ⟨ag1,ahC,QN,_,_,sb⟩=>?_
    subst sb;obtain⟨cq,cx,g5⟩:=back QN;exact⟨gm,hm,i+1,ys++[y],_,cq,cx,g5,ey⟩
 have GF:Inv (cI X scope N s3.heap.objs.size a s3 (upd H s.heap.objs.size (.l []))) [] (fY n cap U) (upd H s.heap.objs.size (.l [])) { heap:=G,gens:=s3.gens,drawn:=s3.drawn,toks:=s3.toks+([]:List (Str×Value)).length,os:=s3.os }:=jS;exact codeAny_compStart_list (h _ rfl GF) (T.self _ 0 _ _ _ tW (h _ rfl GF))
theorem Fb(S:kW esc scope EN N n cap){wi:TI}(hi:jT X cg iter wi)(l:∀C a s H,nN (cI X scope N C a s H) cg g)(w:∀C a s H,rX (cI X scope N C a s H) ifs tt)(E:∀C a s H,b2 (cI X scope N C a s H) elt te)
  (he:X.env.scope=esc:=by rfl) (hN:X.N=EN:=by rfl) (F:X.calm=true:=by rfl) (ax:∀x,alf iter X.env x=pure x:=by intro _;rfl):b2 X (.ListComp elt [⟨cg,iter,ifs,0⟩] scope pos) (t2 n cap wi g tt te):=by
 intro zn s U H Q J h;rw[eval_ListComp];have d:amE scope X.env=pure (m2 scope X.env):=I9 λy j u=>J.ok.has y.1 (by
  show X.env.scope.names.lookup y.1=_\/X.env.scope.names.lookup y.1=_;rw[he];exact S.free y j u)
 refine wpAny_comprehension_free (use:=none) rfl ax d S.kind S.loc (b0 (hi zn s U H _ J h) λv L r=>b0 r λM s2 t=>?_);obtain⟨it,a,eT,K,I,e,z,T,bL,A,i⟩:=t;subst e;refine Je S he hN F l w E z T bL A i λD C H' f m B c k q=>?_
 exact⟨m,k,λh' G=>⟨.ref D,H',B.turned (t':=f.toks) (λb o p e=>G.extBut b o p e) c.1 c.2.1 c.2.2.2.1 c.2.2.2.2.1 c.2.2.2.2.2,rfl,q⟩⟩
theorem adF{i:Nat}{y:Str}{py p:Pos}(S:kW esc scope EN N n cap){wi:TI}(qY:X.N.Nodup)(Z:X.N[i]? = some y)(f:X.env.scope.names.lookup y=some .local)(hi:jT X cg iter wi)(F:∀C d s H,nN (cI X scope N C d s H) cg g)(O:∀C d s H,rX (cI X scope N C d s H) ifs tt)(W:∀C d s H,b2 (cI X scope N C d s H) elt te)
  (he:X.env.scope=esc:=by rfl) (hN:X.N=EN:=by rfl) (Y:X.calm=true:=by rfl) (ax:∀x,alf iter X.env x=pure x:=by intro _;rfl)
  (l3:alW (.ListComp elt [⟨cg,iter,ifs,0⟩] scope pos) (some (.Name y py)) p.line X.env=pure true:=by rfl) :
  ih X (.Assign [.Name y py] (.ListComp elt [⟨cg,iter,ifs,0⟩] scope pos) p) (tZ (t2 n cap wi g tt te) (kz i)):=by
 intro zn s U H D J h;have r:amE scope X.env=pure (m2 scope X.env):=I9 λy f M=>J.ok.has y.1 (by
  show X.env.scope.names.lookup y.1=_\/X.env.scope.names.lookup y.1=_;rw[he];exact S.free y f M)
 rw[exec_Assign_Name_used _ _ _ _ l3];refine akc (ank (akc ?_));show wpAny _ X.A (do let _ <-comprehension (.ListComp elt [⟨cg,iter,ifs,0⟩] scope pos) scope X.env _ (newList []) false (eval iter X.env) (some (al8 (.Name y py) X.env))) _ _ s;refine akc (ak9 (wpAny_comprehension_free (use:=some (al8 (.Name y py) X.env)) (Q:=λ_ j=>r2 X zn D .next j) rfl ax r S.kind S.loc
  (b0 (hi zn s U H _ J h) λv s1 I=>b0 I λy1 s2 K=>?_)) (λ_ j k=>akm (akm k)) λ_ _ e=>e)
 obtain⟨it,d,eT,cu,aK,e,P,T,bL,R,k⟩:=K;subst e;refine Je S he hN Y F O W P T bL R k λl C H' j m V c E q=>?_
 show wpAny _ X.A (al8 (.Name y py) X.env (.ref l)) _ _ _;refine wpAny_assign_Name (PF (v:=.ref l) V qY Z (.inl f) rfl (λwO t ch=>?_) (.inr f));obtain⟨a,B,L⟩:=ch;have u:C≠a:=by
  rcases L with z|z
  .rw[z];exact c.2.1
  .exact λw=>c.2.2.2.2.1 y a z w.symm
 refine⟨m,E.sameBut B u,λh' vn=>?_⟩;exact⟨_,H',t.turned (t':=wO.toks) (λb o G e=>vn.extBut b o G e) c.1 c.2.1 c.2.2.2.1 c.2.2.2.2.1 c.2.2.2.2.2,q⟩
end
def d1(p:V->V->aw->cU->Prop):en:=λvs H Q _=>∃a b,vs=[a,b]/\p a b H Q
structure eU(P:akC)(w:World)(K:aO)(mg:bp)(base:Heap)(x:Str)(ps:List Str)(k:Nat)(sp:en):Prop where
 ex:∃f fd,e2 P w K mg base eA k f fd ps sp/\Binds K fd ps []/\amc K (.ref f)=true/\mg x=some (.ref f)
structure gP(K:aO)(mg:bp)(x:Str)(st:Stmt)(ps:List Str):Prop where
 ex:∃f fd,kY K x x st f fd/\Binds K fd ps []/\mg x=some (.ref f)
section
variable{P:akC}{w:World}{K:aO}{mg:bp}{base:Heap}{x:Str}{ps:List Str}{k:Nat}{sp:en}
def eU.mono(h:eU P w K mg base x ps k sp)(c:k<=j):eU P w K mg base x ps j sp:=by
 obtain⟨f,d,a,b⟩:=h.ex;exact⟨f,d,a.mono c,b⟩
end
section
variable{X:aT}{x:Str}{ps:List Str}{k:Nat}{sp:en}{p pos:Pos}{e:Expr}{az:List Expr}{t:fR}
def Al(sp:en)(t:fR):TE:=λU H Q=>t U H λvs a=>sp vs a Q i3
def OC(h:eU X.prog X.w X.K X.mg X.base x ps k sp)(d:cA k X.A)(g:eb X x)(i:gS X (e::az) t)(j:(x==("__debug__":Str))=false:=by decide)
  (he:ake (e::az) X.env=(false,eval e X.env)::ake az X.env:=by rfl) (l:(akJ pos (ake az X.env)).any (·.1)=false:=by rfl):b2 X (.Call (.Name x p) (e::az) [] pos) (Al sp t):=by
 obtain⟨f,q,F,b,kp,m⟩:=h.ex;intro zn s U H Q J c;refine acX (dvs:=[]) (ds:=[]) F d g m kp b .nil rx i j he l zn s U H Q J ?_;have n:t U H λvs a=>sp vs a Q i3:=c
 show t U H λvs a=>sp (vs++[]) a Q i3
 simpa only[alx]using n
def ac5(h:eU X.prog X.w X.K X.mg X.base x ps k sp)(c:cA k X.A)(d:eb X x)(g:(x==("__debug__":Str))=false:=by decide):b2 X (.Call (.Name x p) [] [] pos) (Al sp w1):=by
 obtain⟨f,i,F,b,kp,m⟩:=h.ex;intro zn s U H Q J a;exact acY (dvs:=[]) (ds:=[]) F c d m kp b .nil rx g zn s U H Q J a
end
structure xA(K:aO):Prop where
 dt:∀t∈["NoneType","bool","int","str","list","tuple"],∀c∈["int","bool","tuple","list","str"],W.kitOne K (.type t) (.type c)=some (t==c||(t == "bool"&&c == "int"))
inductive mR(K:aO)(H:aw):V->String->Prop where
 |aJ:mR K H .aJ "NoneType"
 |ay (x:Bool):mR K H (.ay x) "bool"
 |int (i:Int):mR K H (.int i) "int"
 |str (x:Str):mR K H (.str x) "str"
 |l {a:Addr}{xs:List V}(e:dr K H a xs):mR K H (.ref a) "list"
 |t {a:Addr}{xs:List V}(e:dy K H a xs):mR K H (.ref a) "tuple"
abbrev afU:List String:=["NoneType","bool","int","str","list","tuple"]
def mR.mem{K:aO}{H:aw}{x:V}{t:String}(h:mR K H x t):t∈afU:=by
 cases h<;>decide
section
variable{X:aT}
def vv(t n:String):Bool:=t==n||(t == "bool"&&n == "int")
def O8(K:aO):List V->aw->cU->Prop:=λxs H Q=>∃x n t,xs=[x,.ty n]/\mR K H x t/\n∈["int","bool","tuple","list","str"]/\Q (.ay (vv t n)) H
def S5(kt:xA X.K):jQ X (.builtin "isinstance") (O8 X.K):=by
 intro zn s U H xs us Q J k h;obtain⟨x,n,t,rfl,ty,g,q⟩:=h;obtain⟨u,m,rfl,b,j⟩:=vals2 k;cases(show m=aoS n from j);have e:=kt.dt t ty.mem n g;have fin:∀tk,hp X zn U Q (.bool (vv t n)) { s with toks:=tk }:=λtk=>⟨.ay _,H,J.tok tk,rfl,q⟩
 cases ty with
 |aJ=>cases(show u=amC from b);exact an5 W.kitx_none J.f3 anD e (λz=>nomatch z) fin
 |ay y=>cases(show u=aom y from b);exact an5 W.kitx_bool J.f3 anD e (λz=>nomatch z) fin
 |int i=>obtain⟨t,q⟩:=(show ∃t,u=ao0 i t from b);cases q;exact an5 W.kitx_int J.f3 anD e (λz=>nomatch z) fin
 |str y=>obtain⟨t,q⟩:=(show ∃t,u=ao1 y t from b);cases q;exact an5 W.kitx_str J.f3 anD e (λz=>nomatch z) fin
 |@l a xs f=>
  cases(show u=ald a from b);obtain⟨its,_,⟨o,p,c,d,_⟩,_⟩:=J.list f;exact an5 W.kitx_list J.f3 ⟨o,c,d⟩ e (λz=>nomatch z) fin
 |@t a xs f=>
  cases(show u=ald a from b);obtain⟨its,_,⟨o,c,d,_⟩,_⟩:=J.tuple f;exact an5 W.kitx_tuple J.f3 ⟨o,c,d⟩ e (λz=>nomatch z) fin
def Z8:uw X "int.bit_length" (λx xs H Q=>∃i,x=.int i/\xs=[]/\Q (.int (alq i:Nat)) H):=by
 intro zn s U H x xs v us Q J a b h;obtain⟨i,rfl,rfl,q⟩:=h;obtain⟨t,rfl⟩:=a;cases b;exact call_int_bit_length ⟨.int _,H,J.tok _,⟨_,rfl⟩,q⟩
end
mutual
def Rep(K:aO)(H:aw):PyData->V->Prop
 |.none,v=>v=.aJ|.bool b,v=>v=.ay b|.int i,v=>v=.int i|.str x,v=>v=.str x|.list ds,v=>∃a xs,v=.ref a/\dr K H a xs/\bl K H ds xs|.tuple ds,v=>∃a xs,v=.ref a/\dy K H a xs/\bl K H ds xs|.dict _,_=>False
def bl(K:aO)(H:aw):List PyData->List V->Prop
 |[],xs=>xs=[]|d::ds,xs=>∃x r,xs=x::r/\Rep K H d x/\bl K H ds r
end
def eC.wR[a5]{K:aO}{H H':aw}{a:Addr}{xs:List V}(e:eC H H')(h:dy K H a xs):dy K H' a xs:=by
 rcases h with(h|⟨o,h⟩)|h
 .exact .inl (.inl (e.at' _ _ h))
 .exact .inl (.inr ⟨o,e.at' _ _ h⟩)
 .exact .inr h
section
variable{X:aT}{zn:c0}{U:St}{H:aw}{s:akj}
mutual
theorem Rep.reads(J:Inv X zn U H s):∀{d:PyData}{v:V}{u:Value},Rep X.K H d v->RelV v u->∃as,Reads s.heap u d as
 |.none,_,_,h,r=>by cases h;cases r;exact⟨_,.none⟩
 |.bool _,_,_,h,r=>by cases h;cases r;exact⟨_,.bool _⟩
 |.int _,_,_,h,r=>by cases h;obtain⟨t,rfl⟩:=r;exact⟨_,.int _ _⟩
 |.str _,_,_,h,r=>by cases h;obtain⟨t,rfl⟩:=r;exact⟨_,.str _ _⟩
 |.list _,_,_,h,r=>by
  obtain⟨a,xs,rfl,l,q⟩:=h;cases r;obtain⟨its,b,⟨o,n,e,c,_,d⟩,_⟩:=J.list l;obtain⟨as,z⟩:=bl.reads J q b;exact⟨_,.list e c d (by simpa using z)⟩
 |.tuple _,_,_,h,r=>by
  obtain⟨a,xs,rfl,l,q⟩:=h;cases r;obtain⟨its,b,⟨o,e,c,n,d⟩,_⟩:=J.tuple l;obtain⟨as,z⟩:=bl.reads J q b;exact⟨_,.tuple e c d (by simpa using z)⟩
 |.dict _,_,_,h,_=>h.elim
theorem bl.reads(J:Inv X zn U H s):∀{ds:List PyData}{xs:List V}{us:List Value},bl X.K H ds xs->Vals xs us->∃as,ReadsAll s.heap us ds as
 |[],_,_,h,r=>by cases h;cases r;exact⟨_,.nil⟩
 |_::_,_,_,h,r=>by
  obtain⟨x,t,rfl,a,b⟩:=h
  cases r with
  |cons d c=>
   obtain⟨as,f⟩:=Rep.reads J a d;obtain⟨bs,e⟩:=bl.reads J b c;exact⟨_,.cons f e⟩
end
end
section
variable{X:aT}
def z7(K:aO)(neg:Bool):fB:=λx y H Q=>∃d e,Rep K H d x/\Rep K H e y/\ao6 d=true/\ao6 e=true/\Q (.ay (if neg then !aoT d e else aoT d e)) H
def E5(i:X.A.units+64<cLine):d0 X (akX .Eq) (z7 X.K false):=by
 intro zn s U H x y v u Q J c f h;obtain⟨d,e,a,b,mr,j,q⟩:=h;obtain⟨as,g⟩:=a.reads J c;obtain⟨bs,k⟩:=b.reads J f;exact eq_dataH g k mr j i ⟨.ay _,H,J,rfl,q⟩
def tG(i:X.A.units+64<cLine):d0 X (akX .NotEq) (z7 X.K true):=by
 intro zn s U H x y v u Q J c f h;obtain⟨d,e,a,b,mr,j,q⟩:=h;obtain⟨as,g⟩:=a.reads J c;obtain⟨bs,k⟩:=b.reads J f;exact ne_dataH g k mr j i ⟨.ay _,H,J,rfl,q⟩
end
def IX:ak1 "len"=some (.builtin "len"):=by decide +kernel
def SP:ak1 "isinstance"=some (.builtin "isinstance"):=by decide +kernel
def SQ:ak1 "max"=some (.builtin "max"):=by decide +kernel
def SM:ak1 "any"=some (.builtin "any"):=by decide +kernel
def SK:ak1 "all"=some (.builtin "all"):=by decide +kernel
def SO:ak1 "int"=some (.type "int"):=by decide +kernel
def SN:ak1 "bool"=some (.type "bool"):=by decide +kernel
def B9:ak1 "list"=some (.type "list"):=by decide +kernel
def uL:ak1 "tuple"=some (.type "tuple"):=by decide +kernel
def SV:ak1 "str"=some (.type "str"):=by decide +kernel
variable[a5]
def xv(a:ie)(b:aw)(xs:List V):Prop:=∀H,eC b H->∀i,(i<xs.length->a.go i H/\∀x H',a.o' i H x H'->H'=H/\xs[i]? = some x)/\(xs.length<=i->a.stop i H)
def MU{K:aO}{H:aw}{a:Addr}{xs:List V}(h:dr K H a xs):xv (ph K a) H xs:=λH' s i=>
 ⟨λhi=>⟨⟨xs,xs[i],s.seq h,by simp[hi]⟩,λx b y=>⟨y.1,y.2 xs (s.seq h)⟩⟩,λhi=>⟨xs,s.seq h,hi⟩⟩
def MW{K:aO}{H:aw}{a:Addr}{xs:List V}(h:dy K H a xs):xv (rT K a) H xs:=λH' s i=>
 ⟨λhi=>⟨⟨xs,xs[i],s.wR h,by simp[hi]⟩,λx b y=>⟨y.1,y.2 xs (s.wR h)⟩⟩,λhi=>⟨xs,s.wR h,hi⟩⟩
def mn(lo:Int)(n:Nat):List V:=(akG n).map λi=>V.int (lo+(i:Nat))
def DY(lo:Int)(n:Nat):xv (mL lo n) H (mn lo n):=λH' s i=>by
 have hl:(mn lo n).length=n:=by unfold mn;rw[akh,alu]
 refine⟨λhi=>⟨by rw[hl]at hi;exact hi,λx a y=>⟨y.1,?_⟩⟩,λhi=>by rw[hl]at hi;exact hi⟩;rw[hl]at hi;rw[y.2];unfold mn;rw[akA,alR hi];rfl
end aB
namespace aB
open PySem PySem.Spec PyProof.Rows
def gP.none{P:akC}{w:World}{K:aO}{mg:bp}{base:Heap}{x:Str}{st:Stmt}{ps:List Str}{k:Nat}{sp:en}(D:gP K mg x st ps)(no:∀vs H Q E,¬sp vs H Q E):eU P w K mg base x ps k sp:=by
 obtain⟨f,a,F,b,m⟩:=D.ex;exact⟨f,a,⟨λvs H Q E h=>absurd h (no vs H Q E),λA outer s H args us vs Q E _ _ _ _ h=>absurd h (no vs H Q E)⟩,b,F.kp,m⟩
def Y4(K:aO):xA K:=⟨by
 intro t a c b;simp only[akt,List.mem_nil_iff,or_false]at a b;rcases a with rfl|rfl|rfl|rfl|rfl|rfl<;>rcases b with rfl|rfl|rfl|rfl|rfl<;>kernel_rfl⟩
def range_any(bs:List Bool):(akG bs.length).any (λi=>bs.getD i false)=bs.any id:=by
 rw[alQ,anp,anp];constructor
 .rintro⟨i,hi,h⟩
  have a:=akZ.mp hi;refine⟨bs[i],amd a,?_⟩;rw[ak7,akx a]at h;exact h
 .rintro⟨b,c,h⟩
  obtain⟨i,hi,rfl⟩:=List.getElem_of_mem c;refine⟨i,akZ.mpr hi,?_⟩;rw[ak7,akx hi];exact h
def range_all(bs:List Bool):(akG bs.length).all (λi=>bs.getD i false)=bs.all id:=by
 rw[alQ,akV,akV];constructor
 .intro h b c
  obtain⟨i,hi,rfl⟩:=List.getElem_of_mem c;have:=h i (akZ.mpr hi);rw[ak7,akx hi]at this;exact this
 .intro h i hi
  have a:=akZ.mp hi;rw[ak7,akx a];exact h _ (amd a)
section
variable{X:aT}{K:aO}
def PR{bs:List Bool}{its:List Value}(a:Vals (bs.map V.ay) its):TruthOf prog w A (λi v=>its.toArray[i]? = some v) (λi=>bs.getD i false):=by
 intro i v s Q E g e;have d:its[i]? = some v:=by simpa using g
 have hi:i<bs.length:=by
  have j:=(akd.mp d).1;have f:=a.length;rw[akh]at f;omega
 obtain⟨u,b,h⟩:=a.get (i:=i) (x:=.ay bs[i]) (by rw[akA,akx hi];rfl);rw[d]at b;cases b;cases h;have c:Q (bs.getD i false) s:=e;rw[ak7,akx hi]at c;exact als c
def S4(r:X.calm=true):jQ X (.builtin "any") (λxs H Q=>∃(l:Addr)(bs:List Bool),xs=[.ref l]/\dr X.K H l (bs.map V.ay)/\Q (.ay (bs.any id)) H):=by
 intro zn s U H xs us Q J f h;obtain⟨l,bs,rfl,m,q⟩:=h;obtain⟨u,rfl,g⟩:=vals1 f;cases g;obtain⟨its,c,p,hz⟩:=J.list m;have j:l<s.heap.objs.size:=by obtain⟨o,n,e,_⟩:=p;exact akr e
 refine call_any_walk (amm p.isList ?_);refine⟨s.heap.objs.size,_,_,_,_,_,λi=>bs.getD i false,rfl,aoU (A:=X.A.in1) (show X.A.in1.handled=none from J.ok.hd r) s.heap.objs.size l (akR j) its.toArray,⟨⟨_,akp _ rfl,rfl,rfl⟩,p.isList.at λo e=>akf _ e⟩,PR c,λh' tk k=>?_⟩;have d:its.toArray.size=bs.length:=by
  have a:=c.length;rw[akh]at a;simp[a]
 rw[d,range_any];exact⟨.ay _,H,J.kept (h':=h') (t':=tk) λb o e=>k b o (by intro z;rw[akF.mp z]at e;exact absurd (akr e) (ak6 _)) (akf _ e),rfl,q⟩
def S3(r:X.calm=true):jQ X (.builtin "all") (λxs H Q=>∃(l:Addr)(bs:List Bool),xs=[.ref l]/\dr X.K H l (bs.map V.ay)/\Q (.ay (bs.all id)) H):=by
 intro zn s U H xs us Q J f h;obtain⟨l,bs,rfl,m,q⟩:=h;obtain⟨u,rfl,g⟩:=vals1 f;cases g;obtain⟨its,c,p,hz⟩:=J.list m;have j:l<s.heap.objs.size:=by obtain⟨o,n,e,_⟩:=p;exact akr e
 refine call_all_walk (amm p.isList ?_);refine⟨s.heap.objs.size,_,_,_,_,_,λi=>bs.getD i false,rfl,aoU (A:=X.A.in1) (show X.A.in1.handled=none from J.ok.hd r) s.heap.objs.size l (akR j) its.toArray,⟨⟨_,akp _ rfl,rfl,rfl⟩,p.isList.at λo e=>akf _ e⟩,PR c,λh' tk k=>?_⟩;have d:its.toArray.size=bs.length:=by
  have a:=c.length;rw[akh]at a;simp[a]
 rw[d,range_all];exact⟨.ay _,H,J.kept (h':=h') (t':=tk) λb o e=>k b o (by intro z;rw[akF.mp z]at e;exact absurd (akr e) (ak6 _)) (akf _ e),rfl,q⟩
end
section
variable{X:aT}
def p8{v:V}(a:eb X x)(h:∃u,X.mg x=some u/\RelV v u)(hd:(x==("__debug__":Str))=false:=by decide):b2 X (.Name x pos) (oS v):=by
 obtain⟨u,b,r⟩:=h;exact ac6 a b r hd
variable[a5]
end
end aB
set_option maxHeartbeats 1000000
namespace aF
open PySem PySem.Spec aB
variable[aB.a5]
inductive D where
 |aJ|ay (b:Bool)|int (i:Int)|str (x:Str)|t (xs:List D)|l (xs:List D)|ref (n:Nat)|fn (f:Str)|ty (n:String)
inductive Slot where
 |e|v (d:D)|dB (p:Bool) (xs:List D)|bN (xs:List D)
abbrev aM:=List Slot
inductive gd where
 |l (xs:List D)|K2 (dm:List (Key×D))|qI (dm:List (List Key×D))|bc (c:Str) (aU:List (Str×D))
abbrev bJ:=List gd
inductive Out(α:Type) where
 |ok (a:α) (S:bJ)|exc (c:Str) (S:bJ)|bad
structure M(α:Type):Type where
 run:bJ->Out α
 e_:∀S a ao,run S=.ok a ao->ao=S
def M.hv{α g:Type}(m:M α)(f:α->M g):M g:=⟨λS=>match m.run S with
 |.ok a d=>(f a).run d|.exc c d=>.exc c d|.bad=>.bad,λS b d h=>by
  cases e:m.run S with
  |ok a S1=>rw[e]at h;exact((f a).e_ _ _ _ h).trans (m.e_ _ _ _ e)|exc c S1=>rw[e]at h;cases h
  |bad=>rw[e]at h;cases h⟩
noncomputable instance:Monad M where
 pure a:=⟨λS=>.ok a S,λ_ _ _ h=>by cases h;rfl⟩
 bind:=M.hv
omit [aB.a5]in
theorem M.ext{α:Type}{x y:M α}(h:∀S,x.run S=y.run S):x=y:=by
 cases x with|mk f p=>cases y with|mk g q=>obtain rfl:f=g:=funext h;rfl
omit [aB.a5]in
theorem M.Su{α a:Type}(m:M α)(f:α->M a):(m >>= f)=M.hv m f:=rfl
instance:LawfulMonad M:=LawfulMonad.mk'
 (id_map:=λx=>M.ext λS=>by show(M.hv x (λa=>pure (id a))).run S=x.run S;unfold M.hv;dsimp only;cases x.run S<;>rfl)
 (pure_bind:=λx f=>rfl)
 (bind_assoc:=λx f g=>M.ext λS=>by show(M.hv (M.hv x f) g).run S=(M.hv x (λa=>M.hv (f a) g)).run S;unfold M.hv;dsimp only;cases x.run S<;>rfl)
 (bind_pure_comp:=λf x=>rfl)
def bad{α:Type}:M α:=⟨λ_=>.bad,λ_ _ _ h=>by cases h⟩
omit [aB.a5]in
theorem M.inv{α g:Type}{m:M α}{f:α->M g}{S d:bJ}{b:g}(h:(m >>= f).run S=.ok b d):∃a S1,m.run S=.ok a S1/\(f a).run S1=.ok b d:=by
 rw[M.Su]at h;unfold M.hv at h;dsimp only at h
 cases e:m.run S with
 |ok a S1=>rw[e]at h;exact⟨a,S1,rfl,h⟩|exc c S1=>rw[e]at h;cases h
 |bad=>rw[e]at h;cases h
def hx(p:Prop)[Decidable p]:M Unit:=if p then pure ()else bad
omit [aB.a5]in
theorem I6{p:Prop}[Decidable p](h:p):hx p=pure ():=if_pos h
omit [aB.a5]in
theorem qD{p:Prop}[Decidable p]{S b:bJ}(h:(hx p).run S=.ok u b):p/\S=b:=by
 unfold hx at h
 by_cases a:p
 .rw[if_pos a]at h;cases h;exact⟨a,rfl⟩
 .rw[if_neg a]at h;cases h
inductive R where
 |v (d:D)|fr (xs:List D)|bN (xs:List D)|mv (xs:List D)
abbrev bx:=aM->M R
inductive Own where
 |free|out|dq|loc (i:Nat)
 deriving DecidableEq
structure a8 where
 own:Addr->Own
 bI:List Addr
instance:CoeFun a8 (λ_=>Addr->Own):=⟨a8.own⟩
def A'(K:aO)(a:Addr)(xs:List V):Prop:=
 ∃(o:Obj)(its:Array Value)(n:Nat),K.lookup a=some o/\o.cls=.type "list"/\o.dict=none/\o.data=.seq its n/\its.size<=aki/\Vals xs its.toList
def rV(_:aO)(O:a8)(H:aw)(a:Addr)(ys:List V):Prop:=H a=some (.l ys)/\O a=.free
mutual
def Rep(K:aO)(mg:bp)(O:a8)(H:aw):D->V->Prop
 |.aJ,v=>v=.aJ|.ay b,v=>v=.ay b|.int i,v=>v=.int i|.str x,v=>v=.str x|.t xs,v=>∃a ys,v=.ref a/\dy K H a ys/\bl K mg O H xs ys|.l xs,v=>∃a ys,v=.ref a/\rV K O H a ys/\bl K mg O H xs ys|.ref n,v=>∃a,v=.ref a/\O.bI[n]? = some a|.fn f,v=>∃a,v=.ref a/\mg f=some (.ref a)|.ty n,v=>v=.ty n
def bl(K:aO)(mg:bp)(O:a8)(H:aw):List D->List V->Prop
 |[],ys=>ys=[]|x::xs,ys=>∃y r,ys=y::r/\Rep K mg O H x y/\bl K mg O H xs r
end
structure Go(O ak:a8)(H H':aw):Prop where
 same:eC H H'
 own:∀b,H b≠none->ak b=O b
 bI:ak.bI=O.bI
def Go.refl(O:a8)(H:aw):Go O O H H:=⟨eC.refl _,λ_ _=>rfl,rfl⟩
def Go.trans{O d e:a8}(a:Go O d H H1)(b:Go d e H1 o):Go O e H o:=
 ⟨a.same.trans b.same,λc h=>(b.own c (a.same.some h)).trans (a.own c h),b.bI.trans a.bI⟩
def hr.same(s:eC H H')(h:hr H a u)(n:oC u:=by exact trivial):hr H' a u:=by
 rcases h with h|⟨o,h⟩
 .exact .inl (s.at' _ _ h n)
 .exact .inr ⟨o,s.at' _ _ h⟩
omit [aB.a5]in
theorem hr.some{H:aw}(h:hr H a u):H a≠none:=by
 rcases h with h|⟨o,h⟩<;>rw[h]<;>intro z<;>cases z
def rV.cP{O:a8}(h:rV K O H a ys):dr K H a ys:=dr.of h.1
def hP(K:aO)(O:a8)(H:aw)(a:Addr)(ys:List V):Prop:=(hr H a (.l ys)/\(O a=.free\/O a=.out))\/A' K a ys
def hP.cP{O:a8}(h:hP K O H a ys):dr K H a ys:=h.elim (λz=>.inl z.1) .inr
def hP.go{O b:a8}(g:Go O b H H')(h:hP K O H a ys):hP K b H' a ys:=by
 rcases h with⟨l,f⟩|l
 .exact .inl ⟨hr.same g.same l,by rw[g.own a (hr.some l)];exact f⟩
 .exact .inr l
def rV.go{O b:a8}(g:Go O b H H')(h:rV K O H a ys):rV K b H' a ys:=by
 exact⟨g.same.at' _ _ h.1,(g.own a (by rw[h.1];intro z;cases z)).trans h.2⟩
section
variable{K:aO}{mg:bp}{O ak:a8}{H H':aw}
mutual
theorem Rep.go(g:Go O ak H H'):∀{d:D}{v:V},Rep K mg O H d v->Rep K mg ak H' d v
 |.aJ,_,h=>h|.ay _,_,h=>h|.int _,_,h=>h|.str _,_,h=>h| .t _,_,h=>by obtain⟨a,ys,q,l,r⟩:=h;exact⟨a,ys,q,g.same.wR l,bl.go g r⟩
 |.l _,_,h=>by obtain⟨a,ys,q,l,r⟩:=h;exact⟨a,ys,q,l.go g,bl.go g r⟩
 |.ref _,_,h=>by obtain⟨a,q,l⟩:=h;exact⟨a,q,by rw[g.bI];exact l⟩
 |.fn _,_,h=>h|.ty _,_,h=>h
theorem bl.go(g:Go O ak H H'):∀{ds:List D}{ys:List V},bl K mg O H ds ys->bl K mg ak H' ds ys
 |[],_,h=>h| _::_,_,h=>by obtain⟨x,r,q,a,b⟩:=h;exact⟨x,r,q,Rep.go g a,bl.go g b⟩
end
structure lF(O ak:a8):Prop where
 fr:∀a,O a=.free->ak a=.free
 bI:ak.bI=O.bI
mutual
theorem Rep.c6(g:lF O o):∀{d:D}{v:V},Rep K mg O H d v->Rep K mg o H d v
 |.aJ,_,h=>h|.ay _,_,h=>h|.int _,_,h=>h|.str _,_,h=>h| .t _,_,h=>by obtain⟨a,ys,q,l,r⟩:=h;exact⟨a,ys,q,l,bl.c6 g r⟩
 |.l _,_,h=>by obtain⟨a,ys,q,l,r⟩:=h;exact⟨a,ys,q,⟨l.1,g.fr _ l.2⟩,bl.c6 g r⟩
 |.ref _,_,h=>by obtain⟨a,q,l⟩:=h;exact⟨a,q,by rw[g.bI];exact l⟩
 |.fn _,_,h=>h|.ty _,_,h=>h
theorem bl.c6(g:lF O o):∀{ds:List D}{ys:List V},bl K mg O H ds ys->bl K mg o H ds ys
 |[],_,h=>h| _::_,_,h=>by obtain⟨x,r,q,a,b⟩:=h;exact⟨x,r,q,Rep.c6 g a,bl.c6 g b⟩
end
theorem bl.len:∀{ds:List D}{xs:List V},bl K mg O H ds xs->xs.length=ds.length
 |[],_,h=>by cases h;rfl
 |_::_,_,h=>by obtain⟨x,r,rfl,_,b⟩:=h;rw[akO,akO,bl.len b]
theorem bl.get:∀{ds:List D}{xs:List V}{i:Nat}{d:D},bl K mg O H ds xs->ds[i]? = some d->∃x,xs[i]? = some x/\Rep K mg O H d x
 |[],_,_,_,_,e=>by simp at e| _::_,_,0,d,h,e=>by obtain⟨x,r,rfl,a,_⟩:=h;cases(show some _=some d from e);exact⟨x,rfl,a⟩
 |_::ds,_,i+1,d,h,e=>by
  obtain⟨x,r,rfl,_,b⟩:=h;obtain⟨y,av,aE⟩:=bl.get (i:=i) b (by simpa using e);exact⟨y,by simpa using av,aE⟩
theorem bl.LS:∀{ds:List D}{xs:List V}{i:Nat}{x:V},bl K mg O H ds xs->xs[i]? = some x->∃d,ds[i]? = some d/\Rep K mg O H d x
 |[],_,_,_,h,e=>by cases h;simp at e
 |_::_,_,0,x,h,e=>by obtain⟨y,r,rfl,a,_⟩:=h;cases(show some _=some x from e);exact⟨_,rfl,a⟩
 |_::ds,_,i+1,d,h,e=>by
  obtain⟨x,r,rfl,_,b⟩:=h;obtain⟨y,av,aE⟩:=bl.LS (i:=i) b (by simpa using e);exact⟨y,by simpa using av,aE⟩
theorem bl.append:∀{ds c:List D}{xs ys:List V},bl K mg O H ds xs->bl K mg O H c ys->bl K mg O H (ds++c) (xs++ys)
 |[],_,_,_,h,q=>by cases h;exact q
 |_::_,_,_,_,h,q=>by obtain⟨x,r,rfl,a,b⟩:=h;exact⟨x,_,rfl,a,bl.append b q⟩
def bl.one(h:Rep K mg O H d x):bl K mg O H [d] [x]:=⟨x,[],rfl,h,rfl⟩
theorem bl.take:∀{ds:List D}{xs:List V}(n:Nat),bl K mg O H ds xs->bl K mg O H (ds.take n) (xs.take n)
 |[],_,_,h=>by cases h;rw[aoX,aoX];rfl
 |_::_,_,0,_=>by rw[aoP,aoP];rfl| _::_,_,n+1,h=>by obtain⟨x,r,rfl,a,b⟩:=h;exact⟨x,_,rfl,a,bl.take n b⟩
theorem bl.drop:∀{ds:List D}{xs:List V}(n:Nat),bl K mg O H ds xs->bl K mg O H (ds.drop n) (xs.drop n)
 |[],_,_,h=>by cases h;rw[List.drop_nil,List.drop_nil];rfl
 |_::_,_,0,h=>h| _::_,_,n+1,h=>by obtain⟨x,r,rfl,a,b⟩:=h;exact bl.drop n b
theorem bl.set(hd:Rep K mg O H d x):∀{ds:List D}{xs:List V}(n:Nat),bl K mg O H ds xs->bl K mg O H (ds.set n d) (xs.set n x)
 |[],_,_,h=>by cases h;exact rfl
 |_::_,_,0,h=>by obtain⟨y,r,rfl,a,b⟩:=h;exact⟨x,r,rfl,hd,b⟩
 |_::_,_,n+1,h=>by obtain⟨y,r,rfl,a,b⟩:=h;exact⟨y,_,rfl,a,bl.set hd n b⟩
def Pd(ns:List Int):bl K mg O H (ns.map D.int) (ns.map V.int):=by
 induction ns with
 |nil=>rfl|cons n r a=>exact⟨.int n,_,rfl,rfl,a⟩
def fC{κ:Type}(K:aO)(mg:bp)(O:a8)(H:aw)(a:List (κ×D))(b:List (κ×V)):Prop:=a.map (·.1)=b.map (·.1)/\bl K mg O H (a.map (·.2)) (b.map (·.2))
def ew(K:aO)(mg:bp)(O:a8)(H:aw):R->V->Prop
 |.v d,v=>Rep K mg O H d v|.fr xs,v=>∃a ys,v=.ref a/\H a=some (.l ys)/\O a=.dq/\bl K mg O H xs ys|.bN xs,v=>∃a ys,v=.ref a/\hP K O H a ys/\bl K mg O H xs ys|.mv xs,v=>∃a ys,v=.ref a/\H a=some (.l ys)/\bl K mg O H xs ys
def ew.go(g:Go O C H H'):∀{r:R}{v:V},ew K mg O H r v->ew K mg C H' r v
 |.v _,_,h=>Rep.go g h| .fr _,_,h=>by obtain⟨a,ys,q,l,o,r⟩:=h;exact⟨a,ys,q,g.same.at' _ _ l,(g.own a (by rw[l];intro z;cases z)).trans o,r.go g⟩
 |.bN _,_,h=>by obtain⟨a,ys,q,l,r⟩:=h;exact⟨a,ys,q,l.go g,r.go g⟩
 |.mv _,_,h=>by obtain⟨a,ys,q,l,r⟩:=h;exact⟨a,ys,q,g.same.at' _ _ l,r.go g⟩
theorem bl.imp{c:a8}(f:∀d v,Rep K mg O H d v->Rep K mg c H' d v):∀{ds:List D}{ys:List V},bl K mg O H ds ys->bl K mg c H' ds ys
 |[],_,h=>h| _::_,_,h=>by obtain⟨x,r,q,a,b⟩:=h;exact⟨x,r,q,f _ _ a,bl.imp f b⟩
def QE(K:aO)(mg:bp)(c:Str)(C:Addr):Prop:=mg c=some (.ref C)/\i2 K C
def jn(K:aO)(mg:bp)(O:a8)(H:aw)(w:Own):Slot->Option V->Prop
 |.e,_=>True|.v d,u=>∃v,u=some v/\Rep K mg O H d v|.dB _ xs,u=>∃a ys,u=some (.ref a)/\O a=w/\H a=some (.l ys)/\bl K mg O H xs ys|.bN xs,u=>∃a ys,u=some (.ref a)/\hP K O H a ys/\bl K mg O H xs ys
def jn.go(g:Go O C H H'):∀{s:Slot}{u:Option V},jn K mg O H w s u->jn K mg C H' w s u
 |.e,_,_=>trivial| .v _,_,h=>by obtain⟨v,q,r⟩:=h;exact⟨v,q,r.go g⟩
 |.dB _ _,_,h=>by obtain⟨a,ys,q,o,l,r⟩:=h;exact⟨a,ys,q,(g.own a (by rw[l];intro z;cases z)).trans o,g.same.at' _ _ l,r.go g⟩
 |.bN _,_,h=>by
  obtain⟨a,ys,q,l,r⟩:=h;exact⟨a,ys,q,l.go g,r.go g⟩
end
def jm(O:a8):Prop:=O.bI.Nodup/\∀a∈O.bI,O a=.out
structure dg(O:a8)(H:aw):Prop where
 has:∀a,O a≠.free->H a≠none
 tabs:TabsOk H
 cf:jm O
def nM(K:aO)(mg:bp)(O:a8)(H:aw)(a:Addr):gd->Prop
 |.l xs=>∃ys,H a=some (.l ys)/\bl K mg O H xs ys|.K2 d=>∃b,H a=some (.r_ b)/\fC K mg O H d b|.qI d=>∃b,H a=some (.gh b)/\fC K mg O H d b|.bc c aU=>∃C f e,H a=some (.ins C f e)/\QE K mg c C/\fC K mg O H aU e
def fW(K:aO)(mg:bp)(O:a8)(H:aw)(S:bJ):Prop:=∀(n:Nat)(o:gd),S[n]? = some o->∃a,O.bI[n]? = some a/\nM K mg O H a o
def nM.all{O b:a8}{H H':aw}(f:∀d v,Rep K mg O H d v->Rep K mg b H' d v)(g:∀u,H a=some u->oC u->H' a=some u):∀{o:gd},nM K mg O H a o->nM K mg b H' a o
 |.l _,h=>by obtain⟨ys,l,r⟩:=h;exact⟨ys,g _ l trivial,r.imp f⟩
 |.K2 _,h=>by obtain⟨ys,l,e,r⟩:=h;exact⟨ys,g _ l trivial,e,r.imp f⟩
 |.qI _,h=>by obtain⟨ys,l,e,r⟩:=h;exact⟨ys,g _ l trivial,e,r.imp f⟩
 |.bc _ _,h=>by obtain⟨C,i,j,l,c,e,r⟩:=h;exact⟨C,i,j,g _ l trivial,c,e,r.imp f⟩
def fW.all{O b:a8}{H H':aw}{S:bJ}(s:fW K mg O H S)(f:∀d v,Rep K mg O H d v->Rep K mg b H' d v)(e:b.bI=O.bI)(g:∀a∈O.bI,∀u,H a=some u->oC u->H' a=some u):fW K mg b H' S:=λn o h=>by
 obtain⟨a,c,i⟩:=s n o h;exact⟨a,by rw[e];exact c,i.all f (g a (akM c))⟩
def fW.go{O b:a8}{S:bJ}(s:fW K mg O H S)(g:Go O b H H'):fW K mg b H' S:=
 s.all (λ_ _ z=>Rep.go g z) g.bI λa _ u l n=>g.same.at' _ _ l n
def fW.nil{O:a8}:fW K mg O H []:=λn o h=>by cases n<;>cases h
structure cK(K:aO)(mg:bp)(O:a8)(U:aM)(S:bJ)(aq:St)(H:aw):Prop where
 cv:dg O H
 len:U.length=aq.length
 loc:∀i s,U[i]? = some s->jn K mg O H (.loc i) s (aq[i]?.join)
 gn:fW K mg O H S
def cK.go{O a:a8}{S:bJ}(h:cK K mg O U S o H)(g:Go O a H H')(d:dg a H'):cK K mg a U S o H':=
 ⟨d,h.len,λi s e=>(h.loc i s e).go g,h.gn.go g⟩
def f_(O:a8)(a:Addr)(o:Own):a8:=⟨λb=>if b=a then o else O b,O.bI⟩
omit [aB.a5]in
theorem mx{O:a8}:f_ O a o a=o:=if_pos rfl
omit [aB.a5]in
theorem oZ{O:a8}(h:b≠a):f_ O a o b=O b:=if_neg h
section
variable{K:aO}{mg:bp}{O:a8}{U:aM}{S:bJ}{aq:St}{H:aw}{p:Addr}{u:gF}{o:Own}
def Go.new(a:H p=none):Go O (f_ O p o) H (upd H p u):=
 ⟨tU a u,λb c=>oZ (by rintro rfl;exact c a),rfl⟩
def Go.hg(a:H p=none):Go O O H (upd H p u):=⟨tU a u,λ_ _=>rfl,rfl⟩
def dg.new(d:dg O H)(b:H p=none):dg (f_ O p o) (upd H p u):=⟨λa c=>by
 by_cases e:a=p
 .subst e;rw[d6];intro z;cases z
 .rw[c2 e];rw[oZ e]at c;exact d.has a c,d.tabs.new b u,d.cf.1,λa h=>by rw[oZ (by rintro rfl;exact d.has _ (by rw[d.cf.2 _ h];intro z;cases z) b)];exact d.cf.2 a h⟩
def dg.same(d:dg O H)(s:eC H H'):dg O H':=⟨λa b=>s.some (d.has a b),s.b1 d.tabs,d.cf⟩
def cK.new(h:cK K mg O U S aq H)(a:H p=none):cK K mg (f_ O p o) U S aq (upd H p u):=h.go (Go.new a) (h.cv.new a)
def cK.hg(h:cK K mg O U S aq H)(a:H p=none):cK K mg O U S aq (upd H p u):=h.go (Go.hg a) (h.cv.same (tU a u))
end
def jl(H:aw):R->V->Prop
 |.fr _,v=>∀a,v=.ref a->H a=none|_,_=>True
def jl.back(s:eC H H1):∀{r:R}{v:V},jl H1 r v->jl H r v
 |.v _,_,_=>trivial|.bN _,_,_=>trivial|.mv _,_,_=>trivial|.fr _,_,h=>λa e=>s.free (h a e)
def kq(H:aw):List R->List V->Prop
 |r::rs,v::vs=>jl H r v/\kq H rs vs|_,_=>True
theorem kq.back(s:eC H H1):∀{rs:List R}{vs:List V},kq H1 rs vs->kq H rs vs
 |[],_,_=>trivial|_::_,[],_=>trivial|_::_,_::_,h=>⟨h.1.back s,kq.back s h.2⟩
def uy(K:aO)(mg:bp)(O:a8)(U:aM)(b:bJ)(c:St)(H:aw)(r:R)(Q:cU):Prop:=
 ∀a v H',Go O a H H'->cK K mg a U b c H'->ew K mg a H' r v->jl H r v->Q v H'
inductive pn{α:Type}(K:aO)(mg:bp)(m:aM->M α)(aq:St)(H:aw)(P:a8->aM->bJ->α->Prop):Prop
 |mk (O:a8) (U:aM) (S:bJ) (x:α) (ao:bJ) (st:cK K mg O U S aq H) (h:(m U).run S=.ok x ao) (q:P O U ao x):pn K mg m aq H P
def fN(K:aO)(mg:bp)(m:bx):TE:=λa H Q=>pn K mg m a H λO U b r=>uy K mg O U b a H r Q
def lz(K:aO)(mg:bp)(m:aM->M Bool):TT:=λc H Q=>pn K mg m c H λO U d b=>∀a H',Go O a H H'->cK K mg a U d c H'->Q b H'
abbrev gO(X:aT)(e:Expr)(m:bx):Prop:=b2 X e (fN X.K X.mg m)
abbrev Gz(X:aT)(e:Expr)(m:aM->M Bool):Prop:=ik X e (lz X.K X.mg m)
abbrev xn(X:aT)(e:Expr)(m:aM->M Bool):Prop:=lH X e (lz X.K X.mg m)
def i6(K:aO)(mg:bp)(O:a8)(H:aw):List R->List V->Prop
 |[],ys=>ys=[]|x::xs,ys=>∃y r,ys=y::r/\ew K mg O H x y/\i6 K mg O H xs r
abbrev cZ:=aM->M (List R)
def oU(K:aO)(mg:bp)(m:cZ):fR:=λb H Q=>pn K mg m b H λO U c rs=>∀a vs H',Go O a H H'->cK K mg a U c b H'->i6 K mg a H' rs vs->kq H rs vs->Q vs H'
abbrev Gv(X:aT)(a:List Expr)(m:cZ):Prop:=gS X a (oU X.K X.mg m)
def er{t t':TE}(h:b2 X e t)(i:∀U H Q,t' U H Q->t U H Q):b2 X e t':=λzn s U H Q J q=>h zn s U H Q J (i _ _ _ q)
def wD{t t':TT}(h:ik X e t)(i:∀U H Q,t' U H Q->t U H Q):ik X e t':=λzn s U H Q J q=>h zn s U H Q J (i _ _ _ q)
def OY{t t':TT}(h:lH X e t)(i:∀U H Q,t' U H Q->t U H Q):lH X e t':=λa zn s U H Q J q=>h a zn s U H Q J (i _ _ _ q)
def z1{t t':fR}(h:gS X o t)(i:∀U H Q,t' U H Q->t U H Q):gS X o t':=λpos zn s U H Q J q=>h pos zn s U H Q J (i _ _ _ q)
@[simp] def I(i:Nat)(U:aM):M R:=match U[i]? with
 |some (.v d)=>pure (.v d)|some (.dB _ xs)=>pure (.mv xs)|some (.bN xs)=>pure (.bN xs)|_=>bad
def af(d:D):bx:=λ_=>pure (.v d)
section
variable{X:aT}{a b c e:Expr}{cO cT fT m:bx}{b9:aM->M Bool}
def uS{v:V}(h:b2 X e (oS v))(r:∀O H,Rep X.K X.mg O H d v):gO X e (af d):=er h λi H Q f=>by
 obtain⟨O,U,S,j,g,st,h,q⟩:=f;cases h;exact q O v H (Go.refl _ _) st (r O H) trivial
@[simp] def ab(f:R->R->M R)(a b:bx)(U:aM):M R:=do
 let x <-a U
 let y <-b U
 f x y
def ej(K:aO)(mg:bp)(r:fB)(f:R->R->M R):Prop:=
 ∀O U S J H x y o b7 bz C (Q:cU),cK K mg O U S J H->ew K mg O H o x->ew K mg O H b7 y->(f o b7).run S=.ok bz C->uy K mg O U C J H bz Q->r x y H Q
def x2{r:fB}(I:ej K mg r f):∀d H Q,fN K mg (ab f cO cT) d H Q->w2 r (fN K mg cO) (fN K mg cT) d H Q:=by
 rintro d H Q ⟨O,U,S,E,z,st,h,q⟩;obtain⟨x,S1,t,h⟩:=M.inv h;obtain⟨y,j,u,h⟩:=M.inv h;refine⟨O,U,S,x,S1,st,t,λn G N k s l bw=>?_⟩;refine⟨n,U,S1,y,j,s,u,λB L p i bL A P=>?_⟩;exact I B U j d p G L x y E z Q bL (l.go i) A h λw v H' g F D nn=>q w v H' ((k.trans i).trans g) F D (nn.back (k.trans i).same)
def R.rG:R->M Bool
 |.v (.ay b)=>pure b|_=>bad
@[simp] def aL(m:bx)(U:aM):M Bool:=do
 let x <-m U
 x.rG
omit [aB.a5]in
theorem Av{r:R}{b:Bool}{S f:bJ}(h:r.rG.run S=.ok b f):r=.v (.ay b)/\S=f:=by
 cases r with
 |v d=>cases d<;>cases h<;>exact⟨rfl,rfl⟩
 |fr _=>cases h
 |bN _=>cases h
 |mv _=>cases h
def F2:∀d H Q,lz K mg (aL m) d H Q->w3 (fN K mg m) d H Q:=by
 rintro d H Q ⟨O,U,S,t,l,st,h,q⟩;obtain⟨x,S1,f,h⟩:=M.inv h;obtain⟨rfl,rfl⟩:=Av h;exact⟨O,U,S,_,_,st,f,λi v H' g k j _=>⟨t,j,q i H' g k⟩⟩
def PM{t t':TE}(i:∀U H Q,t' U H Q->t U H Q):∀U H Q,w3 t' U H Q->w3 t U H Q:=λU H Q q=>i _ _ _ q
@[simp] def fD(f g:R->R->M R)(a b c:bx)(U:aM):M R:=do
 let x <-a U
 let y <-b U
 let z <-f x y
 let t <-z.rG
 if t=true then do
  let w <-c U
  g y w
 else pure (.v (.ay false))
def IZ{r k:fB}(hf:ej K mg r f)(N:ej K mg k g):∀d H Q,fN K mg (fD f g cO cT fT) d H Q->FZ r k (fN K mg cO) (fN K mg cT) (fN K mg fT) d H Q:=by
 rintro d H Q ⟨O,U,S,k,Y,st,h,q⟩;obtain⟨x,S1,R,h⟩:=M.inv h;obtain⟨y,n,T,h⟩:=M.inv h;obtain⟨z,hs,Z,h⟩:=M.inv h;obtain⟨t,r1,J,h⟩:=M.inv h;obtain⟨rfl,rfl⟩:=Av J;refine⟨O,U,S,x,S1,st,R,λI f' H1 g1 P G bw=>?_⟩;refine⟨I,U,S1,y,n,P,T,λo E L A bL p nu=>?_⟩;refine hf o U n d L f' E x y _ _ _ bL (G.go A) p Z λs V C B u j _=>⟨t,j,?_⟩
 have i:=(g1.trans A).trans B
 cases t with
 |false=>
  rw[if_neg akl]at h;cases h;exact og (q s _ C i u rfl trivial)
 |true=>
  rw[if_pos rfl]at h;obtain⟨w,D,eK,h⟩:=M.inv h;refine oh ⟨s,U,_,w,D,u,eK,λF bN iG l tW rw nw=>?_⟩;exact N F U D d iG E bN y w _ Y Q tW (p.go (B.trans l)) rw h λW v H' g cp j nn=>q W v H' ((i.trans l).trans g) cp j (nn.back (i.trans l).same)
@[simp] def jY(a b:bx)(U:aM):M R:=do
 let x <-a U
 let t <-x.rG
 if t=true then b U else pure (.v (.ay false))
@[simp] def uP(a:bx)(U:aM):M R:=do
 let x <-a U
 let t <-x.rG
 pure (.v (.ay (!t)))
@[simp] def gN(a b:aM->M Bool)(U:aM):M Bool:=do
 let t <-a U
 if t=true then b U else pure false
@[simp] def e'(a b:aM->M Bool)(U:aM):M Bool:=do
 let t <-a U
 if t=true then pure true else b U
@[simp] def d_(a:aM->M Bool)(U:aM):M Bool:=do
 let t <-a U
 pure (!t)
def xn.cm(h:xn X a b9):Gz X a b9:=h.pt
end
def rq(g:Int->Int->Int):R->R->M R
 |.v (.int i),.v (.int j)=>pure (.v (.int (g i j)))|_,_=>bad
def oF(C:Int->Int->Prop)[∀i j,Decidable (C i j)](g:Int->Int->Int):R->R->M R
 |.v (.int i),.v (.int j)=>if C i j then pure (.v (.int (g i j)))else bad|_,_=>bad
def ro(g:Int->Int->Bool):R->R->M R
 |.v (.int i),.v (.int j)=>pure (.v (.ay (g i j)))|_,_=>bad
section
variable{K:aO}{mg:bp}
def xY{g:Int->Int->Int}:ej K mg (hL λi j=>.int (g i j)) (rq g):=λO U S e H x y c f k d Q st b a h q=>by
 unfold rq at h;split at h
 .rename_i i j
  cases h;exact⟨i,j,b,a,q O _ H (Go.refl _ _) st rfl trivial⟩
 .cases h
def r6{C:Int->Int->Prop}{a:Int->Int->Prop}[∀i j,Decidable (a i j)]{g:Int->Int->Int}(e:∀i j,a i j->C i j):ej K mg (ki C λi j=>.int (g i j)) (oF a g):=λO U S l H x y f m n k Q st d b h q=>by
 unfold oF at h;split at h
 .rename_i i j
  by_cases c:a i j
  .rw[if_pos c]at h
   cases h;exact⟨i,j,d,b,e i j c,q O _ H (Go.refl _ _) st rfl trivial⟩
  .rw[if_neg c]at h;cases h
 .cases h
def xX{g:Int->Int->Bool}:ej K mg (hL λi j=>.ay (g i j)) (ro g):=λO U S e H x y c f k d Q st b a h q=>by
 unfold ro at h;split at h
 .rename_i i j
  cases h;exact⟨i,j,b,a,q O _ H (Go.refl _ _) st rfl trivial⟩
 .cases h
end
abbrev eE:=rq (· + ·)
abbrev lp:=rq (· - ·)
abbrev oMod:=oF (λ_ j=>0<j) (· % ·)
abbrev oG:=oF (λi j=>0<=j/\j<=1000000/\i.natAbs<2 ^ 64) (λi j=>i ^ j.toNat)
abbrev EW:=oF (λi j=>0<=j/\j<=1000000/\i.natAbs<2 ^ 64) (λi j=>i*2 ^ j.toNat)
abbrev tC:=oF (λ_ j=>0<=j) (λi j=>i / 2 ^ j.toNat)
abbrev rp:=rq alM
abbrev tx:=rq anl
abbrev oLt:=ro λi j=>decide (i<j)
abbrev oLe:=ro λi j=>decide (i<=j)
abbrev nv:=ro λi j=>decide (j<i)
abbrev tB:=ro λi j=>decide (j<=i)
section
variable{X:aT}
def Rm:ej X.K X.mg (hL λi j=>.int (i+j)) eE:=xY
def Rz:ej X.K X.mg (hL λi j=>.int (i-j)) lp:=xY
def Ru:ej X.K X.mg (ki (λ_ j=>0<j) λi j=>.int (i % j)) oMod:=r6 λ_ _ h=>h
def Rw:ej X.K X.mg (ki xm λi j=>.int (i ^ j.toNat)) oG:=r6 λ_ _ h=>h
def Rx:ej X.K X.mg (ki xm λi j=>.int (i*2 ^ j.toNat)) EW:=r6 λ_ _ h=>h
def Ry:ej X.K X.mg (ki (λ_ j=>0<=j) λi j=>.int (i / 2 ^ j.toNat)) tC:=r6 λ_ _ h=>h
def Rn:ej X.K X.mg (hL λi j=>.int (alM i j)) rp:=xY
def Ro:ej X.K X.mg (hL λi j=>.int (anl i j)) tx:=xY
def Bz:ej X.K X.mg (hL λi j=>.ay (decide (i<j))) oLt:=xX
def qy:ej X.K X.mg (hL λi j=>.ay (decide (i<=j))) oLe:=xX
def Rt:ej X.K X.mg (hL λi j=>.ay (decide (j<i))) nv:=xX
def G5:ej X.K X.mg (hL λi j=>.ay (decide (j<=i))) tB:=xX
end
@[simp] def bb(f:R->M R)(a:bx)(U:aM):M R:=do
 let x <-a U
 f x
def R.fu:R->Option (List D)
 |.v (.l xs)=>some xs|.fr xs=>some xs|.bN xs=>some xs|.mv xs=>some xs|_=>none
def R.F4:R->Option (List D)
 |.v (.t xs)=>some xs|_=>none
def R.seq(r:R):Option (List D):=r.fu<|> r.F4
def R.ov{K:aO}{mg:bp}{O:a8}{H:aw}{r:R}{v:V}{xs:List D}(h:ew K mg O H r v)(e:r.fu=some xs):∃a ys,v=.ref a/\dr K H a ys/\bl K mg O H xs ys:=by
 unfold R.fu at e;split at e
 .cases e;obtain⟨a,ys,q,l,r⟩:=h;exact⟨a,ys,q,l.cP,r⟩
 .cases e;obtain⟨a,ys,q,l,_,r⟩:=h;exact⟨a,ys,q,dr.of l,r⟩
 .cases e;obtain⟨a,ys,q,l,r⟩:=h;exact⟨a,ys,q,l.cP,r⟩
 .cases e;obtain⟨a,ys,q,l,r⟩:=h;exact⟨a,ys,q,dr.of l,r⟩
 .cases e
def R.afL{K:aO}{mg:bp}{O:a8}{H:aw}{r:R}{v:V}{xs:List D}(h:ew K mg O H r v)(e:r.F4=some xs):∃a ys,v=.ref a/\dy K H a ys/\bl K mg O H xs ys:=by
 unfold R.F4 at e;split at e
 .cases e;exact h
 .cases e
def R.wU{K:aO}{mg:bp}{O:a8}{H:aw}{r:R}{v:V}{xs:List D}(h:ew K mg O H r v)(e:r.seq=some xs):∃a ys,v=.ref a/\(dr K H a ys\/dy K H a ys)/\bl K mg O H xs ys:=by
 unfold R.seq at e
 cases av:r.fu with
 |some b=>rw[av]at e;cases e;obtain⟨a,ys,q,l,r⟩:=R.ov h av;exact⟨a,ys,q,.inl l,r⟩
 |none=>rw[av]at e;obtain⟨a,ys,q,l,r⟩:=R.afL h e;exact⟨a,ys,q,.inr l,r⟩
def bl.d3{O:a8}{i:Int}(h:bl K mg O H ds xs)(e:d3 ds i=some d):∃x,aB.d3 xs i=some x/\Rep K mg O H d x:=by
 unfold aB.d3 at e ⊢;rw[h.len]
 cases q:ng ds.length i with
 |none=>rw[q]at e;cases e
 |some j=>rw[q]at e;exact h.get e
def aH:R->R->M R
 |.v (.str z),.v (.int i)=>match d3 z.cps.toList i with
  |some c=>if z.length<=aki then pure (.v (.str ⟨#[c]⟩))else bad|none=>bad
 |x,.v (.int i)=>match x.seq with
  |some xs=>match d3 xs i with
   |some d=>pure (.v d)|none=>bad
  |none=>bad
 |_,_=>bad
def g6:ej K mg (O9 K) aH:=fun O U S aq H x y J b7 bz ao Q st C o h q=>by
 unfold aH at h;split at h
 .rename_i z i
  split at h
  .rename_i c aE
   by_cases hz:z.length<=aki
   .rw[if_pos hz]at h
    cases h;exact .inr (.inr ⟨z,i,c,C,o,hz,aE,q O _ H (Go.refl _ _) st rfl trivial⟩)
   .rw[if_neg hz]at h;cases h
  .cases h
 .rename_i i _
  split at h
  .rename_i xs e
   split at h
   .rename_i d aE
    cases h;obtain⟨a,ys,rfl,l,f⟩:=R.wU C e;obtain⟨z,cJ,g⟩:=bl.d3 f aE;have b:=q O z H (Go.refl _ _) st g trivial;rcases l with l|l
    .exact .inl ⟨a,ys,i,z,rfl,o,l,cJ,b⟩
    .exact .inr (.inl ⟨a,ys,i,z,rfl,o,l,cJ,b⟩)
   .cases h
  .cases h
 .cases h
def aj:cZ:=λ_=>pure []
@[simp] def aa(m:bx)(ms:cZ)(U:aM):M (List R):=do
 let x <-m U
 let xs <-ms U
 pure (x::xs)
def R.dat:R->M D
 |.v d=>pure d|.fr xs=>pure (.l xs)|_=>bad
def m3:List R->M (List D)
 |[]=>pure []|r::rs=>do
  let d <-r.dat
  let ds <-m3 rs
  pure (d::ds)
def cD(H₀:aw)(O:a8):a8:=⟨λb=>match H₀ b,O b with
 |none,.dq=>.free| _,o=>o,O.bI⟩
def CW{H₀:aw}{O:a8}(h:H₀ b≠none):cD H₀ O b=O b:=by
 show(match H₀ b,O b with|none,.dq=>.free|_,o=>o)=O b
 cases e:H₀ b with
 |none=>exact absurd e h|some o=>cases O b<;>rfl
def CX{H₀:aw}{O:a8}(h:H₀ b=none)(t:O b=.dq):cD H₀ O b=.free:=by show(match H₀ b,O b with|none,.dq=>.free|_,o=>o)=Own.free;rw[h,t]
def qV{O:a8}(t:O b≠.dq):cD H₀ O b=O b:=by
 show(match H₀ b,O b with|none,.dq=>.free|_,o=>o)=O b;cases e:H₀ b<;>cases aE:O b<;>first|rfl|exact absurd aE t
def i_(H₀:aw)(O:a8):lF O (cD H₀ O):=⟨λa h=>by rw[qV (by rw[h];intro z;cases z),h],rfl⟩
def jn.c6{O b:a8}(g:lF O b)(c:∀a,O a=.out->b a=.out)(hw:∀a,O a=w->b a=w):∀{s:Slot}{u:Option V},jn K mg O H w s u->jn K mg b H w s u
 |.e,_,_=>trivial| .v _,_,h=>by obtain⟨v,q,r⟩:=h;exact⟨v,q,r.c6 g⟩
 |.dB _ _,_,h=>by obtain⟨a,ys,q,o,l,r⟩:=h;exact⟨a,ys,q,hw a o,l,r.c6 g⟩
 |.bN _,_,h=>by
  obtain⟨a,ys,q,l,r⟩:=h;refine⟨a,ys,q,l.imp (λz=>⟨z.1,z.2.imp (g.fr a) (c a)⟩) id,r.c6 g⟩
section
variable{K:aO}{mg:bp}{O:a8}{U:aM}{S:bJ}{aq:St}{H H₀:aw}
def cK.cD(h:cK K mg O U S aq H)(H₀:aw):cK K mg (cD H₀ O) U S aq H:=
  ⟨⟨λa b=>h.cv.has a λz=>b (by rw[qV (by rw[z];intro w;cases w),z]),h.cv.tabs,h.cv.cf.1,λa m=>by rw[qV (by rw[h.cv.cf.2 a m];intro w;cases w)];exact h.cv.cf.2 a m⟩,h.len,
   λi s e=>(h.loc i s e).c6 (i_ _ _) (λa z=>by rw[qV (by rw[z];intro w;cases w),z]) (λa z=>by rw[qV (by rw[z];intro w;cases w),z]),h.gn.all (λ_ _ z=>Rep.c6 (i_ _ _) z) rfl λ_ _ _ l _=>l⟩
def Go.cD{c:a8}(g:Go c O H₀ H):Go c (cD H₀ O) H₀ H:=⟨g.same,λb a=>(CW a).trans (g.own b a),g.bI⟩
def pC{r:R}{v:V}(b:ew K mg O H r v)(c:jl H₀ r v)(h:r.dat.run S=.ok d o):Rep K mg (aF.cD H₀ O) H d v/\S=o:=by
 cases r with
 |v d'=>cases h;exact⟨Rep.c6 (i_ _ _) b,rfl⟩
 |fr xs=>
  cases h;obtain⟨a,ys,rfl,l,t,e⟩:=b;exact⟨⟨a,ys,rfl,⟨l,CX (c a rfl) t⟩,bl.c6 (i_ _ _) e⟩,rfl⟩
 |bN xs=>cases h
 |mv xs=>cases h
theorem Cy:∀{rs:List R}{vs:List V}{ds:List D}{S a:bJ},i6 K mg O H rs vs->kq H₀ rs vs->(m3 rs).run S=.ok ds a->bl K mg (aF.cD H₀ O) H ds vs/\S=a
 |[],vs,ds,S,a,o,_,h=>by cases h;exact⟨o,rfl⟩
 |r::rs,vs,ds,S,a,o,C,h=>by
  obtain⟨d,S1,b,h⟩:=M.inv h;obtain⟨j,i,c,h⟩:=M.inv h;cases h;obtain⟨v,g,rfl,f,e⟩:=o;obtain⟨br,rfl⟩:=pC (H₀:=H₀) f C.1 b;obtain⟨bP,rfl⟩:=Cy e C.2 c;exact⟨⟨v,g,rfl,br,bP⟩,rfl⟩
end
@[simp] def bU(ms:cZ)(U:aM):M R:=do
 let rs <-ms U
 let ds <-m3 rs
 hx (ds.length<=1000)
 pure (.v (.t ds))
@[simp] def eD(ms:cZ)(U:aM):M R:=do
 let rs <-ms U
 let ds <-m3 rs
 hx (ds.length<=1000)
 pure (.fr ds)
@[simp] def cF(f:List R->M R)(ms:cZ)(U:aM):M R:=do
 let rs <-ms U
 f rs
def kU(K:aO)(mg:bp)(r:List V->aw->cU->Prop)(f:List R->M R):Prop:=
 ∀O U S C H xs rs J o (Q:cU),cK K mg O U S C H->i6 K mg O H rs xs->(f rs).run S=.ok J o->uy K mg O U o C H J Q->r xs H Q
section
variable{ms:cZ}{r:List V->aw->cU->Prop}{f:List R->M R}
def I0(t:kU K mg r f):∀a H Q,fN K mg (cF f ms) a H Q->FY r (oU K mg ms) a H Q:=by
 rintro a H Q ⟨O,U,S,p,m,st,h,q⟩;obtain⟨rs,S1,k,h⟩:=M.inv h;refine⟨O,U,S,rs,S1,st,k,λi vs e b j n nn=>?_⟩;exact t i U S1 a e vs rs p m Q j n h λl v H' g s d c=>q l v H' (b.trans g) s d (c.back b.same)
end
def gW:List R->M R
 |[x]=>match x.seq with
  |some xs=>pure (.v (.int (xs.length:Nat)))|none=>bad
 |_=>bad
def m7:List R->M R
 |[.v (.str z)]=>if z.length<=aki then pure (.v (.int (z.length:Nat)))else bad|_=>bad
def R.kind:R->Option String
 |.v .aJ=>some "NoneType"|.v (.ay _)=>some "bool"|.v (.int _)=>some "int"|.v (.str _)=>some "str"|.v (.t _)=>some "tuple"|.v (.l _)=>some "list"|.fr _=>some "list"|.bN _=>some "list"|.mv _=>some "list"|_=>none
def gV:List R->M R
 |[x,.v (.ty n)]=>match x.kind with
  |some t=>if n∈["int","bool","tuple","list","str"]then pure (.v (.ay (vv t n)))else bad|none=>bad
 |_=>bad
def qR(g:Int->Int->Int):List R->M R
 |[.v (.int i),.v (.int j)]=>pure (.v (.int (g i j)))|_=>bad
abbrev Ls:=qR λi j=>if j > i then j else i
abbrev T':=qR λi j=>if j<i then j else i
def u2:List R->M R
 |[.v (.int i)]=>pure (.v (.int (if i<0 then -i else i)))|_=>bad
def lO:List D->Option (List Bool)
 |[]=>some []|.ay b::r=>(lO r).map (b::·)|_=>none
def u3:List R->M R
 |[x]=>match x.fu.bind lO with
  |some bs=>pure (.v (.ay (bs.any id)))|none=>bad
 |_=>bad
def n4:List R->M R
 |[x]=>match x.fu.bind lO with
  |some bs=>pure (.v (.ay (bs.all id)))|none=>bad
 |_=>bad
def u4:List R->M R
 |[x]=>match x.seq with
  |some xs=>pure (.fr xs)|none=>bad
 |_=>bad
def pJ:List R->M R
 |[x]=>match x.seq with
  |some xs=>pure (.v (.t xs))|none=>bad
 |_=>bad
section
variable{K:aO}{mg:bp}
def kM{O:a8}{r:R}(h:i6 K mg O H [r] vs):∃v,vs=[v]/\ew K mg O H r v:=by
 obtain⟨v,c,rfl,a,b⟩:=h;cases b;exact⟨v,rfl,a⟩
def Fu{O:a8}{r s:R}(h:i6 K mg O H [r,s] vs):∃v u,vs=[v,u]/\ew K mg O H r v/\ew K mg O H s u:=by
 obtain⟨v,f,rfl,a,b⟩:=h;obtain⟨u,e,rfl,c,d⟩:=b;cases d;exact⟨v,u,rfl,a,c⟩
def YM:kU K mg (λxs H Q=>∃p ys,xs=[.ref p]/\(dr K H p ys\/dy K H p ys)/\Q (.int ys.length) H) gW:=λO U S g H vs rs i f Q st b h q=>by
 unfold gW at h;split at h
 .rename_i x
  obtain⟨v,rfl,c⟩:=kM b;split at h
  .rename_i xs e
   cases h;obtain⟨a,ys,rfl,l,d⟩:=R.wU c e;exact⟨a,ys,rfl,l,by rw[d.len];exact q O _ H (Go.refl _ _) st rfl trivial⟩
  .cases h
 .cases h
def YN:kU K mg (λxs H Q=>∃z,xs=[.str z]/\z.length<=aki/\Q (.int z.length) H) m7:=λO U S d H vs rs e c Q st a h q=>by
 unfold m7 at h;split at h
 .rename_i z
  obtain⟨v,rfl,b⟩:=kM a;cases(show v=.str z from b)
  by_cases hz:z.length<=aki
  .rw[if_pos hz]at h
   cases h;exact⟨z,rfl,hz,q O _ H (Go.refl _ _) st rfl trivial⟩
  .rw[if_neg hz]at h;cases h
 .cases h
def R.Y3{O:a8}{H:aw}{r:R}{v:V}{t:String}(h:ew K mg O H r v)(e:r.kind=some t):mR K H v t:=by
 unfold R.kind at e;split at e
 .cases e;cases h;exact .aJ
 .cases e;cases h;exact .ay _
 .cases e;cases h;exact .int _
 .cases e;cases h;exact .str _
 .cases e;obtain⟨a,ys,rfl,l,_⟩:=h;exact .t l
 .cases e;obtain⟨a,ys,rfl,l,_⟩:=h;exact .l l.cP
 .cases e;obtain⟨a,ys,rfl,l,_⟩:=h;exact .l (dr.of l)
 .cases e;obtain⟨a,ys,rfl,l,_⟩:=h;exact .l l.cP
 .cases e;obtain⟨a,ys,rfl,l,_⟩:=h;exact .l (dr.of l)
 .cases e
def YL:kU K mg (O8 K) gV:=fun O U S J H vs rs bz C Q st o h q=>by
 unfold gV at h;split at h
 .rename_i x n
  obtain⟨v,u,rfl,c,b⟩:=Fu o;cases(show u=.ty n from b);split at h
  .rename_i t e
   by_cases a:n∈["int","bool","tuple","list","str"]
   .rw[if_pos a]at h
    cases h;exact⟨v,n,t,rfl,R.Y3 c e,a,q O _ H (Go.refl _ _) st rfl trivial⟩
   .rw[if_neg a]at h;cases h
  .cases h
 .cases h
def MZ{g:Int->Int->Int}:kU K mg (λxs H Q=>∃i j,xs=[.int i,.int j]/\Q (.int (g i j)) H) (qR g):=λO U S e H vs rs f d Q st b h q=>by
 unfold qR at h;split at h
 .rename_i i j
  obtain⟨v,u,rfl,c,a⟩:=Fu b;cases(show v=.int i from c);cases(show u=.int j from a);cases h;exact⟨i,j,rfl,q O _ H (Go.refl _ _) st rfl trivial⟩
 .cases h
def YI:kU K mg (λxs H Q=>∃i,xs=[.int i]/\Q (.int (if i<0 then -i else i)) H) u2:=λO U S d H vs rs e c Q st a h q=>by
 unfold u2 at h;split at h
 .rename_i i
  obtain⟨v,rfl,b⟩:=kM a;cases(show v=.int i from b);cases h;exact⟨i,rfl,q O _ H (Go.refl _ _) st rfl trivial⟩
 .cases h
theorem B6{O:a8}:∀{ds:List D}{ys:List V}{bs:List Bool},bl K mg O H ds ys->lO ds=some bs->ys=bs.map V.ay
 |[],ys,bs,h,e=>by cases e;exact h
 |d::ds,ys,bs,h,e=>by
  cases d with
  |ay b=>
   have e:(lO ds).map (b::·)=some bs:=e;obtain⟨cs,av,rfl⟩:=anf.mp e;obtain⟨y,r,rfl,a,c⟩:=h;rw[B6 c av,show y=.ay b from a];rfl
  |_=>exact absurd (show(none:Option (List Bool))=some bs from e) (by intro z;cases z)
def YK:kU K mg (λxs H Q=>∃(l:Addr)(bs:List Bool),xs=[.ref l]/\dr K H l (bs.map V.ay)/\Q (.ay (bs.any id)) H) u3:=λO U S g H vs rs i f Q st b h q=>by
 unfold u3 at h;split at h
 .rename_i x
  obtain⟨v,rfl,c⟩:=kM b;split at h
  .rename_i xs e
   cases h;obtain⟨j,av,aE⟩:=aoD.mp e;obtain⟨a,ys,rfl,l,d⟩:=R.ov c av;rw[B6 d aE]at l;exact⟨a,xs,rfl,l,q O _ H (Go.refl _ _) st rfl trivial⟩
  .cases h
 .cases h
def YJ:kU K mg (λxs H Q=>∃(l:Addr)(bs:List Bool),xs=[.ref l]/\dr K H l (bs.map V.ay)/\Q (.ay (bs.all id)) H) n4:=λO U S g H vs rs i f Q st b h q=>by
 unfold n4 at h;split at h
 .rename_i x
  obtain⟨v,rfl,c⟩:=kM b;split at h
  .rename_i xs e
   cases h;obtain⟨j,av,aE⟩:=aoD.mp e;obtain⟨a,ys,rfl,l,d⟩:=R.ov c av;rw[B6 d aE]at l;exact⟨a,xs,rfl,l,q O _ H (Go.refl _ _) st rfl trivial⟩
  .cases h
 .cases h
def YO:kU K mg (λxs H Q=>∃p ys,xs=[.ref p]/\(dr K H p ys\/dy K H p ys)/\∀l,H l=none->Q (.ref l) (upd H l (.l ys))) u4:=λO U S k H vs rs m j Q st d h q=>by
 unfold u4 at h;split at h
 .rename_i x
  obtain⟨v,rfl,f⟩:=kM d;split at h
  .rename_i xs e
   cases h;obtain⟨a,ys,rfl,l,g⟩:=R.wU f e;refine⟨a,ys,rfl,l,λp c=>q (f_ O p .dq) _ _ (Go.new c) (st.new c) ⟨p,ys,rfl,d6,mx,g.go (Go.new c)⟩ λb i=>?_⟩;cases i;exact c
  .cases h
 .cases h
def y3:kU K mg (λxs H Q=>∃p ys,xs=[.ref p]/\((dr K H p ys/\∀l,H l=none->Q (.ref l) (upd H l (.t ys)))\/(dy K H p ys/\Q (.ref p) H))) pJ:=λO U S i H vs rs j g Q st d h q=>by
 unfold pJ at h;split at h
 .rename_i x
  obtain⟨v,rfl,f⟩:=kM d;split at h
  .rename_i xs e
   cases h;obtain⟨a,ys,rfl,l,c⟩:=R.wU f e;refine⟨a,ys,rfl,?_⟩;rcases l with l|l
   .exact .inl ⟨l,λp b=>q O _ _ (Go.hg b) (st.hg b) ⟨p,ys,rfl,dy.of d6,c.go (Go.hg b)⟩ trivial⟩
   .exact .inr ⟨l,q O _ _ (Go.refl _ _) st ⟨a,ys,rfl,l,c⟩ trivial⟩
  .cases h
 .cases h
end
def cutD{α:Type}(xs:List α)(lo hi:Option Int):List α:=(xs.drop (c5.cw xs.length 0 lo)).take (c5.cw xs.length xs.length hi-c5.cw xs.length 0 lo)
def bl.cut{O:a8}(h:bl K mg O H ds xs)(lo hi:Option Int):bl K mg O H (cutD ds lo hi) (pA xs lo hi):=by
 unfold cutD pA;rw[h.len];exact(h.drop _).take _
abbrev lG:=aM->M (Option Int)
def afE(K:aO)(mg:bp)(m:lG):dQ:=λc H Q=>pn K mg m c H λO U d b=>∀a H',Go O a H H'->cK K mg a U d c H'->Q b H'
abbrev QD(X:aT)(e:Option Expr)(m:lG):Prop:=ux X e (afE X.K X.mg m)
def j0:lG:=λ_=>pure none
@[simp] def ks(m:bx)(U:aM):M (Option Int):=do
 let r <-m U
 match r with
 |.v (.int i)=>pure (some i)|_=>bad
def oH(x:R)(lo hi:Option Int):M R:=
 match x with
 |.v (.t xs)=>if c5.cw xs.length 0 lo=0/\c5.cw xs.length xs.length hi=xs.length then bad else pure (.v (.t (cutD xs lo hi)))|_=>match x.fu with
  |some xs=>pure (.fr (cutD xs lo hi))|none=>bad
@[simp] def qB(a:bx)(lo hi:lG)(U:aM):M R:=do
 let x <-a U
 let l <-lo U
 let h <-hi U
 oH x l h
def R.own:R->Option (List D)
 |.v (.l xs)=>some xs|.fr xs=>some xs|.mv xs=>some xs|_=>none
def wj(x y:R):M R:=match x.own,y.own with
 |some xs,some ys=>if xs.length+ys.length<=aki then pure (.fr (xs++ys))else bad|_,_=>bad
def oE:R->R->M R
 |.v (.str x),.v (.str y)=>if x.length+y.length<=aki then pure (.v (.str (x++y)))else bad|_,_=>bad
def R.E8{K:aO}{mg:bp}{O:a8}{H:aw}{r:R}{v:V}{xs:List D}(h:ew K mg O H r v)(e:r.own=some xs):∃a ys,v=.ref a/\H a=some (.l ys)/\bl K mg O H xs ys:=by
 unfold R.own at e;split at e
 .cases e;obtain⟨a,ys,q,l,r⟩:=h;exact⟨a,ys,q,l.1,r⟩
 .cases e;obtain⟨a,ys,q,l,_,r⟩:=h;exact⟨a,ys,q,l,r⟩
 .cases e;obtain⟨a,ys,q,l,r⟩:=h;exact⟨a,ys,q,l,r⟩
 .cases e
section
variable{K:aO}{mg:bp}
def Rp:ej K mg O4 wj:=fun O U S aq H x y o b7 bz ao Q st J C h q=>by
 unfold wj at h
 cases av:o.own with
 |none=>rw[av]at h;cases h
 |some xs=>
  cases aE:b7.own with
  |none=>rw[av,aE]at h;cases h
  |some ys=>
   rw[av,aE]at h;dsimp only at h
   by_cases hl:xs.length+ys.length<=aki
   .rw[if_pos hl]at h
    cases h;obtain⟨a,us,rfl,g,e⟩:=R.E8 J av;obtain⟨b,j,rfl,f,d⟩:=R.E8 C aE;refine⟨a,b,us,j,rfl,rfl,g,f,by rw[e.len,d.len];exact hl,λp c=>q (f_ O p .dq) _ _ (Go.new c) (st.new c) ⟨p,_,rfl,d6,mx,(e.append d).go (Go.new c)⟩ λb i=>?_⟩;cases i;exact c
   .rw[if_neg hl]at h;cases h
def Rq:ej K mg (λx y H Q=>∃i j,x=.str i/\y=.str j/\i.length+j.length<=aki/\Q (.str (i++j)) H) oE:=λO U S e H x y c f g d Q st b a h q=>by
 unfold oE at h;split at h
 .rename_i i j
  by_cases hl:i.length+j.length<=aki
  .rw[if_pos hl]at h
   cases h;exact⟨i,j,b,a,hl,q O _ H (Go.refl _ _) st rfl trivial⟩
  .rw[if_neg hl]at h;cases h
 .cases h
end
def D.py:D->PyData
 |.aJ=>.none|.ay b=>.bool b|.int i=>.int i|.str x=>.str x|.t xs=>.tuple (lr xs)|.l xs=>.list (lr xs)|.ref _=>.none|.fn _=>.none|.ty _=>.none
where lr:List D->List PyData
 |[]=>[]
 |x::xs=>x.py::lr xs
mutual
def D.b1:D->Nat->Bool
 |.aJ,_=>true|.ay _,_=>true|.int _,_=>true|.str x,_=>aku x|.t xs,n=>match n with
  |0=>false|k+1=>g9 xs k
 |.l xs,n=>match n with
  |0=>false|k+1=>g9 xs k
 |.ref _,_=>false|.fn _,_=>false|.ty _,_=>false
def g9:List D->Nat->Bool
 |[],_=>true|x::xs,n=>x.b1 n&&g9 xs n
end
mutual
def es:D->D->Bool
 |.aJ,b=>match b with|.aJ=>true|_=>false
 |.ay a,b=>match b with|.ay c=>a==c|.int j=>(if a then 1 else 0)==j|_=>false
 |.int i,b=>match b with|.ay c=>i==(if c then 1 else 0)|.int j=>i==j|_=>false
 |.str x,b=>match b with|.str y=>x==y|_=>false
 |.t xs,b=>match b with|.t ys=>mi xs ys|_=>false
 |.l xs,b=>match b with|.l ys=>mi xs ys|_=>false
 |.ref _,_=>false|.fn _,_=>false|.ty _,_=>false
def mi:List D->List D->Bool
 |[],ys=>match ys with|[]=>true|_=>false
 |x::xs,ys=>match ys with|[]=>false|y::r=>es x y&&mi xs r
end
mutual
theorem CI:∀(a b:D)(n m:Nat),a.b1 n=true->b.b1 m=true->aoT a.py b.py=es a b
 |.aJ,b,n,m,C,o=>by cases b<;>first|rfl|(simp[D.b1]at o)
 |.ay _,b,n,m,C,o=>by cases b<;>first|rfl|(simp[D.b1]at o)
 |.int _,b,n,m,C,o=>by cases b<;>first|rfl|(simp[D.b1]at o)
 |.str _,b,n,m,C,o=>by cases b<;>first|rfl|(simp[D.b1]at o)
 |.t xs,b,n,m,C,o=>by
  cases b with
  |t ys=>
   cases n with
   |zero=>simp[D.b1]at C|succ k=>
    cases m with
    |zero=>simp[D.b1]at o|succ j=>exact CJ xs ys k j C o
  |ref _=>simp[D.b1]at o|fn _=>simp[D.b1]at o|ty _=>simp[D.b1]at o|_=>rfl
 |.l xs,b,n,m,C,o=>by
  cases b with
  |l ys=>
   cases n with
   |zero=>simp[D.b1]at C|succ k=>
    cases m with
    |zero=>simp[D.b1]at o|succ j=>exact CJ xs ys k j C o
  |ref _=>simp[D.b1]at o|fn _=>simp[D.b1]at o|ty _=>simp[D.b1]at o|_=>rfl
 |.ref _,b,n,m,C,o=>by simp[D.b1]at C| .fn _,b,n,m,C,o=>by simp[D.b1]at C| .ty _,b,n,m,C,o=>by simp[D.b1]at C
theorem CJ:∀(xs ys:List D)(n m:Nat),g9 xs n=true->g9 ys m=true->PyData.eqvAll (D.py.lr xs) (D.py.lr ys)=mi xs ys
 |[],ys,n,m,C,o=>by cases ys<;>rfl
 |x::xs,ys,n,m,C,o=>by
  cases ys with
  |nil=>rfl|cons y r=>
   rw[g9,akH]at C o;show(aoT x.py y.py&&PyData.eqvAll (D.py.lr xs) (D.py.lr r))=(es x y&&mi xs r);rw[CI x y n m C.1 o.1,CJ xs r n m C.2 o.2]
end
mutual
theorem LO:∀(a:D)(n:Nat),a.b1 n=true->a.py.canLay0=true/\a.py.depth<=n
 |.aJ,n,h=>⟨rfl,akY _⟩
 |.ay _,n,h=>⟨rfl,akY _⟩
 |.int _,n,h=>⟨rfl,akY _⟩
 |.str _,n,h=>⟨h,akY _⟩
 |.t xs,n,h=>by
  cases n with
  |zero=>simp[D.b1]at h|succ k=>obtain⟨br,bP⟩:=C4 xs k h;exact⟨br,Nat.succ_le_succ bP⟩
 |.l xs,n,h=>by
  cases n with
  |zero=>simp[D.b1]at h|succ k=>obtain⟨br,bP⟩:=C4 xs k h;exact⟨br,Nat.succ_le_succ bP⟩
 |.ref _,n,h=>by simp[D.b1]at h| .fn _,n,h=>by simp[D.b1]at h| .ty _,n,h=>by simp[D.b1]at h
theorem C4:∀(xs:List D)(n:Nat),g9 xs n=true->PyData.canLayAll0 (D.py.lr xs)=true/\PyData.depthAll (D.py.lr xs)<=n
 |[],n,h=>⟨rfl,akY _⟩
 |x::xs,n,h=>by
  rw[g9,akH]at h;obtain⟨a1,a2⟩:=LO x n h.1;obtain⟨a,b⟩:=C4 xs n h.2;exact⟨by show(x.py.canLay0&&PyData.canLayAll0 (D.py.lr xs))=true;rw[a1,a];rfl,by show max x.py.depth (PyData.depthAll (D.py.lr xs))<=n;omega⟩
end
def yw{a:D}(h:a.b1 64=true):ao6 a.py=true:=by
 obtain⟨b,c⟩:=LO a 64 h;show(a.py.canLay0&&decide (a.py.depth<=64))=true;rw[b,decide_eq_true c];rfl
mutual
theorem Rep.py{O:a8}:∀{d:D}{v:V}{n:Nat},d.b1 n=true->Rep K mg O H d v->aB.Rep K H d.py v
 |.aJ,_,_,_,h=>h|.ay _,_,_,_,h=>h|.int _,_,_,_,h=>h|.str _,_,_,_,h=>h|.t _,_,n,g,h=>by
  cases n with
  |zero=>simp[D.b1]at g|succ k=>obtain⟨a,ys,q,l,r⟩:=h;exact⟨a,ys,q,l,bl.py (n:=k) g r⟩
 |.l _,_,n,g,h=>by
  cases n with
  |zero=>simp[D.b1]at g|succ k=>obtain⟨a,ys,q,l,r⟩:=h;exact⟨a,ys,q,l.cP,bl.py (n:=k) g r⟩
 |.ref _,_,_,g,h=>by simp[D.b1]at g| .fn _,_,_,g,h=>by simp[D.b1]at g| .ty _,_,_,g,h=>by simp[D.b1]at g
theorem bl.py{O:a8}:∀{ds:List D}{ys:List V}{n:Nat},g9 ds n=true->bl K mg O H ds ys->aB.bl K H (D.py.lr ds) ys
 |[],_,_,_,h=>h|_::_,_,n,g,h=>by
  rw[g9,akH]at g;obtain⟨x,r,q,a,b⟩:=h;exact⟨x,r,q,Rep.py g.1 a,bl.py g.2 b⟩
end
def R.arg:R->D
 |.v d=>d|.fr xs=>.l xs|.bN xs=>.l xs|.mv xs=>.l xs
def R.xN{K:aO}{mg:bp}{O:a8}{H:aw}{r:R}{v:V}{n:Nat}(g:r.arg.b1 n=true)(h:ew K mg O H r v):aB.Rep K H r.arg.py v:=by
 have fu:∀xs,r.fu=some xs->(D.l xs).b1 n=true->aB.Rep K H (D.l xs).py v:=λxs e g=>by
  obtain⟨a,ys,q,l,b⟩:=R.ov h e
  cases n with
  |zero=>simp[D.b1]at g|succ k=>exact⟨a,ys,q,l,bl.py (n:=k) g b⟩
 cases r with
 |v d=>exact Rep.py g h|fr xs=>exact fu xs rfl g|bN xs=>exact fu xs rfl g|mv xs=>exact fu xs rfl g
def oEq(x y:R):M R:=if x.arg.b1 64=true/\y.arg.b1 64=true then pure (.v (.ay (es x.arg y.arg)))else bad
def dA(x y:R):M R:=if x.arg.b1 64=true/\y.arg.b1 64=true then pure (.v (.ay (!es x.arg y.arg)))else bad
section
variable{K:aO}{mg:bp}
def By:ej K mg (z7 K false) oEq:=λO U S g H x y a e i f Q st d b h q=>by
 unfold oEq at h
 by_cases c:a.arg.b1 64=true/\e.arg.b1 64=true
 .rw[if_pos c]at h
  cases h;refine⟨_,_,R.xN c.1 d,R.xN c.2 b,yw c.1,yw c.2,?_⟩;rw[if_neg akl,CI _ _ _ _ c.1 c.2];exact q O _ H (Go.refl _ _) st rfl trivial
 .rw[if_neg c]at h;cases h
def r5:ej K mg (z7 K true) dA:=λO U S g H x y a e i f Q st d b h q=>by
 unfold dA at h
 by_cases c:a.arg.b1 64=true/\e.arg.b1 64=true
 .rw[if_pos c]at h
  cases h;refine⟨_,_,R.xN c.1 d,R.xN c.2 b,yw c.1,yw c.2,?_⟩;rw[if_pos rfl,CI _ _ _ _ c.1 c.2];exact q O _ H (Go.refl _ _) st rfl trivial
 .rw[if_neg c]at h;cases h
end
def R.j8:R->Bool
 |.v .aJ=>true|_=>false
def jI(x:R):R->M R
 |.v .aJ=>pure (.v (.ay x.j8))|_=>bad
def iX(x:R):R->M R
 |.v .aJ=>pure (.v (.ay (!x.j8)))|_=>bad
section
variable{K:aO}{mg:bp}
def MR{O:a8}{r:R}{v:V}(h:ew K mg O H r v):decide (v=.aJ)=r.j8:=by
 have no:∀{a:Addr},v=.ref a->decide (v=.aJ)=false:=λ{a} e=>by rw[e];exact decide_eq_false (by intro z;cases z)
 cases r with
 |v d=>
  cases d with
  |aJ=>exact decide_eq_true h|ay _=>rw[show v=_ from h];rfl|int _=>rw[show v=_ from h];rfl|str _=>rw[show v=_ from h];rfl|ty _=>rw[show v=_ from h];rfl|t _=>obtain⟨a,_,e,_⟩:=h;exact no e
  |l _=>obtain⟨a,_,e,_⟩:=h;exact no e
  |ref _=>obtain⟨a,e,_⟩:=h;exact no e
  |fn _=>obtain⟨a,e,_⟩:=h;exact no e
 |fr _=>obtain⟨a,_,e,_⟩:=h;exact no e
 |bN _=>obtain⟨a,_,e,_⟩:=h;exact no e
 |mv _=>obtain⟨a,_,e,_⟩:=h;exact no e
def G8:ej K mg (λx y H Q=>y=.aJ/\Q (.ay (decide (x=.aJ))) H) jI:=λO U S e H x y c f g d Q st b a h q=>by
 unfold jI at h;split at h
 .cases h;exact⟨a,by rw[MR b];exact q O _ H (Go.refl _ _) st rfl trivial⟩
 .cases h
def G9:ej K mg (λx y H Q=>y=.aJ/\Q (.ay (!decide (x=.aJ))) H) iX:=λO U S e H x y c f g d Q st b a h q=>by
 unfold iX at h;split at h
 .cases h;exact⟨a,by rw[MR b];exact q O _ H (Go.refl _ _) st rfl trivial⟩
 .cases h
end
def D.flat:D->Bool
 |.aJ=>true|.ay _=>true|.int _=>true|.str _=>true|_=>false
def inD(x:D)(xs:List D):Bool:=xs.any λy=>es y x
def kK(neg:Bool)(x y:R):M R:=match x,y.seq with
 |.v d,some xs=>if d.flat=true/\xs.all D.flat=true then pure (.v (.ay (if neg then !inD d xs else inD d xs)))else bad|_,_=>bad
section
variable{K:aO}{mg:bp}
def LA{O:a8}{d:D}{v:V}(h:Rep K mg O H d v)(f:d.flat=true):m8 v=true:=by
 cases d with
 |aJ=>rw[show v=_ from h];rfl|ay _=>rw[show v=_ from h];rfl|int _=>rw[show v=_ from h];rfl|str _=>rw[show v=_ from h];rfl|_=>exact absurd (show false=true from f) akl
def T1{O:a8}{d e:D}{v u:V}(h:Rep K mg O H d v)(h':Rep K mg O H e u)(f:d.flat=true)(a:e.flat=true):m5 v u=es d e:=by
 cases d with
 |aJ=>
  rw[show v=_ from h]
  cases e with
  |aJ=>rw[show u=_ from h'];rfl|ay _=>rw[show u=_ from h'];rfl|int _=>rw[show u=_ from h'];rfl|str _=>rw[show u=_ from h'];rfl|_=>exact absurd (show false=true from a) akl
 |ay _=>
  rw[show v=_ from h]
  cases e with
  |aJ=>rw[show u=_ from h'];rfl|ay _=>rw[show u=_ from h'];rfl|int _=>rw[show u=_ from h'];rfl|str _=>rw[show u=_ from h'];rfl|_=>exact absurd (show false=true from a) akl
 |int _=>
  rw[show v=_ from h]
  cases e with
  |aJ=>rw[show u=_ from h'];rfl|ay _=>rw[show u=_ from h'];rfl|int _=>rw[show u=_ from h'];rfl|str _=>rw[show u=_ from h'];rfl|_=>exact absurd (show false=true from a) akl
 |str _=>
  rw[show v=_ from h]
  cases e with
  |aJ=>rw[show u=_ from h'];rfl|ay _=>rw[show u=_ from h'];rfl|int _=>rw[show u=_ from h'];rfl|str _=>rw[show u=_ from h'];rfl|_=>exact absurd (show false=true from a) akl
 |_=>exact absurd (show false=true from f) akl
theorem MM{O:a8}{d:D}{v:V}(h:Rep K mg O H d v)(f:d.flat=true):∀{ds:List D}{ys:List V},bl K mg O H ds ys->ds.all D.flat=true->ys.all m8=true/\DU v ys=inD d ds
 |[],ys,r,_=>by cases r;exact⟨rfl,rfl⟩
 |e::ds,ys,r,g=>by
  obtain⟨y,t,rfl,a,b⟩:=r;rw[amS,akH]at g;obtain⟨br,bP⟩:=MM h f b g.2;refine⟨by rw[amS,LA a g.1,br];rfl,?_⟩;show(y::t).any (λz=>m5 z v)=(e::ds).any λz=>es z d
  rw[aoe,aoe,T1 a h g.1 f];exact congrArg _ bP
def G6(neg:Bool):ej K mg (O7 K neg) (kK neg):=λO U S n H x y k p r m Q st b f h q=>by
 unfold kK at h;split at h
 .rename_i d xs e
  by_cases c:d.flat=true/\xs.all D.flat=true
  .rw[if_pos c]at h
   cases h;obtain⟨a,ys,rfl,l,g⟩:=R.wU f e;obtain⟨i,j⟩:=MM b c.1 g c.2;exact⟨a,ys,rfl,l,LA b c.1,i,by rw[j];exact q O _ H (Go.refl _ _) st rfl trivial⟩
  .rw[if_neg c]at h;cases h
 .cases h
end
inductive fc where
 |bw (U:aM)|cn (r:R)|bk (U:aM)|cm (U:aM)
abbrev aN:=aM->M fc
def Fix(o:gF):Prop:=(∃xs,o=.t xs)\/∃bc u,o=.cD bc u
structure d7(O ak:a8)(H H':aw):Prop where
 cells:∀b o,H b=some o->(O b=.free\/O b=.out\/Fix o)->(h:oC o:=by exact trivial)->H' b=some o
 own:∀b,H b≠none->(O b=.free\/O b=.out)->ak b=O b
 has:∀b,H b≠none->H' b≠none
 cC:∀b ps,H b=some (.f9 ps)->∃lq,H' b=some (.f9 lq)
 b1:TabsOk H->TabsOk H'
 bI:ak.bI=O.bI
def Go.bZ{O a:a8}(g:Go O a H H'):d7 O a H H':=⟨λb o e _ n=>g.same.at' b o e n,λb h _=>g.own b h,λ_ h=>g.same.some h,g.same.cC,g.same.b1,g.bI⟩
def d7.refl(O:a8)(H:aw):d7 O O H H:=(Go.refl O H).bZ
def d7.trans{O i j:a8}(a:d7 O i H H1)(b:d7 i j H1 C):d7 O j H C:=by
 have d:∀{b:Addr}{o:gF},H b=some o->H b≠none:=λe z=>by rw[e]at z;cases z
 refine⟨λc o e h n=>?_,λc h f=>?_,λc h=>b.has c (a.has c h),λc ps h=>let⟨p1,av⟩:=a.cC c ps h;b.cC c p1 av,λg=>b.b1 (a.b1 g),b.bI.trans a.bI⟩
 .have av:=a.cells c o e h n
  rcases h with h|h|h
  .exact b.cells c o av (.inl ((a.own c (d e) (.inl h)).trans h)) n
  .exact b.cells c o av (.inr (.inl ((a.own c (d e) (.inr h)).trans h))) n
  .exact b.cells c o av (.inr (.inr h)) n
 .have av:=a.own c h f
  rw[b.own c (a.has c h) (by rw[av];exact f),av]
def fg(U U':aM)(a b:St):Prop:=(∀(i:Nat)(xs:List D),U'[i]? = some (Slot.bN xs)->U[i]? = some (Slot.bN xs)/\b[i]? = a[i]?)/\
 (∀(i:Nat)(ys:List D),U'[i]? = some (Slot.dB true ys)->(∃xs,U[i]? = some (Slot.dB true xs))/\b[i]? = a[i]?)
def fg.refl(U:aM)(a:St):fg U U a a:=⟨λ_ _ h=>⟨h,rfl⟩,λ_ _ h=>⟨⟨_,h⟩,rfl⟩⟩
def fg.trans{v c d:St}(a:fg U C v c)(b:fg C o c d):fg U o v d:=⟨λi xs h=>⟨(a.1 i xs (b.1 i xs h).1).1,(b.1 i xs h).2.trans (a.1 i xs (b.1 i xs h).1).2⟩,λi ys h=>by
 obtain⟨⟨xs,e⟩,q⟩:=b.2 i ys h;obtain⟨z,f⟩:=a.2 i xs e;exact⟨z,q.trans f⟩⟩
def fg.put{U:aM}{s c:Slot}(b:U[i]? = some c)(g:∀xs,s≠.bN xs)(d:∀xs,s=.dB true xs->∃ys,c=.dB true ys):fg U (U.set i s) o o:=by
 have k:i<U.length:=(akd.mp b).1;have key:∀(j:Nat)(t:Slot),(U.set i s)[j]? = some t->(i=j/\t=s)\/(i≠j/\U[j]? = some t):=λj t h=>by
  by_cases a:i=j
  .subst a
   rw[akE k]at h;exact .inl ⟨rfl,(akI h).symm⟩
  .rw[akn a]at h
   exact .inr ⟨a,h⟩
 refine⟨λj xs h=>?_,λj ys h=>?_⟩
 .rcases key j _ h with⟨_,e⟩|⟨_,e⟩
  .exact absurd e.symm (g xs)
  .exact⟨e,rfl⟩
 .rcases key j _ h with⟨rfl,e⟩|⟨_,e⟩
  .obtain⟨l,f⟩:=d ys e.symm
   exact⟨⟨l,f▸b⟩,rfl⟩
  .exact⟨⟨_,e⟩,rfl⟩
def Be(K:aO)(mg:bp)(O:a8)(H:aw):R->V->Prop
 |.v d,v=>Rep K mg O H d v|.fr xs,v=>∃a ys,v=.ref a/\H a=some (.l ys)/\(O a=.dq\/∃i,O a=.loc i)/\bl K mg O H xs ys|_,_=>False
def nO(K:aO)(mg:bp)(O:a8)(U:aM)(c:bJ)(d:St)(H:aw)(U':aM)(N:St->aw->Prop):Prop:=
 ∀b a H',d7 O b H H'->cK K mg b U' c a H'->fg U U' d a->N a H'
def xD(K:aO)(mg:bp)(O:a8)(U:aM)(b:bJ)(d:St)(H:aw)(e:fc)(c:Ends):Prop:=match e with
 |.bw U'=>nO K mg O U b d H U' c.bw|.bk U'=>nO K mg O U b d H U' c.bk|.cm U'=>nO K mg O U b d H U' c.cm|.cn r=>∀a v H',d7 O a H H'->dg a H'->fW K mg a H' b->Be K mg a H' r v->c.cn v H'
def nO.bZ{O a:a8}{N:St->aw->Prop}(h:nO K mg O U o C H U' N)(g:d7 O a H H1)(k:fg U J C xk):nO K mg a J o xk H1 U' N:=
 λb c H' g' st d=>h b c H' (g.trans g') st (k.trans d)
def xD.bZ{O a:a8}(h:xD K mg O U C J H o ho)(g:d7 O a H H1)(k:fg U fb J xk):xD K mg a fb C xk H1 o ho:=by
 cases o with
 |bw U'=>exact nO.bZ h g k|bk U'=>exact nO.bZ h g k|cm U'=>exact nO.bZ h g k|cn r=>exact λb v H' g' d e r=>h b v H' (g.trans g') d e r
def ly(K:aO)(mg:bp)(m:aN):gu:=λd a H=>pn K mg m a H λO U c b=>xD K mg O U c a H b d
abbrev Gy(X:aT)(st:Stmt)(m:aN):Prop:=ih X st (ly X.K X.mg m)
abbrev um(X:aT)(a:List Stmt)(m:aN):Prop:=ij X a (ly X.K X.mg m)
def gL{s:Stmt}{t t':gu}(h:ih X s t)(i:∀D U H,t' D U H->t D U H):ih X s t':=λzn s U H D J q=>h zn s U H D J (i _ _ _ q)
def z3{s:List Stmt}{t t':gu}(h:ij X s t)(i:∀D U H,t' D U H->t D U H):ij X s t':=λzn s U H D J q=>h zn s U H D J (i _ _ _ q)
@[simp] def bT(U:aM):M fc:=pure (.bw U)
def x5:aN:=λ_=>pure (.cn (.v .aJ))
def nT:aN:=λ_=>bad
@[simp] def bO(a b:aN)(U:aM):M fc:=do
 let c <-a U
 match c with
 |.bw U'=>b U'|c=>pure c
@[simp] def a4(m:bx)(U:aM):M fc:=do
 let r <-m U
 match r with
 |.v d=>pure (.cn (.v d))|.fr xs=>pure (.cn (.fr xs))|_=>bad
@[simp] def x6(i:Nat)(U:aM):M fc:=match U[i]? with
 |some (.dB false xs)=>pure (.cn (.fr xs))|_=>bad
@[simp] def b3(t:aM->M Bool)(a b:aN)(U:aM):M fc:=do
 let t <-t U
 if t=true then a U else b U
@[simp] def b'(i:Nat)(m:bx)(U:aM):M fc:=do
 let r <-m U
 let d <-r.dat
 pure (.bw (U.set i (.v d)))
@[simp] def lQ(i:Nat)(m:bx)(U:aM):M fc:=do
 let r <-m U
 match r with
 |.fr xs=>pure (.bw (U.set i (.dB false xs)))|_=>bad
section
variable{st:Stmt}{a b:aN}{e:Expr}{m:bx}
theorem Ph{O:a8}{r:R}{v:V}(h:ew K mg O H r v)(c:(∃d,r=.v d)\/∃xs,r=.fr xs):Be K mg O H r v:=by
 rcases c with⟨d,rfl⟩|⟨xs,rfl⟩
 .exact h
 .obtain⟨a,ys,q,l,t,f⟩:=h;exact⟨a,ys,q,l,.inl t,f⟩
theorem cK.set{O:a8}{U:aM}{S:bJ}{d:St}{s:Slot}{v:V}(st:cK K mg O U S d H)(h:jn K mg O H (.loc i) s (some v)):cK K mg O (U.set i s) S (d.set i (some v)) H:=by
 refine⟨st.cv,by rw[akS,akS];exact st.len,λj t e=>?_,st.gn⟩
 by_cases c:i=j
 .subst c
  have hl:i<U.length:=by
   have:=(akd.mp e).1
   rwa[akS]at this
  rw[akE hl]at e;cases e;rw[akE (by rw[<-st.len];exact hl)];exact h
 .rw[akn c]at e
  rw[akn c];exact st.loc j t e
theorem fg.set{U:aM}{c:St}{s:Slot}{v:Option V}(ax:∀xs,s≠.bN xs)(f:∀xs,s≠.dB true xs:=by intro xs z;cases z):fg U (U.set i s) c (c.set i v):=by
 have key:∀(j:Nat)(t:Slot),(U.set i s)[j]? = some t->t≠s->U[j]? = some t/\(c.set i v)[j]? = c[j]?:=λj t h g=>by
  by_cases d:i=j
  .subst d
   have hl:i<U.length:=by
    have:=(akd.mp h).1
    rwa[akS]at this
   rw[akE hl]at h;exact absurd (akI h).symm g
  .rw[akn d]at h ⊢
   exact⟨h,rfl⟩
 refine⟨λj xs h=>key j _ h (λz=>ax xs z.symm),λj ys h=>?_⟩;obtain⟨a,b⟩:=key j _ h (λz=>f ys z.symm);exact⟨⟨ys,a⟩,b⟩
theorem cK.own{K:aO}{mg:bp}{O:a8}{U:aM}{S:bJ}{c:St}{H:aw}{i:Nat}{a:Addr}{xs:List D}{ys:List V}(st:cK K mg O U S c H)(k:O a=.dq)(hl:H a=some (.l ys))(f:bl K mg O H xs ys) :
  cK K mg (f_ O a (.loc i)) (U.set i (.dB false xs)) S (c.set i (some (.ref a))) H:=by
 have ne:∀{b:Addr}{w:Own},O b=w->w≠.dq->f_ O a (.loc i) b=w:=λ{b w} h hw=>by
  rw[oZ];exact h;rintro rfl;exact hw (h.symm.trans k)
 have c6:lF O (f_ O a (.loc i)):=⟨λb h=>ne h (by intro z;cases z),rfl⟩;have g:cK K mg (f_ O a (.loc i)) U S c H:=by
  refine⟨⟨λb d=>?_,st.cv.tabs,st.cv.cf.1,λb m=>ne (st.cv.cf.2 b m) (by intro z;cases z)⟩,st.len,λj s e=>(st.loc j s e).c6 c6 (λb h=>ne h (by intro z;cases z)) (λb h=>ne h (by intro z;cases z)),st.gn.all (λ_ _ z=>Rep.c6 c6 z) rfl λ_ _ _ l _=>l⟩
  by_cases e:b=a
  .rw[e,hl];intro z;cases z
  .rw[oZ e]at d;exact st.cv.has b d
 exact g.set ⟨a,ys,rfl,mx,hl,f.c6 c6⟩
theorem d7.dq{O:a8}{H:aw}{a:Addr}{w:Own}(c:O a=.dq):d7 O (f_ O a w) H H:=by
 refine⟨λb o e _ _=>e,λb h f=>?_,λ_ h=>h,λ_ ps h=>⟨ps,h⟩,id,rfl⟩;rw[oZ];rintro rfl;rw[c]at f;rcases f with z|z<;>cases z
theorem Pr{te:TE}(hi:∀U H Q,fN K mg m U H Q->te U H Q):∀D c H,ly K mg (b' i m) D c H->tZ te (kz i) D c H:=by
 rintro D c H ⟨O,U,S,s,u,st,h,q⟩;obtain⟨r,S1,k,h⟩:=M.inv h;obtain⟨d,t,l,h⟩:=M.inv h;cases h;refine hi c H _ ⟨O,U,S,r,S1,st,k,λg v f p j n nn=>?_⟩;obtain⟨c_,rfl⟩:=pC (H₀:=H) n nn l;exact q (cD H g) _ f p.cD.bZ ((j.cD H).set ⟨v,rfl,c_⟩) (fg.set λxs z=>by cases z)
theorem Ow{te:TE}(hi:∀U H Q,fN K mg m U H Q->te U H Q):∀D c H,ly K mg (lQ i m) D c H->tZ te (kz i) D c H:=by
 rintro D c H ⟨O,U,S,s,u,st,h,q⟩;obtain⟨r,S1,g,h⟩:=M.inv h;split at h
 .rename_i xs
  cases h;refine hi c H _ ⟨O,U,S,_,_,st,g,λp v d n f k nn=>?_⟩;obtain⟨a,ys,rfl,l,t,j⟩:=k;exact q _ _ d (n.bZ.trans (d7.dq t)) (f.own t l j) (fg.set λxs z=>by cases z)
 .cases h
end
@[simp] def I1(i:Nat)(f:List D->List R->M (R×List D))(ms:cZ)(U:aM):M (R×aM):=do
 let rs <-ms U
 match U[i]? with
 |some (.dB p xs)=>do
  let(r,ys) <-f xs rs
  pure (r,U.set i (.dB p ys))
 |_=>bad
@[simp] def qA(i:Nat)(f:List D->List R->M (R×List D))(ms:cZ)(U:aM):M fc:=do
 let(_,U') <-I1 i f ms U
 pure (.bw U')
def kQ(xs:List D):List R->M (R×List D)
 |[r]=>do
  let d <-r.dat
  hx (xs.length<aki)
  pure (.v .aJ,xs++[d])
 |_=>bad
def w6(xs:List D):List R->M (R×List D)
 |[r]=>match r.own with
  |some ys=>do
   hx (xs.length+ys.length<=aki)
   pure (.v .aJ,xs++ys)
  |none=>bad
 |_=>bad
section
variable{K:aO}{mg:bp}{O:a8}{H:aw}{l:Addr}{zs ws:List V}
mutual
theorem Rep.ea(b:O l≠.free)(hl:H l=some (.l zs)):∀{d:D}{v:V},Rep K mg O H d v->Rep K mg O (upd H l (.l ws)) d v
 |.aJ,_,h=>h|.ay _,_,h=>h|.int _,_,h=>h|.str _,_,h=>h|.t _,_,h=>by
  obtain⟨a,ys,q,t,r⟩:=h;refine⟨a,ys,q,?_,bl.ea b hl r⟩;rcases t with(t|⟨o,t⟩)|t
  .exact .inl (.inl (by rw[c2 (N5 t hl (by intro z;cases z))];exact t))
  .exact .inl (.inr ⟨o,by rw[c2 (N5 t hl (by intro z;cases z))];exact t⟩)
  .exact .inr t
 |.l _,_,h=>by
  obtain⟨a,ys,q,t,r⟩:=h;exact⟨a,ys,q,⟨by rw[c2 (by rintro rfl;exact b t.2)];exact t.1,t.2⟩,bl.ea b hl r⟩
 |.ref _,_,h=>h|.fn _,_,h=>h|.ty _,_,h=>h
theorem bl.ea(c:O l≠.free)(hl:H l=some (.l zs)):∀{ds:List D}{ys:List V},bl K mg O H ds ys->bl K mg O (upd H l (.l ws)) ds ys
 |[],_,h=>h| _::_,_,h=>by obtain⟨x,r,q,a,b⟩:=h;exact⟨x,r,q,Rep.ea c hl a,bl.ea c hl b⟩
end
def hP.ea(b:O l≠.free)(c:O l≠.out)(h:hP K O H a ys):hP K O (upd H l (.l ws)) a ys:=by
 rcases h with⟨h,f⟩|h
 .have ne:a≠l:=by rintro rfl;exact f.elim b c
  refine .inl ⟨?_,f⟩;rcases h with h|⟨o,h⟩
  .exact .inl (by rw[c2 ne];exact h)
  .exact .inr ⟨o,by rw[c2 ne];exact h⟩
 .exact .inr h
def jn.ea(b:O l≠.free)(c:O l≠.out)(hw:O l≠w)(hl:H l=some (.l zs)):∀{s:Slot}{u:Option V},jn K mg O H w s u->jn K mg O (upd H l (.l ws)) w s u
 |.e,_,_=>trivial| .v _,_,h=>by obtain⟨v,q,r⟩:=h;exact⟨v,q,r.ea b hl⟩
 |.dB _ _,_,h=>by obtain⟨a,ys,q,o,t,r⟩:=h;exact⟨a,ys,q,o,by rw[c2 (by rintro rfl;exact hw o)];exact t,r.ea b hl⟩
 |.bN _,_,h=>by obtain⟨a,ys,q,t,r⟩:=h;exact⟨a,ys,q,t.ea b c,r.ea b hl⟩
def dg.ea(d:dg O H)(hl:H l=some (.l zs)):dg O (upd H l (.l ws)):=⟨λa b=>by
 by_cases e:a=l
 .rw[e,d6];intro z;cases z
 .rw[c2 e];exact d.has a b,d.tabs.l hl _,d.cf⟩
def d7.ea(a:O l≠.free)(c:O l≠.out)(hl:H l=some (.l zs)):d7 O O H (upd H l (.l ws)):=by
 refine⟨λb o e h _=>?_,λ_ _ _=>rfl,λb h=>?_,λb ps e=>⟨ps,by rw[c2 (by rintro rfl;rw[hl]at e;cases e)];exact e⟩,λg=>g.l hl _,rfl⟩
 .rw[c2]
  .exact e
  .rintro rfl
   rcases h with h|h|⟨xs,h⟩|⟨_,_,h⟩
   .exact a h
   .exact c h
   .subst h;rw[e]at hl;cases hl
   .subst h;rw[e]at hl;cases hl
 .by_cases e:b=l
  .rw[e,d6];intro z;cases z
  .rw[c2 e];exact h
def fW.ea{S:bJ}(s:fW K mg O H S)(c:dg O H)(b:O l≠.free)(d:O l≠.out)(hl:H l=some (.l zs)):fW K mg O (upd H l (.l ws)) S:=
 s.all (λ_ _ z=>Rep.ea b hl z) rfl λa h u e _=>by rw[c2 (by rintro rfl;exact d (c.cf.2 _ h))];exact e
def cK.ea{U:aM}{S:bJ}{a:St}(st:cK K mg O U S a H)(hi:U[i]? = some (.dB p xs))(f:a[i]?.join=some (.ref l))(c:O l=.loc i)(hl:H l=some (.l zs))(d:bl K mg O H ys ws) :
  cK K mg O (U.set i (.dB p ys)) S a (upd H l (.l ws)):=by
 have ne:∀w:Own,w≠.loc i->O l≠w:=λw hw z=>hw (z.symm.trans c)
 refine⟨st.cv.ea hl,by rw[akS];exact st.len,λj t e=>?_,st.gn.ea st.cv (ne _ (by intro z;cases z)) (ne _ (by intro z;cases z)) hl⟩
 by_cases b:i=j
 .subst b
  have g:i<U.length:=(akd.mp hi).1;rw[akE g]at e;cases e;exact⟨l,ws,f,c,d6,d.ea (ne _ (by intro z;cases z)) hl⟩
 .rw[akn b]at e
  exact(st.loc j t e).ea (ne _ (by intro z;cases z)) (ne _ (by intro z;cases z)) (ne _ (by intro z;cases z;exact b rfl)) hl
end
def rQ(K:aO)(mg:bp)(r:V->List V->aw->cU->Prop)(f:List D->List R->M (R×List D)):Prop:=
 ∀O H H₀ l xs zs rs vs S o C ys (Q:cU),H l=some (.l zs)->bl K mg O H xs zs->i6 K mg O H rs vs->kq H₀ rs vs->(f xs rs).run S=.ok (C,ys) o->
  (∀v a,S=o->bl K mg (cD H₀ O) H ys a->(∃d,C=.v d/\Rep K mg (cD H₀ O) H d v)->Q v (upd H l (.l a)))->r (.ref l) vs H Q
section
variable{K:aO}{mg:bp}
def vE:rQ K mg O3 kQ:=λO H H₀ l xs j rs vs S m n ys Q hl a e b h q=>by
 unfold kQ at h;split at h
 .rename_i r
  obtain⟨v,rfl,i⟩:=kM e;obtain⟨d,S1,f,h⟩:=M.inv h;obtain⟨_,k,g,h⟩:=M.inv h;obtain⟨c,rfl⟩:=qD g;obtain⟨c_,rfl⟩:=pC (H₀:=H₀) i b.1 f;cases h;exact⟨l,j,v,rfl,rfl,hl,by rw[a.len];exact c,q .aJ _ rfl ((a.c6 (i_ _ _)).append (.one c_)) ⟨.aJ,rfl,rfl⟩⟩
 .cases h
def ZT:rQ K mg O6 w6:=λO H H₀ l xs m rs vs S s t ys Q hl a f n h q=>by
 unfold w6 at h;split at h
 .rename_i r
  obtain⟨v,rfl,j⟩:=kM f;split at h
  .rename_i us e
   obtain⟨_,p,g,h⟩:=M.inv h;obtain⟨c,rfl⟩:=qD g;cases h;obtain⟨b,k,rfl,i,d⟩:=R.E8 j e;exact⟨l,b,m,k,rfl,rfl,hl,i,by rw[a.len,d.len];exact c,q .aJ _ rfl ((a.append d).c6 (i_ _ _)) ⟨.aJ,rfl,rfl⟩⟩
  .cases h
 .cases h
variable{f:List D->List R->M (R×List D)}{r:V->List V->aw->cU->Prop}{ms:cZ}{i:Nat}
def aab(P:rQ K mg r f){O:a8}{U U':aM}{S m:bJ}{b:St}{H:aw}{n:R}{Q:cU}(st:cK K mg O U S b H)(h:(I1 i f ms U).run S=.ok (n,U') m)
  (q:∀k v H',d7 O k H H'->cK K mg k U' m b H'->fg U U' b b->(∃d,n=.v d/\Rep K mg k H' d v)->Q v H') :
  ∃v,b[i]? = some (some v)/\Ay K "list" v H/\oU K mg ms b H λvs A=>r v vs A Q:=by
 obtain⟨rs,S1,E,h⟩:=M.inv h
 cases e:U[i]? with
 |none=>rw[e]at h;cases h
 |some s=>
  rw[e]at h
  cases s with
  |e=>cases h
  |v _=>cases h
  |bN _=>cases h
  |dB p xs=>
   obtain⟨⟨X,ys⟩,W,F,h⟩:=M.inv h;cases h;obtain⟨a,V,av,aE,cJ,eJ⟩:=st.loc i _ e;have t:b[i]? = some (some (.ref a)):=by
    cases w:b[i]? with
    |none=>rw[w]at av;cases av
    |some y=>rw[w]at av;exact congrArg some av
   refine⟨.ref a,t,.inl ⟨rfl,_,dr.of cJ⟩,O,U,S,rs,S1,st,E,λc vs x g B L nn=>?_⟩;have j:=g.same.at' _ _ cJ;have l:H a≠none:=by rw[cJ];intro z;cases z
   have T:c a=.loc i:=(g.own a l).trans aE;refine P c x H a xs V rs vs S1 _ _ ys Q j (eJ.go g) L nn F λv Z G I D=>?_
   obtain⟨d,N,c_⟩:=D;subst G;have u:cD H c a=.loc i:=by rw[CW l];exact T
   have no:∀w:Own,w≠.loc i->cD H c a≠w:=λw hw z=>hw (z.symm.trans u)
   refine q (cD H c) v _ (g.cD.bZ.trans (d7.ea (no _ (by intro z;cases z)) (no _ (by intro z;cases z)) j)) ((B.cD H).ea e (by rw[t];rfl) u j I) ?_ ⟨d,N,c_.ea (no _ (by intro z;cases z)) j⟩;have Y:i<U.length:=(akd.mp e).1;exact fg.put e (λxs z=>by cases z) (λ_ z=>by cases z;exact⟨xs,rfl⟩)
end
def xw(b:ie)(O:a8)(H:aw)(ys:List V):Prop:=∀c a,d7 O c H a->∀i,(i<ys.length->b.go i a/\∀x H',b.o' i a x H'->H'=a/\ys[i]? = some x)/\(ys.length<=i->b.stop i a)
abbrev fP:=aM->M (List D)
def t5(K:aO)(mg:bp)(m:fP):TI:=λb H R=>pn K mg m b H λO U d xs=>∀a H' c ys,Go O a H H'->cK K mg a U d b H'->xv c H' ys->bl K mg a H' xs ys->R c H'
def Ap(K:aO)(mg:bp)(m:fP):TI:=λb H R=>pn K mg m b H λO U d xs=>∀a H' c ys,Go O a H H'->cK K mg a U d b H'->xw c a H' ys->bl K mg a H' xs ys->R c H'
abbrev Gw(X:aT)(cg a:Expr)(m:fP):Prop:=jT X cg a (t5 X.K X.mg m)
abbrev QC(X:aT)(cg a:Expr)(m:fP):Prop:=jT X cg a (Ap X.K X.mg m)
def oK{cg e:Expr}{t t':TI}(h:jT X cg e t)(i:∀U H Q,t' U H Q->t U H Q):jT X cg e t':=λzn s U H Q J q=>h zn s U H Q J (i _ _ _ q)
def d7.Ae{O b:a8}(g:d7 O b H H')(h:dy K H a ys):dy K H' a ys:=by
 rcases h with(h|⟨o,h⟩)|h
 .exact .inl (.inl (g.cells _ _ h (.inr (.inr (.inl ⟨_,rfl⟩)))))
 .exact .inl (.inr ⟨o,g.cells _ _ h (.inr (.inr (.inr ⟨_,_,rfl⟩)))⟩)
 .exact .inr h
def d7.ZF{O b:a8}(g:d7 O b H H')(h:hP K O H a ys):hP K b H' a ys:=by
 rcases h with⟨h,f⟩|h
 .refine .inl ⟨?_,by rw[g.own a (hr.some h) f];exact f⟩
  rcases h with h|⟨o,h⟩
  .exact .inl (g.cells _ _ h (f.elim .inl λz=>.inr (.inl z)))
  .exact .inr ⟨o,g.cells _ _ h (f.elim .inl λz=>.inr (.inl z))⟩
 .exact .inr h
@[simp] def la(m:bx)(U:aM):M (List D):=do
 let r <-m U
 match r with
 |.v (.t xs)=>pure xs|_=>bad
@[simp] def sG(m:bx)(U:aM):M (List D):=do
 let r <-m U
 match r with
 |.v (.l xs)=>pure xs|.fr xs=>pure xs|.bN xs=>pure xs|_=>bad
@[simp] def nf(m:bx)(U:aM):M (List D):=do
 let r <-m U
 match r.fu with
 |some xs=>pure xs|none=>bad
def dH(lo:Int)(n:Nat):List D:=(akG n).map λi=>D.int (lo+(i:Nat))
omit [aB.a5]in
theorem oN(lo:Int)(n:Nat):(dH lo n).length=n:=by unfold dH;rw[akh,alu]
@[simp] def h2(m:cZ)(U:aM):M (List D):=do
 let rs <-m U
 match rs with
 |[.v (.int j)]=>if -(2 ^ 62)<=j/\j<2 ^ 62 then pure (dH 0 j.toNat)else bad|_=>bad
@[simp] def DR(m:cZ)(U:aM):M (List D):=do
 let rs <-m U
 match rs with
 |[.v (.int i),.v (.int j)]=>if -(2 ^ 62)<=i/\i<2 ^ 62/\-(2 ^ 62)<=j/\j<2 ^ 62 then pure (dH i (j-i).toNat)else bad|_=>bad
def FA{O:a8}(lo:Int)(n:Nat):bl K mg O H (dH lo n) (mn lo n):=by
 unfold dH mn
 induction(akG n)with
 |nil=>rfl|cons a r b=>exact⟨.int (lo+a),_,rfl,rfl,b⟩
def Yy{O:a8}(lo:Int)(n:Nat):xw (mL lo n) O H (mn lo n):=λb a _ i=>DY (H:=a) lo n a (eC.refl _) i
section
variable{a:Expr}{ms:cZ}
def Pl:(∀b H R,Ap K mg (h2 ms) b H R->DS (oU K mg ms) b H R)/\(∀b H R,t5 K mg (h2 ms) b H R->DS (oU K mg ms) b H R):=by
 constructor<;>
 .rintro b H R ⟨O,U,S,xs,m,st,h,q⟩
  obtain⟨rs,S1,g,h⟩:=M.inv h;split at h
  .rename_i j
   by_cases c:-(2 ^ 62)<=j/\j<2 ^ 62
   .rw[if_pos c]at h
    cases h;refine⟨O,U,S,_,_,st,g,λe vs d l f k nn=>?_⟩;obtain⟨v,rfl,i⟩:=kM k;cases(show v=.int j from i);exact⟨j,rfl,c.1,c.2,q e d (mL 0 j.toNat) (mn 0 j.toNat) l f (by first|exact Yy _ _|exact DY _ _) (FA _ _)⟩
   .rw[if_neg c]at h;cases h
  .cases h
def DX{K:aO}{O:a8}{H:aw}{a:Addr}{xs:List V}(h:hP K O H a xs):xw (ph K a) O H xs:=λc b g i=>MU (g.ZF h).cP b (eC.refl _) i
def YB{K:aO}{O:a8}{H:aw}{a:Addr}{xs:List V}(h:dy K H a xs):xw (rT K a) O H xs:=λc b g i=>MW (g.Ae h) b (eC.refl _) i
end
def kx(b:D->aN):List D->aN
 |[]=>λU=>pure (.bw U)
 |d::ds=>λU=>do
  let a <-b d U
  match a with
  |.bw U'=>kx b ds U'|.cm U'=>kx b ds U'|.bk U'=>pure (.bw U')|.cn r=>pure (.cn r)
@[simp] def jZ(i:Nat)(it:fP)(b:aN)(U:aM):M fc:=do
 let ds <-it U
 kx (λd U=>b (U.set i (.v d))) ds U
def rL(c:aM->M Bool)(b:aN):Nat->aN
 |0=>λ_=>bad
 |n+1=>λU=>do
  let t <-c U
  if t=true then do
   let a <-b U
   match a with
   |.bw U'=>rL c b n U'|.cm U'=>rL c b n U'|.bk U'=>pure (.bw U')|.cn r=>pure (.cn r)
  else pure (.bw U)
@[irreducible] def o3:Nat:=2 ^ 24
def uQ(c:aM->M Bool)(b:aN):aN:=rL c b o3
def cK.val{O:a8}{U:aM}{S:bJ}{a:St}{v:V}(st:cK K mg O U S a H)(h:Rep K mg O H d v):cK K mg O (U.set i (.v d)) S (a.set i (some v)) H:=st.set ⟨v,rfl,h⟩
def bl.bZ{O e:a8}(g:d7 O e H H'):∀{ds:List D}{ys:List V},bl K mg O H ds ys->bl K mg e H' ds ys:=by
 have rep:∀(d:D)(v:V),Rep K mg O H d v->Rep K mg e H' d v:=by
  intro d
  induction d using D.rec (motive_2:=λds=>∀ys,bl K mg O H ds ys->bl K mg e H' ds ys)with
  |aJ=>exact λv h=>h
  |ay _=>exact λv h=>h
  |int _=>exact λv h=>h
  |str _=>exact λv h=>h
  |fn _=>exact λv h=>h
  |ty _=>exact λv h=>h
  |ref n=>exact λv ⟨a,q,l⟩=>⟨a,q,by rw[g.bI];exact l⟩
  |t xs c=>exact λv ⟨a,ys,q,l,r⟩=>⟨a,ys,q,g.Ae l,c ys r⟩
  |l xs c=>exact λv ⟨a,ys,q,l,r⟩=>⟨a,ys,q,⟨g.cells _ _ l.1 (.inl l.2),by rw[g.own a (by rw[l.1];intro z;cases z) (.inl l.2)];exact l.2⟩,c ys r⟩
  |nil=>assumption|cons x xs f i=>
   rename_i j hz;obtain⟨y,r,q,a,b⟩:=hz;exact⟨y,r,q,f y a,i r b⟩
 intro ds
 induction ds with
 |nil=>exact λh=>h
 |cons x xs c=>rintro ys ⟨y,r,q,a,b⟩;exact⟨y,r,q,rep x y a,c b⟩
section
variable{it:fP}{i:Nat}{b:aN}{x:Str}{t:aM->M Bool}
def bl.get'{O:a8}{ds:List D}{ys:List V}(h:bl K mg O H ds ys)(e:ds.drop k=d::o):∃y,ys[k]? = some y/\Rep K mg O H d y/\ds.drop (k+1)=o:=by
 have av:ds[k]? = some d:=by
  have:=congrArg (·[0]?) e;simpa using this
 obtain⟨y,q,r⟩:=h.get av;refine⟨y,q,r,?_⟩;have:=congrArg (List.drop 1) e;simpa[anS]using this
theorem Us{G:iM}{B:aF.D->aN}(pM:∀O U S l H d y f g Q,cK K mg O U S l H->Rep K mg O H d y->(B d U).run S=.ok f g->(∀u A,cK K mg O u S A H->fg U u l A->(b u).run S=.ok f g->Q A H)->G y l H Q) :
  ∀D l H,ly K mg (λU=>do
   let ds <-it U
   kx B ds U) D l H->w0 (Ap K mg it) G (ly K mg b) D l H:=by
 rintro D l H ⟨O,U,S,N,P,st,h,q⟩;obtain⟨ds,S1,C,h⟩:=M.inv h;refine⟨O,U,S,ds,S1,st,C,λE L cu ys I Z its R=>?_⟩;refine⟨λk m w H'=>m=ys.length-k/\k<=ys.length/\∃n U' z,cK K mg n U' z w H'/\d7 E n L H'/\fg U U' l w/\(kx B (ds.drop k) U').run z=.ok N P,
  ⟨_,rfl,akY _,E,U,S1,Z,d7.refl _ _,fg.refl _ _,h⟩,?_⟩
 rintro k m w H' ⟨rfl,au,n,U',z,V,g',kp,h⟩
 cases e:ds.drop k with
 |nil=>
  have hl:ys.length<=k:=by
   have:=congrArg al0 e;rw[alj,alz]at this;rw[R.len];omega
  rw[e]at h;cases h;exact .inl ⟨(its n H' g' k).2 hl,q n w H' (I.bZ.trans g') V kp⟩
 |cons d hA=>
  obtain⟨y,Y,b7,T⟩:=(bl.bZ g' R).get' e;have W:k<ys.length:=(akd.mp Y).1;obtain⟨go,mB⟩:=(its n H' g' k).1 W;rw[e]at h;obtain⟨X,g,J,h⟩:=M.inv h;refine .inr ⟨go,λp c=>∃a j g,cK K mg a j g p c/\d7 E a L c/\fg U j l p/\(kx B (ds.drop (k+1)) j).run g=.ok N P,?_,λx c kT=>?_⟩
  .rintro p c ⟨a,j,g,a1,a2,eW,iN⟩
   exact⟨_,by omega,rfl,W,a,j,g,a1,a2,eW,iN⟩
  .obtain⟨rfl,ex⟩:=mB x c kT
   rw[Y]at ex;cases ex;refine pM _ _ _ _ _ _ _ _ _ _ V b7 J λu A rE F o=>?_
   refine⟨n,u,z,X,g,rE,o,?_⟩
   cases X with
   |bw j=>exact λa p c s bL dW=>⟨a,j,g,bL,g'.trans s,kp.trans (F.trans dW),by rw[T];exact h⟩
   |cm j=>exact λa p c s bL dW=>⟨a,j,g,bL,g'.trans s,kp.trans (F.trans dW),by rw[T];exact h⟩
   |bk j=>cases h;exact λa p c s bL dW=>q a p c (I.bZ.trans (g'.trans s)) bL (kp.trans (F.trans dW))
   |cn r=>cases h;exact λa v c s c8 aE bG=>q a v c (I.bZ.trans (g'.trans s)) c8 aE bG
def Uu:∀D a H,ly K mg (jZ i it b) D a H->w0 (Ap K mg it) (kz i) (ly K mg b) D a H:=
 Us (B:=λd U=>b (U.set i (.v d))) λ_ _ _ _ _ _ _ _ _ _ st c h k=>k _ _ (st.val c) (fg.set λxs z=>by cases z) h
def agC:∀D k H,ly K mg (uQ t b) D k H->F1 (lz K mg t) (ly K mg b) D k H:=by
 rintro D k H ⟨O,U,S,y,A,st,h,q⟩;refine⟨λm s H'=>∃p U' u,cK K mg p U' u s H'/\d7 O p H H'/\fg U U' k s/\(rL t b m U').run u=.ok y A,⟨o3,O,U,S,st,d7.refl _ _,fg.refl _ _,h⟩,?_⟩;rintro m s H' ⟨p,U',u,N,g',kp,h⟩
 cases m with
 |zero=>cases h
 |succ n=>
  obtain⟨tt,S1,F,h⟩:=M.inv h;refine⟨p,U',u,tt,S1,N,F,λw E l z=>?_⟩
  cases tt with
  |false=>
   rw[if_neg akl]at h;cases h;exact og (q w s E (g'.trans l.bZ) z kp)
  |true=>
   rw[if_pos rfl]at h;obtain⟨B,f,G,h⟩:=M.inv h;refine oh ⟨λg e=>∃c d f,cK K mg c d f g e/\d7 O c H e/\fg U d k g/\(rL t b n d).run f=.ok y A,?_,w,U',S1,B,f,z,G,?_⟩
   .rintro g e ⟨c,d,f,a⟩
    exact⟨n,ano _,c,d,f,a⟩
   .cases B with
    |bw d=>exact λc g e j bL dW=>⟨c,d,f,bL,g'.trans (l.bZ.trans j),kp.trans dW,h⟩
    |cm d=>exact λc g e j bL dW=>⟨c,d,f,bL,g'.trans (l.bZ.trans j),kp.trans dW,h⟩
    |bk d=>cases h;exact λc g e j bL dW=>q c g e (g'.trans (l.bZ.trans j)) bL (kp.trans dW)
    |cn r=>cases h;exact λc v e j L aE I=>q c v e (g'.trans (l.bZ.trans j)) L aE I
end
def gk(t:aM->M Bool)(el:bx)(U:aM):List D->M (List D)
 |[]=>pure []|d::ds=>do
  let b <-t (U.set 0 (.v d))
  if b=true then do
   let r <-el (U.set 0 (.v d))
   let x <-r.dat
   let xs <-gk t el U ds
   pure (x::xs)
  else gk t el U ds
def qG:Option Slot->Slot
 |some (.v d)=>.v d|some (.dB _ xs)=>.bN xs|some (.bN xs)=>.bN xs|_=>.e
def hy(n:Nat)(cap:List Nat)(U:aM):aM:=akW n .e++cap.map λk=>qG U[k]?
@[simp] def eX(n:Nat)(cap:List Nat)(it:fP)(t:aM->M Bool)(el:bx)(U:aM):M R:=do
 let ds <-it U
 hx (ds.length<aki)
 let xs <-gk t el (hy n cap U) ds
 pure (.fr xs)
def fx:aM->M Bool:=λ_=>pure true
abbrev A4(X:aT)(a:List Expr)(t:aM->M Bool):Prop:=rX X a (lz X.K X.mg t)
def Own.d4:Own->Own
 |.loc _=>.out|.dq=>.out|o=>o
def d4(O:a8):a8:=⟨λb=>(O b).d4,O.bI⟩
def uK(O:a8)(b:Addr):d4 O b=(O b).d4:=rfl
def IT{O:a8}(d:dg O H):jm (d4 O):=⟨d.cf.1,λa h=>by rw[uK,d.cf.2 a h];rfl⟩
def nS{O:a8}:d4 O b=.free↔O b=.free:=by rw[uK];cases O b<;>simp[Own.d4]
def k2(O:a8)(b:Addr):d4 O b=.free\/d4 O b=.out:=by rw[uK];cases O b<;>simp[Own.d4]
def jX(O:a8):lF O (d4 O):=⟨λ_ h=>nS.mpr h,rfl⟩
def hP.d4{O:a8}(h:hP K O H a ys):hP K (d4 O) H a ys:=by
 rcases h with⟨h,f⟩|h
 .refine .inl ⟨h,?_⟩
  rcases f with f|f
  .exact .inl (nS.mpr f)
  .exact .inr (by rw[uK,f];rfl)
 .exact .inr h
def cK.d4{O:a8}{S:bJ}(st:cK K mg O U S J H)(n:Nat)(cap:List Nat):cK K mg (d4 O) (hy n cap U) S (fY n cap J) H:=by
 refine⟨⟨λa f=>st.cv.has a λz=>f (nS.mpr z),st.cv.tabs,IT st.cv⟩,?_,λi s e=>?_,st.gn.all (λ_ _ z=>Rep.c6 (jX O) z) rfl λ_ _ _ l _=>l⟩
 .unfold hy fY
  rw[akg,akg,ak8,ak8,akh,akh]
 .unfold hy at e
  unfold fY
  by_cases hi:i<n
  .rw[akD (by simpa using hi),alO,if_pos hi]at e
   cases e;exact trivial
  .rw[akz (by simpa using hi),ak8,akA]at e
   rw[akz (by simpa using hi),ak8,akA]
   cases hS:cap[i-n]? with
   |none=>rw[hS]at e;cases e
   |some k=>
    rw[hS]at e;have b:qG U[k]? = s:=akI e;show jn K mg _ H _ s (some (J[k]?.join)).join
    cases C:U[k]? with
    |none=>rw[C]at b;subst b;exact trivial|some c=>
     rw[C]at b;have l:=st.loc k c C
     cases c with
     |e=>subst b;exact trivial|v d=>subst b;obtain⟨v,q,r⟩:=l;exact⟨v,q,r.c6 (jX O)⟩
     |bN xs=>subst b;obtain⟨a,ys,q,l,r⟩:=l;exact⟨a,ys,q,l.d4,r.c6 (jX O)⟩
     |dB p xs=>subst b;obtain⟨a,ys,q,o,l,r⟩:=l;exact⟨a,ys,q,.inl ⟨.inl l,.inr (by rw[uK,o];rfl)⟩,r.c6 (jX O)⟩
def cK.t9{O:a8}{H:aw}{S:bJ}(st:cK K mg O U S o H)(a:O l=.dq)(hl:H l=some (.l zs)):cK K mg O U S o (upd H l (.l ws)):=by
 have ne:∀w:Own,w≠.dq->O l≠w:=λw hw z=>hw (z.symm.trans a)
 exact⟨st.cv.ea hl,st.len,λj t e=>(st.loc j t e).ea (ne _ (by intro z;cases z)) (ne _ (by intro z;cases z)) (ne _ (by intro z;cases z)) hl,st.gn.ea st.cv (ne _ (by intro z;cases z)) (ne _ (by intro z;cases z)) hl⟩
section
variable{K:aO}{mg:bp}{n:Nat}{cap:List Nat}{it:fP}{t:aM->M Bool}{el:bx}
def nh{α:Type}(put:α->Option aM)(t:aM->M Bool)(el:bx):List α->M (List D)
 |[]=>pure []|d::ds=>match put d with
  |none=>bad|some U=>do
   let b <-t U
   if b=true then do
    let r <-el U
    let x <-r.dat
    let xs <-nh put t el ds
    pure (x::xs)
   else nh put t el ds
omit [aB.a5]in
theorem M1(U:aM):∀ds:List D,gk t el U ds=nh (λd=>some (U.set 0 (.v d))) t el ds
 |[]=>rfl| d::ds=>by unfold gk nh;rw[M1 U ds]
inductive CompI{α:Type}(K:aO)(mg:bp)(n:Nat)(cap:List Nat)(L:Nat->M (List aF.D))(aG:a8)(U:aM)(S1:bJ)(aq:St)(H1:aw)(A:Addr)(xs:List aF.D)(k:Nat)(zs:List V)(H':aw):Prop
 |mk (ak:a8) (acc o9:List aF.D) (cp:cK K mg ak (hy n cap U) S1 (fY n cap aq) H') (g':Go (d4 aG) ak H1 H') (oT:ak A=.dq) (dz:H' A=some (.l zs)) (hz:zs.length<=k)
   (kj:bl K mg ak H' acc zs) (h:(L k).run S1=.ok o9 S1) (ex:acc++o9=xs)
def Jd{α:Type}{put:α->Option aM}{c:List α}{i:a8}{U:aM}{S1 N:bJ}{p:St}{g:aw}{P:ie}{G:iM}{xs:List aF.D}{Q:cU}(u:cK K mg i U S1 p g)(hlen:c.length<aki)
  (stop:∀H',eC g H'->P.stop c.length H')
  (step:∀k d s f H',c[k]? = some d->put d=some s->Go (d4 i) f g H'->cK K mg f (hy n cap U) S1 (fY n cap p) H'->P.go k H'/\∀x L (R:St->aw->Prop),P.o' k H' x L->
   (∀S O,Go f f H' O->cK K mg f s S1 S O->mK (fY n cap p) S->R S O)->G x (fY n cap p) L R)
  (bD:(nh put t el c).run S1=.ok xs N) (q:∀f v H',Go i f g H'->cK K mg f U N p H'->ew K mg f H' (.fr xs) v->jl g (.fr xs) v->Q v H') :
  ∀D,g D=none->Cn P (fY n cap p) G (lz K mg t) (fN K mg el) D g Q:=by
 intro D H;obtain rfl:=(nh put t el c).e_ _ _ _ bD;have iB:cK K mg (f_ (d4 i) D .dq) (hy n cap U) N (fY n cap p) (upd g D (.l [])):=(u.d4 n cap).new H;refine⟨λk m V H'=>m=c.length-k/\k<=c.length/\CompI (α:=α) K mg n cap (λk=>nh put t el (c.drop k)) i U N p g D xs k V H',
  ⟨_,rfl,akY _,_,[],xs,iB,Go.new H,mx,d6,akk _,rfl,bD,rfl⟩,?_⟩
 rintro k m V H' ⟨rfl,au,f,acc,o9,E,g',J,F,hz,C,h,ex⟩
 cases e:c.drop k with
 |nil=>
  obtain rfl:k=c.length:=by
   have:=congrArg al0 e;rw[alj,alz]at this;omega
  rw[e]at h;cases h;rw[alx]at ex;subst ex;refine .inl ⟨stop H' g'.same,?_⟩
  let A:a8:=⟨λb=>match g b with|none=>f b|some _=>i b,i.bI⟩
  have X:∀b,g b≠none->A b=i b:=λb j=>by
   show(match g b with|none=>f b|some _=>i b)=i b
   cases e:g b with
   |none=>exact absurd e j|some _=>rfl
  have W:∀b,g b=none->A b=f b:=λb j=>by
   show(match g b with|none=>f b|some _=>i b)=f b;rw[j]
  have c6:lF f A:=⟨λb j=>by
    by_cases w:g b=none
    .rw[W b w];exact j
    .rw[X b w];exact nS.mp ((g'.own b w).symm.trans j),g'.bI.symm⟩
  have go:Go i A g H':=⟨g'.same,X,rfl⟩;have cv:dg A H':=⟨λb j=>by
   by_cases w:g b=none
   .rw[W b w]at j;exact E.cv.has b j
   .exact g'.same.some w,E.cv.tabs,u.cv.cf.1,λb m=>(X b (u.cv.has b (by rw[u.cv.cf.2 b m];intro z;cases z))).trans (u.cv.cf.2 b m)⟩
  refine q A (.ref D) H' go (u.go go cv) ⟨D,V,rfl,F,(W D H).trans J,C.c6 c6⟩ λa dh=>?_
  cases dh;exact H
 |cons d hA=>
  have eL:k<c.length:=by
   have:=congrArg al0 e;rw[alj,akO]at this;omega
  have eS:c[k]? = some d:=by
   have:=congrArg (·[0]?) e;simpa using this
  have bC:c.drop (k+1)=hA:=by
   have:=congrArg (List.drop 1) e;simpa[anS]using this
  rw[e]at h;unfold nh at h
  cases ct:put d with
  |none=>rw[ct]at h;cases h
  |some s=>
  rw[ct]at h;dsimp only at h;obtain⟨b,aZ,ah,h⟩:=M.inv h;obtain rfl:=(t s).e_ _ _ _ ah;obtain⟨go,mB⟩:=step k d s f H' eS ct g' E;refine .inr ⟨go,λx L kT=>mB x L _ kT λS O kA rE yl=>⟨yl,f,s,aZ,b,aZ,rE,ah,λY y g2 bL=>?_⟩⟩;have B:Go f Y H' y:=kA.trans g2
  cases b with
  |false=>
   rw[if_neg akl]at h;exact og ⟨c.length-(k+1),by omega,rfl,eL,Y,acc,o9,E.go B bL.cv,g'.trans B,(B.own D (by rw[F];intro z;cases z)).trans J,B.same.at' _ _ F,by omega,C.go B,by rw[bC];exact h,ex⟩
  |true=>
   rw[if_pos rfl]at h;obtain⟨r,r1,cM,h⟩:=M.inv h;obtain rfl:=(el s).e_ _ _ _ cM;obtain⟨x,uA,eK,h⟩:=M.inv h;obtain rfl:=r.dat.e_ _ _ _ eK;obtain⟨AU,QW,fZ,h⟩:=M.inv h;cases h;refine oh ⟨Y,_,_,r,_,bL,cM,λZ v jj g3 g0 bt nn=>?_⟩;obtain⟨a',_⟩:=pC (H₀:=y) bt nn eK;have I:Go f (cD y Z) H' jj:=B.trans g3.cD;have T:jj D=some (.l V):=I.same.at' _ _ F;have rF:cD y Z D=.dq:=(I.own D (by rw[F];intro z;cases z)).trans J;have o:=g'.trans I;exact⟨T,by omega,c.length-(k+1),by omega,rfl,eL,cD y Z,acc++[x],AU,(E.go I (g0.cD y).cv).t9 rF T,⟨t_ H o.same T _,o.own,o.bI⟩,rF,d6,
    by rw[akg,alv];omega,((C.go I).append (.one a')).ea (by rw[rF];intro z;cases z) T,by rw[bC];exact fZ,by rw[amL];exact ex⟩
def Cm(p:0<n):∀b H Q,fN K mg (eX n cap it t el) b H Q->t2 n cap (t5 K mg it) (kz 0) (lz K mg t) (fN K mg el) b H Q:=by
 rintro b H Q ⟨O,U,S,r,T,st,h,q⟩;obtain⟨ds,S1,A,h⟩:=M.inv h;obtain⟨_,P,B,h⟩:=M.inv h;obtain⟨a,rfl⟩:=qD B;obtain⟨xs,W,i,h⟩:=M.inv h;cases h;rw[M1]at i;refine⟨O,U,S,ds,S1,st,A,λu N V ys m z its f=>Jd z a (λH' s=>(its H' s _).2 (am4 f.len)) (λk d X e H' F ct g' c=>?_) i λe v H' g c E nn=>q e v H' (m.trans g) c E (nn.back m.same)⟩;cases ct;obtain⟨y,l,D⟩:=(bl.go g' (f.c6 (jX u))).get F;obtain⟨go,L⟩:=(its H' g'.same k).1 (akd.mp l).1;refine⟨go,λx w R I G=>?_⟩;obtain⟨rfl,ex⟩:=L x w I;rw[l]at ex;cases ex;exact G _ _ (Go.refl _ _) (c.val D) ((mK.refl _).set (by cases n with|zero=>exact absurd p (ak6 _)|succ j=>rfl))
end
section
variable{X:aT}{scope esc:Scope}{EN N:List Str}{n:Nat}{cap:List Nat}{elt iter:Expr}{ifs:List Expr}{pos fy:Pos}{x:Str}{it:fP}{t:aM->M Bool}{el:bx}
def G0{i:Nat}{y:Str}{py c:Pos}(S:kW esc scope EN N n cap)(m:X.N.Nodup)(k:X.N[i]? = some y)(d:X.env.scope.names.lookup y=some .local)(p:0<n)(hi:Gw X (.Name x fy) iter it)(e:N[0]? = some x)(b:∀C a s H,Loc (cI X scope N C a s H).env.scope x/\(cI X scope N C a s H).env.scope.names.lookup x=some .local)
  (f:∀C a s H,A4 (cI X scope N C a s H) ifs t) (h:∀C a s H,gO (cI X scope N C a s H) elt el)
  (he:X.env.scope=esc:=by rfl) (hN:X.N=EN:=by rfl) (j:X.calm=true:=by rfl) (ax:∀x,alf iter X.env x=pure x:=by intro _;rfl)
  (l:alW (.ListComp elt [⟨.Name x fy,iter,ifs,0⟩] scope pos) (some (.Name y py)) c.line X.env=pure true:=by rfl) :
  ih X (.Assign [.Name y py] (.ListComp elt [⟨.Name x fy,iter,ifs,0⟩] scope pos) c) (tZ (t2 n cap (t5 X.K X.mg it) (kz 0) (lz X.K X.mg t) (fN X.K X.mg el)) (kz i)):=
 adF (wi:=t5 X.K X.mg it) (g:=kz 0) (tt:=lz X.K X.mg t) (te:=fN X.K X.mg el) S m k d hi (λC a s H=>tJ S.fM e (b C a s H).1 (.inr (b C a s H).2)) f h he hN j ax l
end
abbrev bq:=List D->M R
def ui(K:aO)(mg:bp)(O:a8)(H:aw):D->V->Prop
 |.l xs,v=>∃a ys,v=.ref a/\dr K H a ys/\bl K mg O H xs ys|d,v=>Rep K mg O H d v
def lD(K:aO)(mg:bp)(O:a8)(H:aw):List D->List V->Prop
 |[],ys=>ys=[]|x::xs,ys=>∃y r,ys=y::r/\ui K mg O H x y/\lD K mg O H xs r
def b8:D->Slot
 |.l xs=>.bN xs|d=>.v d
def GZ{O:a8}{r:R}{v:V}(h:ew K mg O H r v):ui K mg O H r.arg v:=by
 match r,h with
 |.v (.l xs),h=>obtain⟨a,ys,q,l,r⟩:=h;exact⟨a,ys,q,l.cP,r⟩
 |.fr xs,h=>obtain⟨a,ys,q,l,_,r⟩:=h;exact⟨a,ys,q,dr.of l,r⟩
 |.bN xs,h=>obtain⟨a,ys,q,l,r⟩:=h;exact⟨a,ys,q,l.cP,r⟩
 |.mv xs,h=>obtain⟨a,ys,q,l,r⟩:=h;exact⟨a,ys,q,dr.of l,r⟩
 |.v .aJ,h=>exact h|.v (.ay _),h=>exact h|.v (.int _),h=>exact h|.v (.str _),h=>exact h|.v (.t _),h=>exact h|.v (.ref _),h=>exact h|.v (.fn _),h=>exact h|.v (.ty _),h=>exact h
theorem Bs{O:a8}:∀{rs:List R}{vs:List V},i6 K mg O H rs vs->lD K mg O H (rs.map R.arg) vs
 |[],_,h=>h| _::_,_,h=>by obtain⟨y,r,q,a,b⟩:=h;exact⟨y,r,q,GZ a,Bs b⟩
theorem lD.len{O:a8}:∀{ds:List D}{vs:List V},lD K mg O H ds vs->vs.length=ds.length
 |[],_,h=>by cases h;rfl
 |_::_,_,h=>by obtain⟨x,r,rfl,_,b⟩:=h;rw[akO,akO,lD.len b]
theorem lD.get{O:a8}:∀{ds:List D}{xs:List V}{i:Nat}{d:D},lD K mg O H ds xs->ds[i]? = some d->∃x,xs[i]? = some x/\ui K mg O H d x
 |[],_,_,_,_,e=>by simp at e| _::_,_,0,d,h,e=>by obtain⟨x,r,rfl,a,_⟩:=h;cases(show some _=some d from e);exact⟨x,rfl,a⟩
 |_::ds,_,i+1,d,h,e=>by
  obtain⟨x,r,rfl,_,b⟩:=h;obtain⟨y,av,aE⟩:=lD.get (i:=i) b (by simpa using e);exact⟨y,by simpa using av,aE⟩
def e1(K:aO)(mg:bp)(mf:bq):en:=λvs H Q _=>∃O ds r S,dg O H/\fW K mg O H S/\lD K mg O H ds vs/\(mf ds).run S=.ok r S/\∀a v H',Go O a H H'->dg a H'->ew K mg a H' r v->jl H r v->Q v H'
@[simp] def bf(mf:bq)(ms:cZ)(U:aM):M R:=do
 let rs <-ms U
 mf (rs.map R.arg)
section
variable{mf:bq}{ms:cZ}
def Ce:∀b H Q,fN K mg (bf mf ms) b H Q->Al (e1 K mg mf) (oU K mg ms) b H Q:=by
 rintro b H Q ⟨O,U,S,r,j,st,h,q⟩;obtain⟨rs,S1,f,h⟩:=M.inv h;refine⟨O,U,S,rs,S1,st,f,λe vs n c a k nn=>?_⟩;obtain rfl:=(mf _).e_ _ _ _ h;exact⟨e,_,r,j,a.cv,a.gn,Bs k,h,λi v H' g d l m=>q i v H' (c.trans g) (a.go g d) l (m.back c.same)⟩
end
def fnOf(n N:Nat)(b:aN):bq:=λds=>if ds.length=n then do
  let a <-b (ds.map b8++akW (N-n) .e)
  match a with
  |.cn (.v d)=>pure (.v d)|.cn (.fr xs)=>pure (.fr xs)|.bw _=>pure (.v .aJ)|_=>bad
 else bad
def aeI{O:a8}{v:V}(h:ui K mg O H d v):jn K mg (d4 O) H w (b8 d) (some v):=by
 have val:Rep K mg O H d v->jn K mg (d4 O) H w (.v d) (some v):=λh=>⟨v,rfl,h.c6 (jX O)⟩
 match d,h,val with
 |.l xs,h,_=>
  obtain⟨a,ys,rfl,l,r⟩:=h;exact⟨a,ys,rfl,l.imp (λz=>⟨z,k2 O a⟩) id,r.c6 (jX O)⟩
 |.aJ,h,val=>exact val h|.ay _,h,val=>exact val h|.int _,h,val=>exact val h|.str _,h,val=>exact val h|.t _,h,val=>exact val h|.ref _,h,val=>exact val h|.fn _,h,val=>exact val h|.ty _,h,val=>exact val h
omit [aB.a5]in
theorem yo{n N:Nat}{ds:List D}{S a:bJ}{r:R}(h:(fnOf n N b ds).run S=.ok r a):ds.length=n:=by
 unfold fnOf at h
 by_cases c:ds.length=n
 .exact c
 .rw[if_neg c]at h;cases h
def FR{ps N:List Str}{O:a8}{S:bJ}{ds:List D}(b:dg O H)(dX:fW K mg O H S)(f:lD K mg O H ds vs)(hl:ds.length=ps.length):cK K mg (d4 O) (ds.map b8++akW (N.length-ps.length) .e) S (aB.start N vs) H:=by
 have c:=f.len;refine⟨⟨λa g=>b.has a λz=>g (nS.mpr z),b.tabs,IT b⟩,?_,λi s e=>?_,dX.all (λ_ _ z=>Rep.c6 (jX O) z) rfl λ_ _ _ l _=>l⟩
 .unfold aB.start
  rw[akg,akg,akh,akh,ak8,ak8,c,hl]
 .by_cases hi:i<ds.length
  .rw[akD (by rw[akh];exact hi),akA]at e
   cases o:ds[i]? with
   |none=>rw[o]at e;cases e
   |some d=>
    rw[o]at e;cases e;obtain⟨v,j,h⟩:=f.get o;unfold aB.start;rw[akD (by rw[akh,c];exact hi),akA,j];exact aeI h
  .rw[akz (by rw[akh];omega),alO]at e
   split at e
   .cases e;exact trivial
   .cases e
def IV{ps N:List Str}(W:e1 K mg (fnOf ps.length N.length C) vs H Q E):ly K mg C { bw:=fun _ H'=>Q .aJ H',cn:=Q } (aB.start N vs) H:=by
 obtain⟨O,ds,r,S,k,dX,V,h,q⟩:=W;have hl:=yo h;unfold fnOf at h;rw[if_pos hl]at h;obtain⟨B,S1,D,h⟩:=M.inv h;have X:=FR (N:=N) k dX V hl;have A:∀b,H b≠none->d4 O b=.free\/d4 O b=.out:=λb _=>k2 O b
 have back:∀{f:a8}{H':aw},d7 (d4 O) f H H'->dg f H'->∃j:a8,Go O j H H'/\dg j H'/\lF f j/\∀b,(f b=.dq\/∃i,f b=.loc i)->H b=none/\j b=.dq:=λ{f H'} g d=>by
  refine⟨⟨λb=>match H b with|some _=>O b|none=>(match f b with|.loc _=>.dq|o=>o),O.bI⟩,⟨⟨λb o e n=>g.cells b o e ((A b (by rw[e];intro z;cases z)).elim .inl λz=>.inr (.inl z)) n,g.cC,g.b1⟩,λb c=>?_,rfl⟩,⟨λb c=>?_,d.tabs,k.cf.1,λb m=>?_⟩,⟨λb c=>?_,g.bI.symm⟩,λb c=>?_⟩
  .dsimp only
   cases e:H b with
   |none=>exact absurd e c|some o=>rfl
  .dsimp only at c
   cases e:H b with
   |some o=>exact g.has b (by rw[e];intro z;cases z)|none=>
    rw[e]at c;refine d.has b λz=>c ?_
    dsimp only;rw[z]
  .dsimp only
   cases e:H b with
   |some o=>exact k.cf.2 b m| none=>exact absurd e (k.has b (by rw[k.cf.2 b m];intro z;cases z))
  .dsimp only
   cases e:H b with
   |some o=>
    dsimp only;have:=(g.own b (by rw[e];intro z;cases z) (k2 O b)).symm.trans c;exact nS.mp this
   |none=>
    dsimp only;rw[c]
  .have p:H b=none:=by
    cases e:H b with
    |none=>rfl|some o=>
     exfalso;have br:=g.own b (by rw[e];intro z;cases z) (k2 O b);rcases k2 O b with z|z<;>rw[z]at br<;>rcases c with w|⟨i,w⟩<;>rw[br]at w<;>cases w
   refine⟨p,?_⟩;dsimp only;rw[p];rcases c with w|⟨i,w⟩<;>rw[w]
 refine⟨d4 O,_,S,B,S1,X,D,?_⟩
 cases B with
 |bw U'=>
  cases h;intro f Y H' g R _;obtain⟨j,x,u,y,_⟩:=back g R.cv;exact q j .aJ H' x u rfl trivial
 |bk U'=>cases h
 |cm U'=>cases h
 |cn L=>
  intro f v H' g d F s;obtain⟨j,x,u,y,T⟩:=back g d
  cases L with
  |v dC=>cases h;exact q j v H' x u (Rep.c6 y s) trivial
  |fr xs=>
   cases h;obtain⟨a,ys,rfl,l,t,G⟩:=s;obtain⟨p,I⟩:=T a t;exact q j _ H' x u ⟨a,ys,rfl,l,I,G.c6 y⟩ λb P=>by cases P;exact p
  |bN xs=>exact akT s|mv xs=>exact akT s
def LC{P:akC}{w:World}{K:aO}{mg:bp}{base:Heap}{x qual:Str}{st:Stmt}{ps N:List Str}{k:Nat}{b:aN}{f:Addr}{c:alo}{n nl:Nat}(F:kY K x qual st f c)(d:gQ N ps (dd st))(e:ps.length=n)(hl:N.length=nl)
  (i:∀(a:Value)(A:akL)(outer:List Env)(s:akj)(H:aw)(E:gw),cA k (A.deeper (alk qual (dd st) s.heap.objs.size f a))->
   um (gU eA P w K mg base N qual (dd st) f a A outer s H E).gA (fJ st) b):e2 P w K mg base eA (k+1) f c ps (e1 K mg (fnOf n nl b)):=by
 subst e hl;exact F.ok d (λvs H Q E ⟨O,ds,r,S,m,dX,j,h,q⟩=>j.len.trans (yo h)) λa A outer s H vs Q E g l=>⟨_,i a A outer s H E g,IV l⟩
def vd{P:akC}{w:World}{K:aO}{mg:bp}{base:Heap}{x:Str}{st:Stmt}{ps N:List Str}{k:Nat}{c:aN}{n nl:Nat}(gP:gP K mg x st ps)(d:gQ N ps (dd st))(e:ps.length=n)(hl:N.length=nl)
  (g:∀(f:Addr)(a:Value)(A:akL)(outer:List Env)(s:akj)(H:aw)(E:gw),cA k (A.deeper (alk x (dd st) s.heap.objs.size f a))->
   um (gU eA P w K mg base N x (dd st) f a A outer s H E).gA (fJ st) c):eU P w K mg base x ps (k+1) (e1 K mg (fnOf n nl c)):=by
 obtain⟨f,h,F,b,m⟩:=gP.ex;exact⟨f,h,LC F d e hl (λa=>g f a),b,F.kp,m⟩
omit [aB.a5]in
theorem KZ{K:aO}{h:Heap}{mg:bp}{x:Str}{st:Stmt}{f:Addr}{ps:List Str}{j b:Option Addr}{bh:Array (Option Value)}{dE du m e cd cm:Value}(X:K.In h)(G:h.Ns akP mg)
  (a:ang K akP x=some (some (.ref f))) (l:K.lookup f=some ⟨dE,j,.func (al9 x x (iP st) (fJ st) (dd st) .none du m e b cd cm),bh⟩) (c:anR K cd x=true) (k:amc K (.ref f)=true)
  (g:∀(du d e:Value)(b:Option Addr)(i cm:Value)(us:List Value),us.length=ps.length->ams (al9 x x (iP st) (fJ st) (dd st) .none du d e b i cm) ⟨us,[]⟩=pure (ps.zip us)):gP K mg x st ps:=
 ⟨f,_,yt (st:=st) l c k,(yt (st:=st) l c k).binds g,anT X G a⟩
abbrev wY(K:aO):en:=λvs H Q _=>∃(a:Addr)(ns:List Int),vs=[.ref a]/\dr K H a (ns.map V.int)/\ns.length<=63/\TabsOk H/\∀H',Q (.ay true) H'
abbrev pd:Nat:=10715086071862673209484250490600018105614048117055336074437503883703510511249361224931983788156958581275946729175531468251871452856923140435984577574698574803934567774824230985421074605062371141877954182153046474983581941267398767559165543946077062914571196477686542167660429831652624386837205668069376
omit [aB.a5]in
theorem IJ:pd=2 ^ 1000:=by decide +kernel
omit [aB.a5]in
theorem N1{i:Int}(h:i.natAbs<pd):alq i<=1000:=by
 unfold alq;split
 .exact akY _
 .rename_i hz
  have:i.natAbs.log2<1000:=(Nat.log2_lt (by simpa using hz)).mpr (IJ▸h);omega
def iF(i j:Int):Prop:=(-(2 ^ 64)<i/\i<2 ^ 64)\/(-(2 ^ 64)<j/\j<2 ^ 64)\/(i.natAbs<pd/\j.natAbs<pd)
omit [aB.a5]in
theorem iF.ok{i j:Int}(h:iF i j):IntMulOk i j:=by
 rcases h with h|h|h
 .exact(show xl i j from .inl h).ok
 .exact(show xl i j from .inr h).ok
 .have b:=N1 h.1
  have c:=N1 h.2;have a:aoQ (alq i+alq j)=false:=by
   unfold aoQ;refine decide_eq_false ?_;have:(2000:Int)<=((bitsLine:Nat):Int):=by decide
   omega
  unfold IntMulOk;rw[a];simp
instance (i j:Int):Decidable (iF i j):=by unfold iF;exact inferInstance
def acd:d0 X (amb .Mult) (ki iF λi j=>.int (i*j)):=tF λ_ _ _ _ _ _ _ a q=>PyProof.Rows.mul_int q a.ok
abbrev nx:=oF iF (· * ·)
def Rv{X:aT}:ej X.K X.mg (ki iF λi j=>.int (i*j)) nx:=r6 λ_ _ h=>h
def pe(_ j:Int):Prop:=0<j/\j.natAbs<pd
instance (i j:Int):Decidable (pe i j):=by unfold pe;exact inferInstance
def ab7:d0 X (amb .FloorDiv) (ki pe λi j=>.int (i / j)):=tF λi j _ _ _ _ _ a q=>by
 have c:(0:Int)<j:=a.1;have b:j.natAbs<pd:=a.2;refine PyProof.Rows.floordiv_int (by omega) (by rw[aob i (by omega)];exact q) (.inl (PyProof.noPylong_of_log2 ?_));have:j.natAbs.log2<1000:=(Nat.log2_lt (by omega)).mpr (IJ▸b);omega
abbrev eH:=oF pe (· / ·)
def Rr{X:aT}:ej X.K X.mg (ki pe λi j=>.int (i / j)) eH:=r6 λ_ _ h=>h
def oBits:R->M R
 |.v (.int i)=>pure (.v (.int (alq i:Nat)))|_=>bad
structure Gs(mg:bp):Prop where
 len:mg "len"=none
 range:mg "range"=none
 isinstance:mg "isinstance"=none
 max:mg "max"=none
 min:mg "min"=none
 any:mg "any"=none
 all:mg "all"=none
 Yp:mg "int"=none
 SE:mg "bool"=none
 Ek:mg "list"=none
 tuple':mg "tuple"=none
 aeU:mg "str"=none
 abs:mg "abs"=none
 sorted:mg "sorted"=none
 sum:mg "sum"=none
 zip:mg "zip"=none
 enumerate:mg "enumerate"=none
 reversed:mg "reversed"=none
 ajY:mg "set"=none
omit [aB.a5]in
theorem SJ:ak1 "abs"=some (.builtin "abs"):=by decide +kernel
omit [aB.a5]in
theorem SS:ak1 "min"=some (.builtin "min"):=by decide +kernel
end aF
namespace aF
open PySem PySem.Spec aB
@[simp] theorem ah4{α a:Type}(f:α->M a):(bad >>= f)=bad:=rfl
@[simp] theorem ah8{p:Prop}[Decidable p]:hx p=if p then pure ()else bad:=rfl
@[simp] theorem TP:af d U=pure (.v d):=rfl
@[simp] theorem ajj:R.rG (.v (.ay b))=pure b:=rfl
@[simp] theorem ahQ{g:Int->Int->Int}{i j:Int}:rq g (.v (.int i)) (.v (.int j))=pure (.v (.int (g i j))):=rfl
@[simp] theorem ahP{C:Int->Int->Prop}[∀i j,Decidable (C i j)]{g:Int->Int->Int}{i j:Int}:oF C g (.v (.int i)) (.v (.int j))=if C i j then pure (.v (.int (g i j)))else bad:=rfl
@[simp] theorem ahO{g:Int->Int->Bool}{i j:Int}:ro g (.v (.int i)) (.v (.int j))=pure (.v (.ay (g i j))):=rfl
@[simp] theorem ah5{i:Int}:oBits (.v (.int i))=pure (.v (.int (alq i:Nat))):=rfl
@[simp] theorem aiT:aj U=pure []:=rfl
@[simp] theorem aii:R.dat (.v d)=pure d:=rfl
@[simp] theorem aie:R.dat (.fr xs)=pure (.l xs):=rfl
@[simp] theorem aih:m3 []=pure []:=rfl
@[simp] theorem aif{r:R}:m3 (r::rs)=(do
  let d <-r.dat
  let ds <-m3 rs
  pure (d::ds)):=rfl
@[simp] theorem aiQ:R.fu (.v (.l xs))=some xs:=rfl
@[simp] theorem aiN:R.fu (.fr xs)=some xs:=rfl
@[simp] theorem aiR:R.fu (.bN xs)=some xs:=rfl
@[simp] theorem aiO:R.fu (.mv xs)=some xs:=rfl
@[simp] theorem ai4:R.seq (.v (.l xs))=some xs:=rfl
@[simp] theorem ai3:R.seq (.v (.t xs))=some xs:=rfl
@[simp] theorem ai1:R.seq (.fr xs)=some xs:=rfl
@[simp] theorem ai5:R.seq (.bN xs)=some xs:=rfl
@[simp] theorem ai2:R.seq (.mv xs)=some xs:=rfl
@[simp] theorem aiZ:R.own (.v (.l xs))=some xs:=rfl
@[simp] theorem aiX:R.own (.fr xs)=some xs:=rfl
@[simp] theorem aiY:R.own (.mv xs)=some xs:=rfl
@[simp] theorem ahX:R.arg (.v d)=d:=rfl
@[simp] theorem ahV:R.arg (.fr xs)=.l xs:=rfl
@[simp] theorem ahY:R.arg (.bN xs)=.l xs:=rfl
@[simp] theorem ahW:R.arg (.mv xs)=.l xs:=rfl
@[simp] theorem aiL{x:R}:gW [x]=match x.seq with
  |some xs=>pure (.v (.int (xs.length:Nat)))|none=>bad:=rfl
@[simp] theorem aiH:R.kind (.v .aJ)=some "NoneType":=rfl
@[simp] theorem aiC:R.kind (.v (.ay b))=some "bool":=rfl
@[simp] theorem aiE{i:Int}:R.kind (.v (.int i))=some "int":=rfl
@[simp] theorem aiI:R.kind (.v (.str x))=some "str":=rfl
@[simp] theorem aiJ:R.kind (.v (.t xs))=some "tuple":=rfl
@[simp] theorem aiF:R.kind (.v (.l xs))=some "list":=rfl
@[simp] theorem aiD:R.kind (.fr xs)=some "list":=rfl
@[simp] theorem aiK:R.kind (.bN xs)=some "list":=rfl
@[simp] theorem aiG:R.kind (.mv xs)=some "list":=rfl
@[simp] theorem ain{x:R}:gV [x,.v (.ty n)]=match x.kind with
  |some t=>if n∈["int","bool","tuple","list","str"]then pure (.v (.ay (vv t n)))else bad|none=>bad:=rfl
@[simp] theorem aio:vv t n=(t==n||(t == "bool"&&n == "int")):=rfl
@[simp] theorem ahN{g:Int->Int->Int}{i j:Int}:qR g [.v (.int i),.v (.int j)]=pure (.v (.int (g i j))):=rfl
@[simp] theorem ahR{i:Int}:u2 [.v (.int i)]=pure (.v (.int (if i<0 then -i else i))):=rfl
@[simp] theorem ahT{x:R}:u3 [x]=match x.fu.bind lO with
  |some bs=>pure (.v (.ay (bs.any id)))|none=>bad:=rfl
@[simp] theorem ahS{x:R}:n4 [x]=match x.fu.bind lO with
  |some bs=>pure (.v (.ay (bs.all id)))|none=>bad:=rfl
theorem xZ{α:Type}(p:α->Bool):∀xs:List α,lO (xs.map λx=>D.ay (p x))=some (xs.map p)
 |[]=>rfl| x::xs=>by rw[aks,aks,lO,xZ p xs];rfl
@[simp] theorem aiP{x:R}:u4 [x]=match x.seq with
  |some xs=>pure (.fr xs)|none=>bad:=rfl
@[simp] theorem ajk{x:R}:pJ [x]=match x.seq with
  |some xs=>pure (.v (.t xs))|none=>bad:=rfl
def Bv{α:Type}{xs:List α}{k:Nat}(h:k<xs.length):d3 xs (k:Int)=some xs[k]:=G3 (by simp[h])
@[simp] theorem aiA{i:Int}:aH (.v (.t xs)) (.v (.int i))=match d3 xs i with
   |some d=>pure (.v d)|none=>bad:=rfl
@[simp] theorem aiy{i:Int}:aH (.v (.l xs)) (.v (.int i))=match d3 xs i with
   |some d=>pure (.v d)|none=>bad:=rfl
@[simp] theorem aix{i:Int}:aH (.fr xs) (.v (.int i))=match d3 xs i with
   |some d=>pure (.v d)|none=>bad:=rfl
@[simp] theorem aiB{i:Int}:aH (.bN xs) (.v (.int i))=match d3 xs i with
   |some d=>pure (.v d)|none=>bad:=rfl
@[simp] theorem aiz{i:Int}:aH (.mv xs) (.v (.int i))=match d3 xs i with
   |some d=>pure (.v d)|none=>bad:=rfl
def jW{α:Type}{xs:List α}(k:Nat){v:α}(h:xs[k]? = some v):d3 xs (k:Int)=some v:=G3 h
@[simp] theorem ahZ{α:Type}{x:α}{xs:List α}:d3 (x::xs) 0=some x:=jW 0 rfl
@[simp] theorem ah0{α:Type}{x y:α}{xs:List α}:d3 (x::y::xs) 1=some y:=jW 1 rfl
@[simp] theorem ah1{α:Type}{x y z:α}{xs:List α}:d3 (x::y::z::xs) 2=some z:=jW 2 rfl
@[simp] theorem ah2{α:Type}{x y z w:α}{xs:List α}:d3 (x::y::z::w::xs) 3=some w:=jW 3 rfl
@[simp] theorem ah3{α:Type}{x y z w v:α}{xs:List α}:d3 (x::y::z::w::v::xs) 4=some v:=jW 4 rfl
@[simp] theorem ai0:x5 U=pure (.cn (.v .aJ)):=rfl
@[simp] theorem ahU{r:R}:kQ xs [r]=(do
  let d <-r.dat
  hx (xs.length<aki)
  pure (.v .aJ,xs++[d])):=rfl
@[simp] theorem aik{r:R}:w6 xs [r]=match r.own with
  |some ys=>do
   hx (xs.length+ys.length<=aki)
   pure (.v .aJ,xs++ys)
  |none=>bad:=rfl
@[simp] theorem aiU:j0 U=pure none:=rfl
@[simp] theorem ai7{l h:Option Int}:oH (.fr xs) l h=pure (.fr (cutD xs l h)):=rfl
@[simp] theorem aji{l h:Option Int}:oH (.bN xs) l h=pure (.fr (cutD xs l h)):=rfl
@[simp] theorem ai9{l h:Option Int}:oH (.mv xs) l h=pure (.fr (cutD xs l h)):=rfl
@[simp] theorem ai8{l h:Option Int}:oH (.v (.l xs)) l h=pure (.fr (cutD xs l h)):=rfl
@[simp] theorem Lb{xs:List D}{l h:Option Int}:oH (.v (.t xs)) l h=if c5.cw xs.length 0 l=0/\c5.cw xs.length xs.length h=xs.length then bad else pure (.v (.t (cutD xs l h))):=rfl
@[simp] theorem aia{cap:List Nat}:hy n cap U=akW n .e++cap.map λk=>qG U[k]?:=rfl
@[simp] theorem aic:qG (some (.v d))=.v d:=rfl
@[simp] theorem aib:qG (some (.dB p xs))=.bN xs:=rfl
@[simp] theorem aid:qG (some (.bN xs))=.bN xs:=rfl
@[simp] theorem ajm:fx U=pure true:=rfl
@[simp] theorem aim{x:R}:jI x (.v .aJ)=pure (.v (.ay x.j8)):=rfl
@[simp] theorem aiV{x:R}:iX x (.v .aJ)=pure (.v (.ay (!x.j8))):=rfl
@[simp] theorem aip:R.j8 (.v .aJ)=true:=rfl
@[simp] theorem ais{i:Int}:R.j8 (.v (.int i))=false:=rfl
@[simp] theorem aiv:R.j8 (.v (.t xs))=false:=rfl
@[simp] theorem air:R.j8 (.fr xs)=false:=rfl
@[simp] theorem aiu:R.j8 (.v (.str x))=false:=rfl
@[simp] theorem aij{i j:Int}:oEq (.v (.int i)) (.v (.int j))=pure (.v (.ay (i==j))):=rfl
@[simp] theorem aiS{i j:Int}:dA (.v (.int i)) (.v (.int j))=pure (.v (.ay (!(i==j)))):=rfl
def qL{x y:R}(b:x.arg.b1 64=true)(a:y.arg.b1 64=true):oEq x y=pure (.v (.ay (es x.arg y.arg))):=if_pos ⟨b,a⟩
def se{x y:R}(b:x.arg.b1 64=true)(a:y.arg.b1 64=true):dA x y=pure (.v (.ay (!es x.arg y.arg))):=if_pos ⟨b,a⟩
@[simp] theorem ajd:b8 (.l xs)=.bN xs:=rfl
@[simp] theorem ajc{i:Int}:b8 (.int i)=.v (.int i):=rfl
@[simp] theorem ajg:b8 (.t xs)=.v (.t xs):=rfl
@[simp] theorem ajf:b8 (.str x)=.v (.str x):=rfl
@[simp] theorem aje:b8 .aJ=.v .aJ:=rfl
@[simp] theorem aja:b8 (.ay b)=.v (.ay b):=rfl
@[simp] theorem ye{n N:Nat}{ds:List D}:fnOf n N b ds=if ds.length=n then(do
  let a <-b (ds.map b8++akW (N-n) .e)
  match a with
  |.cn (.v d)=>pure (.v d)|.cn (.fr xs)=>pure (.fr xs)|.bw _=>pure (.v .aJ)| _=>bad)else bad:=rfl
theorem Lr{b:D->aN}(J:Nat->aM->Prop):∀(ds:List D)(k:Nat)(U:aM),J k U->(∀i d U,ds[i]? = some d->J (k+i) U->∃U',(b d U=pure (.bw U')\/b d U=pure (.cm U'))/\J (k+i+1) U')->
  ∃U',kx b ds U=pure (.bw U')/\J (k+ds.length) U'
 |[],k,U,h0,_=>⟨U,rfl,h0⟩
 |d::ds,k,U,h0,step=>by
  obtain⟨g,e,a⟩:=step 0 d U rfl h0;obtain⟨f,aE,c⟩:=Lr J ds (k+1) g a λi d' U' hd h=>by
   have:=step (i+1) d' U' (by simpa using hd) (by rw[show k+(i+1)=k+1+i by omega];exact h);rw[show k+(i+1)+1=k+1+i+1 by omega]at this;exact this
  refine⟨f,?_,by rw[akO,show k+(ds.length+1)=k+1+ds.length by omega];exact c⟩;show(b d U >>= _)=_;rcases e with e|e<;>rw[e]<;>exact aE
def sm{b:D->aN}{ds:List D}(J:Nat->aM->Prop)(c:J 0 U)(step:∀i d U,ds[i]? = some d->J i U->∃U',(b d U=pure (.bw U')\/b d U=pure (.cm U'))/\J (i+1) U') :
  ∃U',kx b ds U=pure (.bw U')/\J ds.length U':=by
 obtain⟨U',e,h⟩:=Lr J ds 0 U c λi d U hd a=>by
  rw[amv]at a ⊢;exact step i d U hd a
 exact⟨U',e,by rw[amv]at h;exact h⟩
def Fy{lo:Int}(h:(dH lo n)[i]? = some d):i<n/\d=.int (lo+(i:Nat)):=by
 have hi:i<n:=by
  have:=(akd.mp h).1
  rwa[oN]at this
 unfold dH at h;rw[akA,alR hi]at h;cases h;exact⟨hi,rfl⟩
def Rj{ns:List Int}(h:k<ns.length):d3 (ns.map D.int) (k:Int)=some (.int (ns.getD k 0)):=by
 refine jW k ?_;rw[akA,akx h];simp[ak7,h]
def mod_lt{a b:Int}(h:0<b):0<=a % b/\a % b<b:=⟨Int.emod_nonneg _ (by omega),Int.emod_lt_of_pos _ h⟩
def ZJ{i:Int}(a:-(10 ^ 200)<i)(b:i<10 ^ 200):i.natAbs<pd:=by
 unfold pd;omega
def EL{i j:Int}(a:-(2 ^ 64)<i)(b:i<2 ^ 64):iF i j:=.inl ⟨a,b⟩
def Cz{i j:Int}(a:0<j)(b:j<10 ^ 200):pe i j:=⟨a,ZJ (by omega) b⟩
end aF
namespace aF
open PySem PySem.Spec aB
variable[aB.a5]
def sr:List Nat->pq
 |[]=>LL|i::is=>LJ (kz i) (sr is)
section
variable{X:aT}{is:List Nat}{az:List Expr}
def OJ{i:Nat}{x:Str}{p:Pos}(hN:X.N.Nodup)(hi:X.N[i]? = some x)(a:Loc X.env.scope x)(h:qt X az (sr is))(ax:(ala (.Name x p::az) X.env).map (·.2)=al8 (.Name x p) X.env::(ala az X.env).map (·.2):=by rfl)
  (b:X.fn x=true\/X.env.scope.names.lookup x=some .local:=by first|exact .inl rfl|exact .inr rfl|assumption):qt X (.Name x p::az) (sr (i::is)):=adp (tJ hN hi a b) h ax
def adq:qt X [] (sr []):=ads
end
def nums:List D->Option (List Int)
 |[]=>some []|.int b::r=>(nums r).map (b::·)|_=>none
section
variable{K:aO}{mg:bp}
theorem zT{O:a8}:∀{ds:List D}{ys:List V}{bs:List Int},bl K mg O H ds ys->nums ds=some bs->ys=bs.map V.int
 |[],ys,bs,h,e=>by cases e;exact h
 |d::ds,ys,bs,h,e=>by
  cases d with
  |int b=>
   have e:(nums ds).map (b::·)=some bs:=e;obtain⟨cs,av,rfl⟩:=anf.mp e;obtain⟨y,r,rfl,a,c⟩:=h;rw[zT c av,show y=.int b from a];rfl
  |_=>exact absurd (show(none:Option (List Int))=some bs from e) (by intro z;cases z)
end
end aF
namespace aF
open PySem PySem.Spec aB
section
variable[aB.a5](X:aT)
structure ba(e:Expr)(m:bx):Prop where
 un:gO X e m
structure fh(e:Expr)(m:aM->M Bool):Prop where
 un:Gz X e m
structure k0(e:Expr)(m:aM->M Bool):Prop where
 un:xn X e m
structure gv(e:List Expr)(m:cZ):Prop where
 un:Gv X e m
structure pv(e:Option Expr)(m:lG):Prop where
 un:QD X e m
structure e7(e:Stmt)(m:aN):Prop where
 un:Gy X e m
structure ht(e:List Stmt)(m:aN):Prop where
 un:um X e m
structure qw(cg e:Expr)(m:fP):Prop where
 un:Gw X cg e m
structure xH(cg e:Expr)(m:fP):Prop where
 un:QC X cg e m
structure qv(e:List Expr)(m:aM->M Bool):Prop where
 un:A4 X e m
end
section
variable[aB.a5]
variable{X:aT}{a e:Expr}{pos:Pos}
theorem dO(i:Nat)(hN:X.N[i]? = some x:=by rfl)(f:nR X.env.scope x:=by first|exact al3 rfl|exact alb (.inl rfl)|exact alb (alb rfl))(hd:(x==("__debug__":Str))=false:=by decide)(g:(x==("__classdict__":Str))=false:=by decide):ba X (.Name x pos) (I i):=⟨er (wC hN f hd g) λb H Q c=>by
 obtain⟨O,U,S,r,j,st,h,q⟩:=c;unfold I at h
 cases e:U[i]? with
 |none=>rw[e]at h;cases h
 |some s=>
  rw[e]at h;have l:=st.loc i s e;have get:∀{v:V},b[i]?.join=some v->b[i]? = some (some v):=λ{v} z=>by
   cases w:b[i]? with
   |none=>rw[w]at z;cases z
   |some y=>rw[w]at z;exact congrArg some z
  cases s with
  |v d=>
   obtain⟨v,av,aE⟩:=l;cases h;exact⟨v,get av,q O v H (Go.refl _ _) st aE trivial⟩
  |dB p xs=>
   obtain⟨a,ys,av,aE,cJ,eJ⟩:=l;cases h;exact⟨_,get av,q O _ H (Go.refl _ _) st ⟨a,ys,rfl,cJ,eJ⟩ trivial⟩
  |bN xs=>
   obtain⟨a,ys,av,aE,eJ⟩:=l;cases h;exact⟨_,get av,q O _ H (Go.refl _ _) st ⟨a,ys,rfl,aE,eJ⟩ trivial⟩
  |e=>cases h⟩
end
section
variable[aB.a5]
variable{X:aT}{e:Expr}{az:List Expr}{m:bx}{ms:cZ}
def eQ(p:ba X e m)(f:gv X az ms)(ax:ake (e::az) X.env=(false,eval e X.env)::ake az X.env:=by rfl):gv X (e::az) (aa m ms):=⟨z1 (wA p.un f.un ax) λy H Q k=>by
 obtain⟨O,U,S,r,w,st,h,q⟩:=k;obtain⟨x,S1,l,h⟩:=M.inv h;obtain⟨xs,u,n,h⟩:=M.inv h;cases h;refine⟨O,U,S,x,S1,st,l,λg a t b j d bw=>?_⟩;refine⟨g,U,S1,xs,_,j,n,λs vs i c bL rs ns=>?_⟩;exact q s (a::vs) i (b.trans c) bL ⟨a,vs,rfl,d.go c,rs⟩ ⟨bw,ns.back b.same⟩⟩
end
section
variable[aB.a5]
variable{X:aT}{pos:Pos}
def gD{i j pos}:ba X (.Constant (.int i) j pos) (af (.int i)):=⟨uS ac7 λ_ _=>rfl⟩
end
section
variable[aB.a5]
variable{X:aT}
def iY :gv X [] aj:=⟨z1 z2 λc H Q a=>by
 obtain⟨O,U,S,r,b,st,h,q⟩:=a;cases h;exact q O [] H (Go.refl _ _) st rfl trivial⟩
end
section
variable[aB.a5]
variable{X:aT}{a b:Expr}{cO cT:bx}{pos:Pos}
def lA{op:Operator}{r:fB}(c:d0 X (amb op) r)(g:ej X.K X.mg r f)(e:ba X a cO)(d:ba X b cT):ba X (.BinOp a op b pos) (ab f cO cT):=⟨er (adi c e.un d.un) (x2 g)⟩
end
section
variable[aB.a5]
variable{X:aT}{st:Stmt}{rest:List Stmt}{a b:aN}
def nF(c:e7 X st a)(k:ht X rest b):ht X (st::rest) (bO a b):=⟨z3 (OR c.un k.un) λD p H j=>by
 obtain⟨O,U,S,g,l,st,h,q⟩:=j;obtain⟨e,S1,c,h⟩:=M.inv h;refine⟨O,U,S,e,S1,st,c,?_⟩
 cases e with
 |bw d=>exact λf s n m i eo=>⟨f,d,S1,g,l,i,h,q.bZ m eo⟩
 |cn r=>cases h;exact q
 |bk d=>cases h;exact q
 |cm d=>cases h;exact q⟩
end
section
variable[aB.a5]
variable{X:aT}{st:Stmt}{a:aN}
def qj(h:e7 X st a):ht X [st] a:=⟨OS h.un⟩
end
section
variable[aB.a5]
variable{X:aT}{a b:Expr}{cO cT:bx}{pos:Pos}
def hk{r:fB}(c:mM X r)(g:ej X.K X.mg r f)(e:ba X a cO)(d:ba X b cT)(ax:GP b:=by exact λ_ _=>rfl):ba X (.Subscript a b pos) (ab f cO cT):=⟨er (ac8 c e.un d.un ax) (x2 g)⟩
end
section
variable[aB.a5]
variable{X:aT}{st:Stmt}{pos:Pos}{e:Expr}{m:bx}
theorem rN(he:ba X e m):e7 X (.Return (some e) pos) (a4 m):=⟨gL (Fg he.un) λD n H i=>by
 obtain⟨O,U,S,k,l,st,h,q⟩:=i;obtain⟨r,S1,j,h⟩:=M.inv h;refine⟨O,U,S,r,S1,st,j,λc v b g a f nn=>?_⟩
 cases r with
 |v d=>cases h;exact q c v b g.bZ a.cv a.gn f
 |fr xs=>cases h;exact q c v b g.bZ a.cv a.gn (Ph f (.inr ⟨_,rfl⟩))
 |bN xs=>cases h
 |mv xs=>cases h⟩
end
section
variable[aB.a5]
variable{X:aT}{az:List Expr}{ms:cZ}{pos:Pos}
def o5{o}(h:gv X az ms):ba X (.Tuple az o pos) (bU ms):=⟨er (adl h.un) λs H Q e=>by
 obtain⟨O,U,S,r,n,st,h,q⟩:=e;obtain⟨rs,S1,f,h⟩:=M.inv h;obtain⟨ds,m,g,h⟩:=M.inv h;obtain⟨_,t,i,h⟩:=M.inv h;obtain⟨hl,rfl⟩:=qD i;cases h;refine⟨O,U,S,rs,S1,st,f,λc vs l k d j nn=>?_⟩;obtain⟨b,rfl⟩:=Cy (H₀:=H) j nn g;refine⟨al1 (f7 (by rw[b.len];exact hl)),λp a=>?_⟩;exact q (cD H c) _ _ (k.cD.trans (Go.hg a)) ((d.cD H).hg a) ⟨p,vs,rfl,dy.of d6,b.go (Go.hg a)⟩ trivial⟩
end
section
variable[aB.a5]
variable{X:aT}{pos:Pos}{e:Expr}{m:bx}
variable{i:Nat}{x:Str}{pos':Pos}
def Gf(hN:X.N.Nodup)(hi:X.N[i]? = some x)(a:Loc X.env.scope x)(he:ba X e m)(ax:alW e (some (.Name x pos')) pos.line X.env=pure false:=by rfl)(b:X.fn x=true\/X.env.scope.names.lookup x=some .local:=by first|exact .inl rfl|exact .inr rfl|assumption):e7 X (.Assign [.Name x pos'] e pos) (b' i m):=⟨gL (Fh hN hi a he.un ax b) (Pr λ_ _ _ h=>h)⟩
end
section
variable[aB.a5]
variable{X:aT}{x:Str}{ps:List Str}{k:Nat}{mf:bq}{p pos:Pos}{e:Expr}{az:List Expr}{ms:cZ}
def agd(h:eU X.prog X.w X.K X.mg X.base x ps k (e1 X.K X.mg mf))(a:cA k X.A)(b:eb X x)(c:gv X (e::az) ms)(d:(x==("__debug__":Str))=false:=by decide)(he:ake (e::az) X.env=(false,eval e X.env)::ake az X.env:=by rfl)(f:(akJ pos (ake az X.env)).any (·.1)=false:=by rfl):ba X (.Call (.Name x p) (e::az) [] pos) (bf mf ms):=⟨er (OC h a b c.un d he f) Ce⟩
end
section
variable[aB.a5]
variable{X:aT}{x:Str}{ps:List Str}{k:Nat}{mf:bq}{p pos:Pos}
def age(h:eU X.prog X.w X.K X.mg X.base x ps k (e1 X.K X.mg mf))(a:cA k X.A)(b:eb X x)(e:(x==("__debug__":Str))=false:=by decide):ba X (.Call (.Name x p) [] [] pos) (bf mf aj):=⟨er (ac5 h a b e) λd H Q h=>by
  obtain⟨O,U,S,rs,S1,st,c,q⟩:=Ce d H Q h;cases c;exact q O [] H (Go.refl _ _) st rfl trivial⟩
end
section
variable[aB.a5]
variable{X:aT}{e:Expr}{az:List Expr}{ms:cZ}{pos p:Pos}{x:Str}{id:String}{r:List V->aw->cU->Prop}{f:List R->M R}
def qi(i:jQ X (.builtin id) r)(j:kU X.K X.mg r f)(b:eb X x)(k:X.mg x=none)(d:ak1 x=some (.builtin id))(c:gv X (e::az) ms)(a:x≠"__name__":=by decide)(g:(x==("__debug__":Str))=false:=by decide)(he:ake (e::az) X.env=(false,eval e X.env)::ake az X.env:=by rfl)(h:(akJ pos (ake az X.env)).any (·.1)=false:=by rfl):ba X (.Call (.Name x p) (e::az) [] pos) (cF f ms):=⟨er (acZ i b k d c.un a g he h) (I0 j)⟩
end
section
variable[aB.a5]
variable{X:aT}{st:Stmt}{pos:Pos}{a b:aN}
theorem Ge{A B:List Stmt}(n:fh X c t)(m:ht X A a)(k:ht X B b):e7 X (.If c A B pos) (b3 t a b):=⟨gL (OP n.un m.un k.un) λD r H j=>by
 obtain⟨O,U,S,e,g,st,h,q⟩:=j;obtain⟨t,S1,l,h⟩:=M.inv h;refine⟨O,U,S,t,S1,st,l,λd p i f=>?_⟩
 cases t with
 |false=>
  rw[if_neg akl]at h;exact og ⟨d,U,S1,e,g,f,h,q.bZ i.bZ (fg.refl _ _)⟩
 |true=>
  rw[if_pos rfl]at h;exact oh ⟨d,U,S1,e,g,f,h,q.bZ i.bZ (fg.refl _ _)⟩⟩
end
section
variable[aB.a5]
variable{X:aT}{st:Stmt}
theorem Gg :ht X [] bT:=⟨z3 adJ λD b H a=>by obtain⟨O,U,S,c,d,st,h,q⟩:=a;cases h;exact q O b H (d7.refl _ _) st (fg.refl _ _)⟩
end
section
variable[aB.a5]
variable{X:aT}{a b:Expr}{cO cT:bx}{pos:Pos}
def iZ{op:CmpOp}{r:fB}(d:d0 X (akX op) r)(i:ej X.K X.mg r f)(g:ba X a cO)(e:ba X b cT)(j:al7 op b=false:=by exact iz _):fh X (.Compare a [op] [b] pos) (aL (ab f cO cT)):=⟨wD (adL d g.un e.un j) λc H Q h=>PM (x2 i) c H Q (F2 c H Q h)⟩
end
section
variable[aB.a5]
variable{X:aT}{a:Expr}{cO:bx}{pos:Pos}
def agR(d:ba X a cO)(he:∀b,isTrue a X.env b=(do let v <-b;ama a.pos;alm [v] (truthy v)):=by intro _;rfl):fh X a (aL cO):=⟨wD (adQ d.un he) λc H Q h=>F2 c H Q h⟩
end
section
variable[aB.a5]
variable{X:aT}{e:Expr}
def kS{v:V}(h:b2 X e (oS v))(r:∀O H,Rep X.K X.mg O H d v):ba X e (af d):=⟨uS h r⟩
end
section
variable[aB.a5]
variable{X:aT}{az:List Expr}{ms:cZ}{pos:Pos}
def agl(h:gv X az ms):ba X (.List az pos) (eD ms):=⟨er (ada h.un) λu H Q g=>by
 obtain⟨O,U,S,r,t,st,h,q⟩:=g;obtain⟨rs,S1,i,h⟩:=M.inv h;obtain⟨ds,s,j,h⟩:=M.inv h;obtain⟨_,w,k,h⟩:=M.inv h;obtain⟨hl,rfl⟩:=qD k;cases h;refine⟨O,U,S,rs,S1,st,i,λe vs n d f l nn=>?_⟩;obtain⟨c,rfl⟩:=Cy (H₀:=H) l nn j;refine⟨al1 (f7 (by rw[c.len];exact hl)),λp b=>?_⟩;refine q (f_ (cD H e) p .dq) _ _ (d.cD.trans (Go.new b)) ((f.cD H).new b) ⟨p,vs,rfl,d6,mx,c.go (Go.new b)⟩ λa m=>?_
 cases m;exact d.same.free b⟩
end
section
variable[aB.a5]
variable{X:aT}{b:Expr}{pos:Pos}
def agc{b j pos}:ba X (.Constant (.bool b) j pos) (af (.ay b)):=⟨uS acV λ_ _=>rfl⟩
end
section
variable[aB.a5]
variable{X:aT}{a:Expr}{b9:aM->M Bool}{pos:Pos}
def agQ(g:fh X a b9):fh X (.UnaryOp .Not a pos) (d_ b9):=⟨wD (adP g.un) λk H Q e=>by
 obtain⟨O,U,S,r,j,st,h,q⟩:=e;obtain⟨t,S1,f,h⟩:=M.inv h;cases h;exact⟨O,U,S,t,_,st,f,λc b i d=>q c b i d⟩⟩
end
section
variable[aB.a5]
variable{X:aT}{a b:Expr}{b9 cC:aM->M Bool}{pos:Pos}
variable{rest:List Expr}
def agU(n:fh X a b9)(j:k0 X (.BoolOp .Or (b::rest) pos) cC):k0 X (.BoolOp .Or (a::b::rest) pos) (e' b9 cC):=⟨OY (adX n.un j.un) λs H Q i=>by
 obtain⟨O,U,S,r,m,st,h,q⟩:=i;obtain⟨t,S1,k,h⟩:=M.inv h;refine⟨O,U,S,t,S1,st,k,λc f e d=>?_⟩
 cases t with
 |true=>
  rw[if_pos rfl]at h;cases h;exact oh (q c f e d)
 |false=>
  rw[if_neg akl]at h;exact og ⟨c,U,S1,r,m,d,h,λl H' g p=>q l H' (e.trans g) p⟩⟩
end
section
variable[aB.a5]
variable{X:aT}{pos:Pos}
def P8{x j pos}:ba X (.Constant (.str x) j pos) (af (.str x)):=⟨uS adj λ_ _=>rfl⟩
end
section
variable[aB.a5]
variable{X:aT}{pos:Pos}
def agp{j pos}:ba X (.Constant .none j pos) (af .aJ):=⟨uS adf λ_ _=>rfl⟩
end
section
variable[aB.a5]
variable{X:aT}{a b:Expr}{cO cT:bx}{pos:Pos}
def o4{op:CmpOp}{r:fB}(c:d0 X (akX op) r)(g:ej X.K X.mg r f)(e:ba X a cO)(d:ba X b cT)(h:al7 op b=false):ba X (.Compare a [op] [b] pos) (ab f cO cT):=⟨er (ac3 c e.un d.un h) (x2 g)⟩
end
section
variable[aB.a5]
variable{X:aT}{iter:Expr}{it:fP}{i:Nat}{b:aN}{body:List Stmt}{pos fy:Pos}{x:Str}
def agJ(a:an2 (model X.prog X.w) X.A X.env X.dP)(e:X.calm=true)(hi:xH X (.Name x fy) iter it)(hN:X.N.Nodup)(d:X.N[i]? = some x)(hl:Loc X.env.scope x)(c:ht X body b)(ax:∀x,alf iter X.env x=pure x:=by intro _;rfl)(f:X.fn x=true\/X.env.scope.names.lookup x=some .local:=by first|exact .inl rfl|exact .inr rfl|assumption):e7 X (.For (.Name x fy) iter body [] pos) (jZ i it b):=⟨gL (OO a e hi.un (tJ hN d hl f) c.un ax) Uu⟩
end
section
variable[aB.a5]
variable{X:aT}{a b:Expr}{cO cT:bx}{pos:Pos}
variable{rest:List Expr}
def aga(s:ba X a cO)(k:ba X (.BoolOp .And (b::rest) pos) cT):ba X (.BoolOp .And (a::b::rest) pos) (jY cO cT):=⟨er (acU s.un k.un) λz H Q j=>by
 obtain⟨O,U,S,r,p,st,h,q⟩:=j;obtain⟨x,S1,l,h⟩:=M.inv h;obtain⟨t,y,m,h⟩:=M.inv h;obtain⟨rfl,rfl⟩:=Av m;refine⟨O,U,S,_,_,st,l,λd A f c e i bw=>⟨t,i,?_⟩⟩
 cases t with
 |false=>
  rw[if_neg akl]at h;cases h;exact og (q d _ f c e rfl trivial)
 |true=>
  rw[if_pos rfl]at h;exact oh ⟨d,U,_,r,p,e,h,λn v H' g w u nn=>q n v H' (c.trans g) w u (nn.back c.same)⟩⟩
end
section
variable[aB.a5]
variable{X:aT}{a:Expr}{b9:aM->M Bool}{pos:Pos}
def agV(b:fh X a b9):k0 X (.BoolOp .Or [a] pos) b9:=⟨adY b.un⟩
end
section
variable[aB.a5]
variable{X:aT}{a b:Expr}{b9 cC:aM->M Bool}{pos:Pos}
variable{rest:List Expr}
def agS(n:fh X a b9)(j:k0 X (.BoolOp .And (b::rest) pos) cC):k0 X (.BoolOp .And (a::b::rest) pos) (gN b9 cC):=⟨OY (adV n.un j.un) λs H Q i=>by
 obtain⟨O,U,S,r,m,st,h,q⟩:=i;obtain⟨t,S1,k,h⟩:=M.inv h;refine⟨O,U,S,t,S1,st,k,λc f e d=>?_⟩
 cases t with
 |false=>
  rw[if_neg akl]at h;cases h;exact og (q c f e d)
 |true=>
  rw[if_pos rfl]at h;exact oh ⟨c,U,S1,r,m,d,h,λl H' g p=>q l H' (e.trans g) p⟩⟩
end
section
variable[aB.a5]
variable{X:aT}{e:Expr}{m:bx}
def agH(he:ba X e m):pv X (some e) (ks m):=⟨λzn s g H Q J d=>by
 obtain⟨O,U,S,r,l,st,h,q⟩:=d;obtain⟨x,S1,f,h⟩:=M.inv h;split at h
 .rename_i i
  cases h;exact adC he.un zn s g H Q J ⟨O,U,S,_,_,st,f,λb v a k c j _=>⟨i,j,q b a k c⟩⟩
 .cases h⟩
end
section
variable[aB.a5]
variable{X:aT}
def agG :pv X none j0:=⟨λzn s b H Q J a=>by
 obtain⟨O,U,S,r,c,st,h,q⟩:=a;cases h;exact adB zn s b H Q J (q O H (Go.refl _ _) st)⟩
end
section
variable[aB.a5]
variable{X:aT}{e:Expr}{m:bx}{lo hi:Option Expr}{lj p0:lG}{pos ck:Pos}
def ags(he:ba X e m)(hl:pv X lo lj)(L:pv X hi p0):ba X (.Subscript e (.Slice lo hi none ck) pos) (qB m lj p0):=⟨er (Fc (aeE.or Pt) he.un hl.un L.un) λZ H Q E=>by
 obtain⟨O,U,S,r,Y,st,h,q⟩:=E;obtain⟨x,S1,F,n⟩:=M.inv h;clear h;obtain⟨l,j,G,k⟩:=M.inv n;clear n;obtain⟨u,T,I,h⟩:=M.inv k;clear k;refine⟨O,U,S,x,S1,st,F,λB C V P D A bw=>?_⟩;refine⟨B,U,S1,l,j,D,G,λK W w bL=>?_⟩;refine⟨K,U,j,u,T,bL,I,λs o y t=>?_⟩;have g:=(P.trans w).trans y;have z:=A.go (w.trans y);unfold oH at h;split at h
 .rename_i xs
  by_cases c:c5.cw xs.length 0 l=0/\c5.cw xs.length xs.length u=xs.length
  .rw[if_pos c]at h;cases h
  .rw[if_neg c]at h
   cases h;obtain⟨a,ys,rfl,i,f⟩:=z;exact .inr ⟨a,ys,rfl,i,by rw[f.len];exact c,λp d=>q s _ _ (g.trans (Go.hg d)) (t.hg d) ⟨p,_,rfl,dy.of d6,(f.cut l u).go (Go.hg d)⟩ trivial⟩
 .split at h
  .rename_i xs av
   cases h;obtain⟨a,ys,rfl,i,f⟩:=R.ov z av;refine .inl ⟨a,ys,rfl,i,λp d=>q (f_ s p .dq) _ _ (g.trans (Go.new d)) (t.new d) ⟨p,_,rfl,d6,mx,(f.cut l u).go (Go.new d)⟩ λb N=>?_⟩;cases N;exact g.same.free d
  .cases h⟩
end
section
variable[aB.a5]
variable{X:aT}{a:Expr}{cO:bx}{pos:Pos}
def agr{op}(h:ba X a cO):ba X (.BoolOp op [a] pos) cO:=⟨adh h.un⟩
end
section
variable[aB.a5]
variable{X:aT}{scope esc:Scope}{EN N:List Str}{n:Nat}{cap:List Nat}{elt iter:Expr}{ifs:List Expr}{pos fy:Pos}{x:Str}{it:fP}{t:aM->M Bool}{el:bx}
def agh(S:kW esc scope EN N n cap)(c:0<n)(hi:qw X (.Name x fy) iter it)(d:N[0]? = some x)(b:∀C a s H,Loc (cI X scope N C a s H).env.scope x/\(cI X scope N C a s H).env.scope.names.lookup x=some .local)(e:∀C a s H,qv (cI X scope N C a s H) ifs t)(f:∀C a s H,ba (cI X scope N C a s H) elt el)(he:X.env.scope=esc:=by rfl)(hN:X.N=EN:=by rfl)(h:X.calm=true:=by rfl)(ax:∀x,alf iter X.env x=pure x:=by intro _;rfl):ba X (.ListComp elt [⟨.Name x fy,iter,ifs,0⟩] scope pos) (eX n cap it t el):=⟨er (Fb (wi:=t5 X.K X.mg it) (g:=kz 0) (tt:=lz X.K X.mg t) (te:=fN X.K X.mg el) S hi.un (λC a s H=>tJ S.fM d (b C a s H).1 (.inr (b C a s H).2)) (λC a s H=>(e C a s H).un) (λC a s H=>(f C a s H).un) he hN h ax) (Cm c)⟩
end
section
variable[aB.a5]
variable{X:aT}{x:Str}{i:Nat}{p apos dK pos:Pos}{e:Expr}{az:List Expr}{ms:cZ}{name:Str}{id:String}{f:List D->List R->M (R×List D)}{r:V->List V->aw->cU->Prop}
def xa(slot:PySem.Slot "list" name id)(A:typeOf (.builtin id)=pure (.type "method_descriptor"))(u:uv X id r)(t:rQ X.K X.mg r f)(j:gv X (e::az) ms)(hN:X.N[i]? = some x)(l:nR X.env.scope x)(hd:(x==("__debug__":Str))=false:=by decide)(n:(x==("__classdict__":Str))=false:=by decide)(y:alU (.Name x p) name X.env (eval (.Name x p) X.env)=eval (.Name x p) X.env:=by rfl) (B:((akJ dK (ake (e::az) X.env)).all (λx=>!x.1)&&(alV dK (alp [] X.env)).all (λx=>x.1.isSome)
&&decide ((e::az).length+([]:List ana).length+(if([]:List ana).isEmpty then 0 else 1)<30))=true:=by rfl) (z:(apos.endLine==dK.line)=true:=by rfl) (ax:ake (e::az) X.env=(false,eval e X.env)::ake az X.env:=by rfl) (s:(akJ dK (ake az X.env)).any (·.1)=false:=by rfl) (w:alW (.Call (.Attribute (.Name x p) name apos) (e::az) [] dK) none pos.line X.env=pure false:=by rfl):e7 X (.Expr (.Call (.Attribute (.Name x p) name apos) (e::az) [] dK) pos) (qA i f ms):=⟨gL (Ff (E' aoE slot A u (wC hN l hd n) j.un y B z ax s) w) λD d H a=>by
  obtain⟨O,U,S,E,F,st,h,q⟩:=a;obtain⟨⟨G,I⟩,S1,b,h⟩:=M.inv h;cases h;exact aab t st b λc v H' g m k _=>q c d H' g m k⟩
end
section
variable[aB.a5]
variable{X:aT}{a:Expr}{b9:aM->M Bool}{pos:Pos}
def agT(b:fh X a b9):k0 X (.BoolOp .And [a] pos) b9:=⟨adW b.un⟩
end
section
variable[aB.a5]
variable{X:aT}{cg l:Expr}{m:bx}{a:Expr}
theorem agx(hl:ba X l m):xH X cg l (sG m):=⟨oK (OK hl.un) λn H R i=>by
 obtain⟨O,U,S,xs,k,st,h,q⟩:=i;obtain⟨r,S1,j,h⟩:=M.inv h;refine⟨O,U,S,r,S1,st,j,λd v c g e f nn=>?_⟩;split at h
 .cases h
  obtain⟨a,ys,rfl,ls,b⟩:=f;exact⟨a,rfl,⟨ys,ls.cP⟩,q d c (ph X.K a) ys g e (DX (.inl ⟨.inl ls.1,.inl ls.2⟩)) b⟩
 .cases h
  obtain⟨a,ys,rfl,ls,t,b⟩:=f;exact⟨a,rfl,⟨ys,dr.of ls⟩,q (cD H d) c (ph X.K a) ys g.cD (e.cD H) (DX (.inl ⟨.inl ls,.inl (CX (nn a rfl) t)⟩)) (b.c6 (i_ _ _))⟩
 .cases h
  obtain⟨a,ys,rfl,ls,b⟩:=f;exact⟨a,rfl,⟨ys,ls.cP⟩,q d c (ph X.K a) ys g e (DX ls) b⟩
 .cases h⟩
end
section
variable[aB.a5]
variable{X:aT}{pos:Pos}{e:Expr}{m:bx}
variable{i:Nat}{x:Str}{pos':Pos}
def agM(hN:X.N.Nodup)(hi:X.N[i]? = some x)(a:Loc X.env.scope x)(he:ba X e m)(ax:alW e (some (.Name x pos')) pos.line X.env=pure false:=by rfl)(b:X.fn x=true\/X.env.scope.names.lookup x=some .local:=by first|exact .inl rfl|exact .inr rfl|assumption):e7 X (.Assign [.Name x pos'] e pos) (lQ i m):=⟨gL (Fh hN hi a he.un ax b) (Ow λ_ _ _ h=>h)⟩
end
section
variable[aB.a5]
def agA:qv X [] fx:=⟨λzn s U H Q J a=>by
 obtain⟨O,U',S,b,c,st,h,q⟩:=a;cases h;exact OH zn s U H Q J (q O H (Go.refl _ _) st)⟩
end
section
variable[aB.a5]
variable{X:aT}{a:Expr}{cO:bx}{pos:Pos}
def agq(j:ba X a cO):ba X (.UnaryOp .Not a pos) (uP cO):=⟨er (adg j.un) λn H Q f=>by
 obtain⟨O,U,S,r,m,st,h,q⟩:=f;obtain⟨x,S1,g,h⟩:=M.inv h;obtain⟨t,l,i,h⟩:=M.inv h;obtain⟨rfl,rfl⟩:=Av i;cases h;exact⟨O,U,S,_,_,st,g,λd p b k e c bw=>⟨t,c,q d _ b k e rfl trivial⟩⟩⟩
end
section
variable[aB.a5]
variable{X:aT}{e:Expr}{az:List Expr}{ms:cZ}{pos p:Pos}{x:Str}{T:String}{r:List V->aw->cU->Prop}{f:List R->M R}
def w_(i:jQ X (.type T) r)(j:kU X.K X.mg r f)(b:eb X x)(k:X.mg x=none)(d:ak1 x=some (.type T))(c:gv X (e::az) ms)(a:x≠"__name__":=by decide)(g:(x==("__debug__":Str))=false:=by decide)(he:ake (e::az) X.env=(false,eval e X.env)::ake az X.env:=by rfl)(h:(akJ pos (ake az X.env)).any (·.1)=false:=by rfl):ba X (.Call (.Name x p) (e::az) [] pos) (cF f ms):=⟨er (ac0 i b k d c.un a g he h) (I0 j)⟩
end
section
variable[aB.a5]
def AG(h:fh X c t):qv X [c] t:=⟨adn h.un⟩
end
section
variable[aB.a5]
variable{X:aT}{cg:Expr}{a:Expr}{ms:cZ}{pos p:Pos}
def agy(b:eb X "range")(d:X.mg "range"=none)(c:gv X [a] ms)(ax:ake [a] X.env=[(false,eval a X.env)]:=by rfl):xH X cg (.Call (.Name "range" p) [a] [] pos) (h2 ms):=⟨oK (Fe b d c.un ax) Pl.1⟩
end
section
variable[aB.a5]
variable{X:aT}{a b c:Expr}{cO cT fT:bx}{pos:Pos}
def Qd{op d:CmpOp}{r i:fB}(j:d0 X (akX op) r)(q:ej X.K X.mg r f)(n:d0 X (akX d) i)(k:ej X.K X.mg i g)(m:ba X a cO)(l:ba X b cT)(p:ba X c fT)(s:lastMarks [op,d] [b,c]=false:=by with_unfolding_all rfl):fh X (.Compare a [op,d] [b,c] pos) (aL (fD f g cO cT fT)):=⟨wD (adK j n m.un l.un p.un s) λe H Q h=>PM (IZ q k) e H Q (F2 e H Q h)⟩
end
section
variable[aB.a5]
variable{X:aT}{cg l:Expr}{m:bx}{a:Expr}
theorem AF(hl:ba X l m):qw X cg l (la m):=⟨oK (OL hl.un) λn H R e=>by
 obtain⟨O,U,S,xs,k,st,h,q⟩:=e;obtain⟨r,S1,f,h⟩:=M.inv h;split at h
 .rename_i p
  cases h;refine⟨O,U,S,_,_,st,f,λc v b j d i nn=>?_⟩;obtain⟨a,ys,rfl,ls,g⟩:=i;exact⟨a,rfl,⟨ys,ls⟩,q c b (rT X.K a) ys j d (MW ls) g⟩
 .cases h⟩
end
section
variable[aB.a5]
variable{X:aT}{cg l:Expr}{m:bx}{e a:Expr}
theorem af5(hl:ba X l m):qw X cg l (nf m):=⟨oK (OK hl.un) λp H s f=>by
 obtain⟨O,U,S,xs,n,st,h,q⟩:=f;obtain⟨r,S1,g,h⟩:=M.inv h
 cases e:r.fu with
 |none=>rw[e]at h;cases h
 |some t=>
  rw[e]at h;cases h;refine⟨O,U,S,r,_,st,g,λc v b k d j nn=>?_⟩;obtain⟨a,ys,rfl,ls,i⟩:=R.ov j e;exact⟨a,rfl,⟨ys,ls⟩,q c b (ph X.K a) ys k d (MU ls) i⟩⟩
end
section
variable[aB.a5]
variable{X:aT}{b:aN}{body:List Stmt}{pos:Pos}{c:Expr}{t:aM->M Bool}
def agP(a:an2 (model X.prog X.w) X.A X.env X.dP)(e:fh X c t)(d:ht X body b):e7 X (.While c body [] pos) (uQ t b):=⟨gL (OQ a e.un d.un) agC⟩
end
section
variable[aB.a5]
variable{X:aT}{cg l:Expr}{m:bx}{a:Expr}
theorem agz(hl:ba X l m):xH X cg l (la m):=⟨oK (OL hl.un) λn H R e=>by
 obtain⟨O,U,S,xs,k,st,h,q⟩:=e;obtain⟨r,S1,f,h⟩:=M.inv h;split at h
 .rename_i p
  cases h;refine⟨O,U,S,_,_,st,f,λc v b j d i nn=>?_⟩;obtain⟨a,ys,rfl,ls,g⟩:=i;exact⟨a,rfl,⟨ys,ls⟩,q c b (rT X.K a) ys j d (YB ls) g⟩
 .cases h⟩
end
section
variable[aB.a5]
variable{X:aT}{cg:Expr}{a:Expr}{ms:cZ}{pos p:Pos}
def af6(b:eb X "range")(d:X.mg "range"=none)(c:gv X [a] ms)(ax:ake [a] X.env=[(false,eval a X.env)]:=by rfl):qw X cg (.Call (.Name "range" p) [a] [] pos) (h2 ms):=⟨oK (Fe b d c.un ax) Pl.2⟩
end
section
variable[aB.a5]
variable{X:aT}{st:Stmt}{pos:Pos}{a:aN}{e:Expr}
theorem agO(i:Nat)(hN:X.N[i]? = some x:=by rfl)(f:nR X.env.scope x:=by first|exact al3 rfl|exact alb (.inl rfl)|exact alb (alb rfl))(hd:(x==("__debug__":Str))=false:=by decide)(g:(x==("__classdict__":Str))=false:=by decide):e7 X (.Return (some (.Name x p)) pos) (x6 i):=⟨gL (Fg (wC hN f hd g)) λD c H b=>by
 obtain⟨O,U,S,j,k,st,h,q⟩:=b;unfold x6 at h
 cases e:U[i]? with
 |none=>rw[e]at h;cases h
 |some s=>
  rw[e]at h;have l:=st.loc i s e
  cases s with
  |dB p xs=>
   obtain⟨a,ys,av,aE,cJ,eJ⟩:=l
   cases p with
   |true=>cases h
   |false=>
   cases h;refine⟨.ref a,?_,q O _ H (d7.refl _ _) st.cv st.gn ⟨a,ys,rfl,cJ,.inr ⟨i,aE⟩,eJ⟩⟩
   cases w:c[i]? with
   |none=>rw[w]at av;cases av
   |some y=>rw[w]at av;exact congrArg some av
  |v d=>cases h
  |bN d=>cases h
  |e=>cases h⟩
end
section
variable[aB.a5]
variable{X:aT}{st:Stmt}{pos:Pos}
theorem agN :e7 X (.Return none pos) x5:=⟨gL adI λD d H a=>by obtain⟨O,U,S,b,c,st,h,q⟩:=a;cases h;exact q O _ H (d7.refl _ _) st.cv st.gn rfl⟩
end
section
variable[aB.a5]
variable{X:aT}{a b c:Expr}{cO cT fT:bx}{pos:Pos}
def agg{op d:CmpOp}{r e:fB}(h:d0 X (akX op) r)(n:ej X.K X.mg r f)(l:d0 X (akX d) e)(i:ej X.K X.mg e g)(k:ba X a cO)(j:ba X b cT)(m:ba X c fT)(p:lastMarks [op,d] [b,c]=false:=by with_unfolding_all rfl):ba X (.Compare a [op,d] [b,c] pos) (fD f g cO cT fT):=⟨er (ac2 h l k.un j.un m.un p) (IZ n i)⟩
end
section
variable[aB.a5]
variable{X:aT}{a:Expr}{cO:bx}{apos dK:Pos}
def agb(j:ba X a cO)(m:alU a "bit_length" X.env (eval a X.env)=eval a X.env:=by rfl)(n:(apos.endLine==dK.line)=true:=by rfl):ba X (.Call (.Attribute a "bit_length" apos) [] [] dK) (bb oBits cO):=⟨er (acW PySem.F.plainAttrs_int PySem.F.slot_int_bit_length PySem.F.type_int_bit_length Z8 j.un m n) λs H Q f=>by
  obtain⟨O,U,S,r,p,st,h,q⟩:=f;obtain⟨x,S1,g,h⟩:=M.inv h;unfold oBits at h;split at h
  .rename_i i
   cases h;refine⟨O,U,S,_,_,st,g,λd k b l e c bw=>?_⟩;cases(show k=.int i from c);exact⟨rfl,i,rfl,rfl,q d _ b l e rfl trivial⟩
  .cases h⟩
end
section
variable[aB.a5]
variable{X:aT}{st:Stmt}
def agL :e7 X st nT:=⟨gL adH λD d H a=>by obtain⟨O,U,S,b,c,st,h,q⟩:=a;cases h⟩
end
section
variable[aB.a5]
variable{X:aT}{a:Expr}{b9:aM->M Bool}
def k0.cm(h:k0 X a b9):fh X a b9:=⟨xn.cm h.un⟩
end
section
variable[aB.a5]
variable{X:aT}{scope esc:Scope}{EN N:List Str}{n:Nat}{cap:List Nat}{elt iter:Expr}{ifs:List Expr}{pos fy:Pos}{x:Str}{it:fP}{t:aM->M Bool}{el:bx}
def AK{py c:Pos}(S:kW esc scope EN N n cap)(m:X.N.Nodup)(k:X.N[i]? = some y)(d:X.env.scope.names.lookup y=some .local)(b:0<n)(hi:qw X (.Name x fy) iter it)(e:N[0]? = some x)(j:∀C a s H,Loc (cI X scope N C a s H).env.scope x/\(cI X scope N C a s H).env.scope.names.lookup x=some .local)(f:∀C a s H,qv (cI X scope N C a s H) ifs t)(g:∀C a s H,ba (cI X scope N C a s H) elt el)(he:X.env.scope=esc:=by rfl)(hN:X.N=EN:=by rfl)(h:X.calm=true:=by rfl)(ax:∀x,alf iter X.env x=pure x:=by intro _;rfl)(l:alW (.ListComp elt [⟨.Name x fy,iter,ifs,0⟩] scope pos) (some (.Name y py)) c.line X.env=pure true:=by rfl):e7 X (.Assign [.Name y py] (.ListComp elt [⟨.Name x fy,iter,ifs,0⟩] scope pos) c) (lQ i (eX n cap it t el)):=⟨gL (G0 S m k d b hi.un e j (λC a s H=>(f C a s H).un) (λC a s H=>(g C a s H).un) he hN h ax l) (Ow (Cm b))⟩
end
section
variable[aB.a5]
variable{X:aT}{scope esc:Scope}{EN N:List Str}{n:Nat}{cap:List Nat}{elt iter:Expr}{ifs:List Expr}{pos fy:Pos}{x:Str}{it:fP}{t:aM->M Bool}{el:bx}
def agI{py c:Pos}(S:kW esc scope EN N n cap)(m:X.N.Nodup)(k:X.N[i]? = some y)(d:X.env.scope.names.lookup y=some .local)(b:0<n)(hi:qw X (.Name x fy) iter it)(e:N[0]? = some x)(j:∀C a s H,Loc (cI X scope N C a s H).env.scope x/\(cI X scope N C a s H).env.scope.names.lookup x=some .local)(f:∀C a s H,qv (cI X scope N C a s H) ifs t)(g:∀C a s H,ba (cI X scope N C a s H) elt el)(he:X.env.scope=esc:=by rfl)(hN:X.N=EN:=by rfl)(h:X.calm=true:=by rfl)(ax:∀x,alf iter X.env x=pure x:=by intro _;rfl)(l:alW (.ListComp elt [⟨.Name x fy,iter,ifs,0⟩] scope pos) (some (.Name y py)) c.line X.env=pure true:=by rfl):e7 X (.Assign [.Name y py] (.ListComp elt [⟨.Name x fy,iter,ifs,0⟩] scope pos) c) (b' i (eX n cap it t el)):=⟨gL (G0 S m k d b hi.un e j (λC a s H=>(f C a s H).un) (λC a s H=>(g C a s H).un) he hN h ax l) (Pr (Cm b))⟩
end
def LR:M bJ:=⟨λS=>.ok S S,λ_ _ _ h=>by cases h;rfl⟩
def hJ:R->M gd
 |.v (.ref n)=>do
  let S <-LR
  match S[n]? with
  |some o=>pure o|none=>bad
 |_=>bad
def Oc{r:R}{S a:bJ}(h:(hJ r).run S=.ok o a):∃n,r=.v (.ref n)/\S[n]? = some o/\S=a:=by
 unfold hJ at h;split at h
 .rename_i n
  obtain⟨T,S1,b,h⟩:=M.inv h;cases b
  cases e:S[n]? with
  |none=>rw[e]at h;cases h
  |some c=>rw[e]at h;cases h;exact⟨n,rfl,e,rfl⟩
 .cases h
def h6{κ α:Type}[DecidableEq κ](k:κ)(a:α):List (κ×α)->List (κ×α)
 |[]=>[(k,a)]
 |(g,x)::r=>if g=k then(g,a)::r else(g,x)::h6 k a r
theorem OT{v:V}:∀aU:List (Str×V),h7 f v aU=h6 f v aU
 |[]=>rfl| (g,x)::r=>by unfold h7 h6;rw[OT r]
section
variable{κ:Type}[DecidableEq κ]
def K8(a:List (κ×D))(k:κ):Option D:=(a.find? λkv=>decide (kv.1=k)).map (·.2)
variable[aB.a5]{K:aO}{mg:bp}{O:a8}{H:aw}
def fC.cons{p:κ×D}{g:List (κ×D)}{d:List (κ×V)}(h:fC K mg O H (p::g) d):∃q r,d=q::r/\p.1=q.1/\Rep K mg O H p.2 q.2/\fC K mg O H g r:=by
 obtain⟨c,f⟩:=h
 cases d with
 |nil=>cases c
 |cons q r=>
  rw[aks,aks]at c f;injection c with c o
  obtain⟨y,t,e,a,b⟩:=f;injection e with av aE
  subst av aE;exact⟨q,r,rfl,c,a,o,b⟩
def fC.mk'{r:List (κ×V)}(a:p.1=q.1)(b:Rep K mg O H p.2 q.2)(h:fC K mg O H o r):fC K mg O H (p::o) (q::r):=
 ⟨by rw[aks,aks,a,h.1],q.2,_,rfl,b,h.2⟩
def fC.ET(h:fC K mg O H [] o):o=[]:=List.map_eq_nil_iff.mp h.1.symm
def fC.len{a:List (κ×D)}{b:List (κ×V)}(h:fC K mg O H a b):b.length=a.length:=by
 have:=congrArg al0 h.1;rw[akh,akh]at this;exact this.symm
theorem fC.val(k:κ):∀{C:List (κ×D)}{o:List (κ×V)},fC K mg O H C o->match K8 C k with
  |some d=>∃v,F_ o k=some v/\Rep K mg O H d v|none=>F_ o k=none
 |[],o,h=>by obtain rfl:=h.ET;exact rfl
 |p::C,o,h=>by
  obtain⟨q,r,rfl,av,aE,h'⟩:=h.cons;unfold K8 F_
  by_cases a:p.1=k
  .rw[amI (by simpa using a),amI (by rw[<-av];simpa using a)]
   exact⟨q.2,rfl,aE⟩
  .rw[amJ (by simpa using a),amJ (by rw[<-av];simpa using a)]
   exact fC.val k h'
theorem fC.h6(k:κ){v:V}(hd:Rep K mg O H d v):∀{C:List (κ×D)}{o:List (κ×V)},fC K mg O H C o->fC K mg O H (aF.h6 k d C) (aF.h6 k v o)
 |[],o,h=>by obtain rfl:=h.ET;exact⟨rfl,_,_,rfl,hd,rfl⟩
 |p::C,o,h=>by
  obtain⟨q,r,rfl,av,aE,h'⟩:=h.cons;obtain⟨p1,ck⟩:=p;obtain⟨br,bP⟩:=q;cases(show p1=br from av);unfold aF.h6;split
  .exact fC.mk' rfl hd h'
  .exact fC.mk' rfl aE (fC.h6 k hd h')
theorem fC.lookup:∀{C:List (Str×D)}{o:List (Str×V)},fC K mg O H C o->C.lookup f=some d->∃v,o.lookup f=some v/\Rep K mg O H d v
 |[],o,h,e=>by cases e
 |p::C,o,h,e=>by
  obtain⟨q,r,rfl,av,aE,h'⟩:=h.cons;obtain⟨p1,ck⟩:=p;obtain⟨br,bP⟩:=q;cases(show p1=br from av);rw[akv]at e ⊢
  cases J:f==p1 with
  |true=>rw[J]at e;cases e;exact⟨bP,rfl,aE⟩
  |false=>rw[J]at e;exact fC.lookup h' e
end
variable[aB.a5]
section
variable{K:aO}{mg:bp}{O:a8}{U:aM}{S ao:bJ}{aq:St}{H:aw}{r:R}{v:V}{o:gd}
def Od(st:cK K mg O U S aq H)(f:ew K mg O H r v)(h:(hJ r).run S=.ok o ao):∃a,v=.ref a/\a∈O.bI/\nM K mg O H a o:=by
 obtain⟨n,rfl,e,rfl⟩:=Oc h;obtain⟨a,c,i⟩:=st.gn n o e;obtain⟨b,g,d⟩:=f;rw[c]at d;cases d;exact⟨a,g,akM c,i⟩
end
structure mI(K:aO)(mg:bp)(c:Str)(aU:List Str):Prop where
 ex:∃C,mg c=some (.ref C)/\i2 K C/\(W.makesIn K C=true/\amc K (.ref C)=true)/\∀f∈aU,qp K C f
def bY(c f:Str)(r:R):M R:=do
 let o <-hJ r
 match o with
 |.bc c' aU=>if c'=c then(match aU.lookup f with
  |some d=>pure (.v d)| none=>bad)else bad
 |_=>bad
def g7(m:bx):bx:=λU=>do
 let x <-m U
 let o <-hJ x
 match o with
 |.l xs=>pure (.mv xs)|_=>bad
section
variable{X:aT}{e o:Expr}{m:bx}{pos:Pos}{c a:Str}{ns:List Str}
theorem P7(T:mI X.K X.mg c ns)(E:a∈ns)(he:ba X e m)(p:alU e a X.env (eval e X.env)=eval e X.env:=by rfl):ba X (.Attribute e a pos) (bb (bY c a) m):=⟨er (ac4 he.un p) λN H Q n=>by
 obtain⟨O,U,S,r,L,st,h,q⟩:=n;obtain⟨x,S1,s,i⟩:=M.inv h;clear h;refine⟨O,U,S,x,S1,st,s,λl P j A f k bw=>?_⟩;obtain⟨o,I,g,h'⟩:=M.inv i;clear i;have h:=h';clear h';obtain⟨b,rfl,_,B⟩:=Od f k g;obtain rfl:=(hJ x).e_ _ _ _ g;split at h
 .rename_i c' aU
  split at h
  .rename_i D
   subst D
   cases el:aU.lookup a with
   |none=>rw[el]at h;cases h
   |some d=>
    rw[el]at h;cases h;obtain⟨C,u,F,y,w,G⟩:=B;obtain⟨R,av,aE,_,eJ⟩:=T.ex;cases av.symm.trans w.1;obtain⟨v,z,t⟩:=G.lookup el;exact⟨b,C,u,F,v,rfl,y,aE,eJ a E,z,q l v j A f t trivial⟩
  .cases h
 .cases h⟩
def ZA{f:St}{H:aw}{Q:cU}{O:a8}{U:aM}{S S1 n:bJ}{x r:R}{g:List D->R}(st:cK X.K X.mg O U S f H)(t:(m U).run S=.ok x S1)
  (h:(do let o <-hJ x;match o with|.l xs=>pure (g xs)|_=>bad:M R).run S1=.ok r n) (q:uy X.K X.mg O U n f H r Q)
  (s:∀d H' xs a ys,d a=.out->H' a=some (.l ys)->bl X.K X.mg d H' xs ys->ew X.K X.mg d H' (g xs) (.ref a)/\jl H (g xs) (.ref a)):fN X.K X.mg m f H Q:=by
 obtain⟨o,E,k,h'⟩:=M.inv h;clear h;have h:=h';clear h';refine⟨O,U,S,x,S1,st,t,λj F i z b p bw=>?_⟩;obtain⟨a,rfl,w,B⟩:=Od b p k;obtain rfl:=(hJ x).e_ _ _ _ k;split at h
 .cases h
  obtain⟨ys,l,u⟩:=B;obtain⟨A,y⟩:=s j i _ a ys (b.cv.cf.2 a w) l u;exact q j _ i z b A y
 .cases h
theorem agk(he:ba X e m):ba X e (g7 m):=⟨er he.un λj H Q b=>by
 obtain⟨O,U,S,r,i,st,h,q⟩:=b;obtain⟨x,S1,d,h⟩:=M.inv h;exact ZA st d h q λg H' xs a ys _ l f=>⟨⟨a,ys,rfl,l,f⟩,trivial⟩⟩
end
end aF
namespace aF
open PySem PySem.Spec aB
structure N(α:Type):Type where
 run:bJ->Out α
def N.hv{α d:Type}(m:N α)(f:α->N d):N d:=⟨λS=>match m.run S with
 |.ok a b=>(f a).run b|.exc c b=>.exc c b| .bad=>.bad⟩
instance:Monad N where
 pure a:=⟨λS=>.ok a S⟩
 bind:=N.hv
def N.inv{α g:Type}{m:N α}{f:α->N g}{S d:bJ}{b:g}(h:(m >>= f).run S=.ok b d):∃a S1,m.run S=.ok a S1/\(f a).run S1=.ok b d:=by
 have h:(N.hv m f).run S=.ok b d:=h;unfold N.hv at h;dsimp only at h
 cases e:m.run S with
 |ok a S1=>rw[e]at h;exact⟨a,S1,rfl,h⟩|exc c S1=>rw[e]at h;cases h
 |bad=>rw[e]at h;cases h
def h5{α:Type}:N α:=⟨λ_=>.bad⟩
def M.up{α:Type}(m:M α):N α:=⟨m.run⟩
def yx:N bJ:=⟨λS=>.ok S S⟩
def putN(S:bJ):N Unit:=⟨λ_=>.ok () S⟩
abbrev eV:=aM->N R
abbrev jV:=aM->N (List R)
abbrev bX:=aM->N fc
abbrev d2:=List D->N R
variable[aB.a5]
structure eu(O ak:a8)(H H':aw):Prop where
 cells:∀b o,H b=some o->(b∉O.bI\/Fix o)->(h:oC o:=by exact trivial)->H' b=some o
 own:∀b,H b≠none->ak b=O b
 has:∀b,H b≠none->H' b≠none
 cC:∀b ps,H b=some (.f9 ps)->∃lq,H' b=some (.f9 lq)
 b1:TabsOk H->TabsOk H'
 bI:O.bI <+: ak.bI
 new:∀b∈ak.bI,b∈O.bI\/H b=none
structure gp(O ak:a8)(H H':aw):Prop where
 cells:∀b o,H b=some o->(((O b=.free\/O b=.out)/\b∉O.bI)\/Fix o)->(h:oC o:=by exact trivial)->H' b=some o
 own:∀b,H b≠none->(O b=.free\/O b=.out)->ak b=O b
 has:∀b,H b≠none->H' b≠none
 cC:∀b ps,H b=some (.f9 ps)->∃lq,H' b=some (.f9 lq)
 b1:TabsOk H->TabsOk H'
 bI:O.bI <+: ak.bI
 new:∀b∈ak.bI,b∈O.bI\/H b=none
structure ff(O ak:a8)(H H':aw):Prop where
 cells:∀b o,H b=some o->((O b=.free/\b∉O.bI/\∃ys,o=.l ys)\/Fix o)->(h:oC o:=by exact trivial)->H' b=some o
 own:∀b ys,H b=some (.l ys)->O b=.free->ak b=.free
 bI:O.bI <+: ak.bI
section
variable{K:aO}{mg:bp}{O aG bo ak:a8}{H H1 aK H':aw}{S ao:bJ}{U U':aM}{aq da:St}
omit [aB.a5]in
theorem h_(e:H b=some o):H b≠none:=λz=>by rw[e]at z;cases z
def Go.de(g:Go O ak H H'):eu O ak H H':=⟨λb o e _ n=>g.same.at' b o e n,g.own,λ_ h=>g.same.some h,g.same.cC,g.same.b1,by rw[g.bI];exact anq _,λb h=>.inl (by rw[<-g.bI];exact h)⟩
def d7.ed(g:d7 O ak H H'):gp O ak H H':=⟨λb o e h n=>g.cells b o e (h.elim (λz=>z.1.elim .inl λz=>.inr (.inl z)) λz=>.inr (.inr z)) n,g.own,g.has,g.cC,g.b1,by rw[g.bI];exact anq _,λb h=>.inl (by rw[<-g.bI];exact h)⟩
def eu.ed(g:eu O ak H H'):gp O ak H H':=⟨λb o e h n=>g.cells b o e (h.imp (·.2) id) n,λb h _=>g.own b h,g.has,g.cC,g.b1,g.bI,g.new⟩
def eu.trans(a:eu O aG H H1)(b:eu aG bo H1 aK):eu O bo H aK:=
  ⟨λc o e h n=>b.cells c o (a.cells c o e h n) (h.imp (λz m=>(a.new c m).elim z (h_ e)) id) n,λc h=>(b.own c (a.has c h)).trans (a.own c h),λc h=>b.has c (a.has c h),λc ps h=>let⟨p1,av⟩:=a.cC c ps h;b.cC c p1 av,λg=>b.b1 (a.b1 g),
   a.bI.trans b.bI,λc m=>(b.new c m).elim (a.new c) λz=>.inr (by cases e:H c with|none=>rfl|some o=>exact absurd z (a.has c (h_ e)))⟩
def gp.trans(a:gp O aG H H1)(b:gp aG bo H1 aK):gp O bo H aK:=
  ⟨λc o e h n=>b.cells c o (a.cells c o e h n) (h.imp (λz=>⟨by rw[a.own c (h_ e) z.1];exact z.1,λm=>(a.new c m).elim z.2 (h_ e)⟩) id) n,
   λc h f=>(b.own c (a.has c h) (by rw[a.own c h f];exact f)).trans (a.own c h f),λc h=>b.has c (a.has c h),λc ps h=>let⟨p1,av⟩:=a.cC c ps h;b.cC c p1 av,λg=>b.b1 (a.b1 g),
   a.bI.trans b.bI,λc m=>(b.new c m).elim (a.new c) λz=>.inr (by cases e:H c with|none=>rfl|some o=>exact absurd z (a.has c (h_ e)))⟩
def gp.hD(g:gp O ak H H'):ff O ak H H':=⟨λb o e h n=>g.cells b o e (h.imp (λz=>⟨.inl z.1,z.2.1⟩) id) n,λb ys e f=>(g.own b (h_ e) (.inl f)).trans f,g.bI⟩
def ff.Ae(g:ff O ak H H')(h:dy K H a ys):dy K H' a ys:=by
 rcases h with(h|⟨o,h⟩)|h
 .exact .inl (.inl (g.cells _ _ h (.inr (.inl ⟨_,rfl⟩))))
 .exact .inl (.inr ⟨o,g.cells _ _ h (.inr (.inr ⟨_,_,rfl⟩))⟩)
 .exact .inr h
omit [aB.a5]in
theorem jm.no(r:jm O)(h:O a=w)(hw:w≠.out):a∉O.bI:=λm=>hw (h.symm.trans (r.2 a m))
mutual
theorem Rep.hD(g:ff O ak H H')(cf:jm O):∀{d:D}{v:V},Rep K mg O H d v->Rep K mg ak H' d v
 |.aJ,_,h=>h|.ay _,_,h=>h|.int _,_,h=>h|.str _,_,h=>h| .t _,_,h=>by obtain⟨a,ys,q,l,r⟩:=h;exact⟨a,ys,q,g.Ae l,bl.hD g cf r⟩
 |.l _,_,h=>by obtain⟨a,ys,q,l,r⟩:=h;exact⟨a,ys,q,⟨g.cells _ _ l.1 (.inl ⟨l.2,cf.no l.2 (by intro z;cases z),_,rfl⟩),g.own a _ l.1 l.2⟩,bl.hD g cf r⟩
 |.ref _,_,h=>by
  obtain⟨a,q,l⟩:=h;obtain⟨t,e⟩:=g.bI;exact⟨a,q,by rw[<-e,akD (akd.mp l).1];exact l⟩
 |.fn _,_,h=>h|.ty _,_,h=>h
theorem bl.hD(g:ff O ak H H')(cf:jm O):∀{ds:List D}{ys:List V},bl K mg O H ds ys->bl K mg ak H' ds ys
 |[],_,h=>h| _::_,_,h=>by obtain⟨x,r,q,a,b⟩:=h;exact⟨x,r,q,Rep.hD g cf a,bl.hD g cf b⟩
end
def bl.ed(g:gp O o H H')(cf:jm O)(h:bl K mg O H ds ys):bl K mg o H' ds ys:=h.hD g.hD cf
def Rep.de(g:eu O o H H')(cf:jm O){v:V}(h:Rep K mg O H d v):Rep K mg o H' d v:=h.hD g.ed.hD cf
def bl.de(g:eu O o H H')(cf:jm O)(h:bl K mg O H ds ys):bl K mg o H' ds ys:=h.ed g.ed cf
def R.iB:R->Bool
 |.v _=>true|.fr _=>true|_=>false
def ew.de(g:eu O C H H')(cf:jm O){r:R}{v:V}(ax:r.iB=true)(h:ew K mg O H r v):ew K mg C H' r v:=by
 cases r with
 |v d=>exact Rep.de g cf h| fr xs=>obtain⟨a,ys,q,l,o,r⟩:=h;exact⟨a,ys,q,g.cells _ _ l (.inl (cf.no o (by intro z;cases z))),(g.own a (h_ l)).trans o,r.de g cf⟩
 |bN xs=>cases ax
 |mv xs=>cases ax
def jl.de(g:eu O C H H'):∀{r:R}{v:V},jl H' r v->jl H r v
 |.v _,_,_=>trivial|.bN _,_,_=>trivial|.mv _,_,_=>trivial|.fr _,_,h=>λa e=>by
  cases av:H a with
  |none=>rfl|some o=>exact absurd (h a e) (g.has a (h_ av))
def qo(K:aO)(O:a8)(H:aw)(a:Addr)(ys:List V):Prop:=(hr H a (.l ys)/\(O a=.free\/O a=.out)/\a∉O.bI)\/A' K a ys
structure dx(K:aO)(mg:bp)(O:a8)(U:aM)(S:bJ)(aq:St)(H:aw):Prop where
 s3:cK K mg O U S aq H
 full:O.bI.length=S.length
 qf:∀(i:Nat)(xs:List D),U[i]? = some (.bN xs)->∃a ys,aq[i]?.join=some (.ref a)/\qo K O H a ys/\bl K mg O H xs ys
def qo.ed(g:gp O C H H')(h:qo K O H a ys):qo K C H' a ys:=by
 rcases h with⟨h,f,m⟩|h
 .have b:H a≠none:=hr.some h
  refine .inl ⟨?_,by rw[g.own a b f];exact f,λz=>(g.new a z).elim m b⟩;rcases h with h|⟨o,h⟩
  .exact .inl (g.cells _ _ h (.inl ⟨f,m⟩))
  .exact .inr ⟨o,g.cells _ _ h (.inl ⟨f,m⟩)⟩
 .exact .inr h
def qo.v(h:qo K O H a ys):hP K O H a ys:=h.imp (λz=>⟨z.1,z.2.1⟩) id
def dx.go(s:dx K mg O U S C H)(g:Go O o H H')(d:dg o H'):dx K mg o U S C H':=
 ⟨s.s3.go g d,by rw[g.bI];exact s.full,λi xs e=>by obtain⟨a,ys,av,l,r⟩:=s.qf i xs e;exact⟨a,ys,av,l.ed g.bZ.ed,r.go g⟩⟩
def dx.bZ(s:dx K mg O U S J H)(g:d7 O o H H')(k:fg U U' J C)(t:cK K mg o U' S C H'):dx K mg o U' S C H':=
 ⟨t,by rw[g.bI];exact s.full,λi xs e=>by
  obtain⟨b,c⟩:=k.1 i xs e;obtain⟨a,ys,av,l,r⟩:=s.qf i xs b;exact⟨a,ys,by rw[c];exact av,l.ed g.ed,bl.bZ g r⟩⟩
def dx.de(s:dx K mg O U S aq H)(g:eu O C H H')(d:dg C H')(dX:fW K mg C H' J)(b:C.bI.length=J.length):dx K mg C U J aq H':=by
 have cf:=s.s3.cv.cf;have bN:∀(i:Nat)(xs:List D),U[i]? = some (.bN xs)->∃a ys,aq[i]?.join=some (.ref a)/\qo K C H' a ys/\bl K mg C H' xs ys:=λi xs e=>by
  obtain⟨a,ys,av,l,r⟩:=s.qf i xs e;exact⟨a,ys,av,l.ed g.ed,r.de g cf⟩
 refine⟨⟨d,s.s3.len,λi t e=>?_,dX⟩,b,bN⟩;have l:=s.s3.loc i t e
 cases t with
 |e=>exact trivial|v d=>obtain⟨v,q,r⟩:=l;exact⟨v,q,r.de g cf⟩
 |dB p xs=>obtain⟨a,ys,q,o,l,r⟩:=l;exact⟨a,ys,q,(g.own a (h_ l)).trans o,g.cells _ _ l (.inl (cf.no o (by intro z;cases z))),r.de g cf⟩
 |bN xs=>obtain⟨a,ys,av,l,r⟩:=bN i xs e;exact⟨a,ys,av,l.v,r⟩
end
inductive rZ{α:Type}(K:aO)(mg:bp)(m:aM->N α)(aq:St)(H:aw)(P:a8->aM->bJ->α->Prop):Prop
 |mk (O:a8) (U:aM) (S:bJ) (x:α) (ao:bJ) (st:dx K mg O U S aq H) (h:(m U).run S=.ok x ao) (q:P O U ao x):rZ K mg m aq H P
def xf(K:aO)(mg:bp)(m:eV):TE:=λb H Q=>rZ K mg m b H λO U c r=>∀a v H',eu O a H H'->dx K mg a U c b H'->ew K mg a H' r v->jl H r v->Q v H'
def Ql(K:aO)(mg:bp)(m:aM->N Bool):TT:=λc H Q=>rZ K mg m c H λO U d b=>∀a H',eu O a H H'->dx K mg a U d c H'->Q b H'
def Gl(K:aO)(mg:bp)(m:jV):fR:=λb H Q=>rZ K mg m b H λO U c rs=>∀a vs H',eu O a H H'->dx K mg a U c b H'->i6 K mg a H' rs vs->kq H rs vs->Q vs H'
def uz(K:aO)(mg:bp)(O:a8)(c:bJ)(H:aw)(e:fc)(d:Ends):Prop:=match e with
 |.bw U'=>∀a b H',gp O a H H'->dx K mg a U' c b H'->d.bw b H'|.bk U'=>∀a b H',gp O a H H'->dx K mg a U' c b H'->d.bk b H'|.cm U'=>∀a b H',gp O a H H'->dx K mg a U' c b H'->d.cm b H'|.cn r=>∀a v H',gp O a H H'->dg a H'->fW K mg a H' c->a.bI.length=c.length->Be K mg a H' r v->d.cn v H'
def uz.ed{O c:a8}(h:uz K mg O C H o J)(g:gp O c H H1):uz K mg c C H1 o J:=by
 cases o with
 |bw U'=>exact λa b H' g'=>h a b H' (g.trans g')
 |bk U'=>exact λa b H' g'=>h a b H' (g.trans g')
 |cm U'=>exact λa b H' g'=>h a b H' (g.trans g')
 |cn r=>exact λa v H' g'=>h a v H' (g.trans g')
def o_(K:aO)(mg:bp)(m:bX):gu:=λd c H=>rZ K mg m c H λO _ b a=>uz K mg O b H a d
section
variable(X:aT)
structure fX(e:Expr)(m:eV):Prop where
 un:b2 X e (xf X.K X.mg m)
structure uD(e:Expr)(m:aM->N Bool):Prop where
 un:ik X e (Ql X.K X.mg m)
structure pw(az:List Expr)(m:jV):Prop where
 un:gS X az (Gl X.K X.mg m)
structure gg(st:Stmt)(m:bX):Prop where
 un:ih X st (o_ X.K X.mg m)
structure ip(tY:List Stmt)(m:bX):Prop where
 un:ij X tY (o_ X.K X.mg m)
end
def dJ(m:bx):eV:=λU=>(m U).up
def fH(m:aM->M Bool):aM->N Bool:=λU=>(m U).up
def eF(m:cZ):jV:=λU=>(m U).up
def b5(m:aN):bX:=λU=>(m U).up
section
variable{X:aT}{e:Expr}{az:List Expr}{m:bx}{t:aM->M Bool}{ms:cZ}{b:aN}{st:Stmt}{tY:List Stmt}
theorem ahe(h:ba X e m):fX X e (dJ m):=⟨er h.un λk H Q i=>by
 obtain⟨O,U,S,r,a,st,h,q⟩:=i;obtain rfl:=(m U).e_ _ _ _ h;exact⟨O,U,a,r,a,st.s3,h,λf v d c g j nn=>q f v d c.de (st.go c g.cv) j nn⟩⟩
theorem ahr(h:fh X e t):uD X e (fH t):=⟨wD h.un λj H Q i=>by
 obtain⟨O,U,S,r,a,st,h,q⟩:=i;obtain rfl:=(t U).e_ _ _ _ h;exact⟨O,U,a,r,a,st.s3,h,λf d c g=>q f d c.de (st.go c g.cv)⟩⟩
theorem ag7(h:gv X az ms):pw X az (eF ms):=⟨z1 h.un λk H Q i=>by
 obtain⟨O,U,S,r,a,st,h,q⟩:=i;obtain rfl:=(ms U).e_ _ _ _ h;exact⟨O,U,a,r,a,st.s3,h,λf v d c g j nn=>q f v d c.de (st.go c g.cv) j nn⟩⟩
theorem Qk:∀D f H,o_ K mg (b5 b) D f H->ly K mg b D f H:=by
 rintro D f H ⟨O,U,S,i,j,st,h,q⟩;obtain rfl:=(b U).e_ _ _ _ h;refine⟨O,U,j,i,j,st.s3,h,?_⟩
 cases i with
 |bw U'=>exact λa c H' g t k=>q a c H' g.ed (st.bZ g k t)
 |bk U'=>exact λa c H' g t k=>q a c H' g.ed (st.bZ g k t)
 |cm U'=>exact λa c H' g t k=>q a c H' g.ed (st.bZ g k t)
 |cn r=>exact λa v H' g d dX l=>q a v H' g.ed d dX (by rw[g.bI];exact st.full) l
def ahl(h:e7 X st b):gg X st (b5 b):=⟨gL h.un Qk⟩
def Qq(h:ht X tY b):ip X tY (b5 b):=⟨z3 h.un Qk⟩
end
end aF
namespace aF
open PySem PySem.Spec aB
def bB(a b:bX):bX:=λU=>do
 let c <-a U
 match c with
 |.bw U'=>b U'|c=>pure c
def fz(t:aM->N Bool)(a b:bX):bX:=λU=>do
 let t <-t U
 if t=true then a U else b U
def rP(i:Nat)(m:eV):bX:=λU=>do
 let r <-m U
 let d <-r.dat.up
 pure (.bw (U.set i (.v d)))
def jP(m:eV):bX:=λU=>do
 let r <-m U
 match r with
 |.v d=>pure (.cn (.v d))|.fr xs=>pure (.cn (.fr xs))|_=>h5
def hn(m:eV):bX:=λU=>do
 let _ <-m U
 pure (.bw U)
variable[aB.a5]
section
variable{K:aO}{mg:bp}{O pk:a8}{H H₀:aw}{S:bJ}{U:aM}{aq:St}
def dx.cD(s:dx K mg O U S aq H)(H₀:aw):dx K mg (cD H₀ O) U S aq H:=⟨s.s3.cD H₀,s.full,λi xs e=>by
 obtain⟨a,ys,av,l,r⟩:=s.qf i xs e;refine⟨a,ys,av,l.imp (λz=>⟨z.1,?_,z.2.2⟩) id,r.c6 (i_ _ _)⟩;rcases z.2.1 with f|f
 .exact .inl ((i_ H₀ O).fr a f)
 .exact .inr (by rw[qV (by rw[f];intro z;cases z)];exact f)⟩
def eu.cD(g:eu pk O H₀ H):eu pk (cD H₀ O) H₀ H:=⟨λb o e h n=>g.cells b o e h n,λb a=>(CW a).trans (g.own b a),g.has,g.cC,g.b1,g.bI,g.new⟩
def dx.set{s:Slot}{v:V}(st:dx K mg O U S aq H)(ax:∀xs,s≠.bN xs)(h:jn K mg O H (.loc i) s (some v)):dx K mg O (U.set i s) S (aq.set i (some v)) H:=⟨st.s3.set h,st.full,λj xs e=>by
 by_cases a:i=j
 .subst a
  rw[akE (by have:=(akd.mp e).1;rwa[akS]at this)]at e;exact absurd (akI e) (ax xs)
 .rw[akn a]at e
  rw[akn a];exact st.qf j xs e⟩
end
section
variable{X:aT}{st:Stmt}{rest A B:List Stmt}{pos pos':Pos}{a b:bX}{e c:Expr}{m:eV}{t:aM->N Bool}{i:Nat}{x:Str}
def ahq(h:gg X st a):ip X [st] a:=⟨OS h.un⟩
def ahp(d:gg X st a)(p:ip X rest b):ip X (st::rest) (bB a b):=⟨z3 (OR d.un p.un) λD y H n=>by
 obtain⟨O,U,S,k,s,st,h,q⟩:=n;obtain⟨g,S1,d,h⟩:=N.inv h;refine⟨O,U,S,g,S1,st,d,?_⟩
 cases g with
 |bw f=>exact λj z w u l=>⟨j,f,S1,k,s,l,h,q.ed u⟩
 |cn r=>cases h;exact q
 |bk f=>cases h;exact q
 |cm f=>cases h;exact q⟩
theorem ahj(s:uD X c t)(r:ip X A a)(n:ip X B b):gg X (.If c A B pos) (fz t a b):=⟨gL (OP s.un r.un n.un) λD w H l=>by
 obtain⟨O,U,S,f,j,st,h,q⟩:=l;obtain⟨t,S1,p,h⟩:=N.inv h;refine⟨O,U,S,t,S1,st,p,λd u k g=>?_⟩
 cases t with
 |false=>
  rw[if_neg akl]at h;exact og ⟨d,U,S1,f,j,g,h,q.ed k.ed⟩
 |true=>
  rw[if_pos rfl]at h;exact oh ⟨d,U,S1,f,j,g,h,q.ed k.ed⟩⟩
theorem ahm(he:fX X e m):gg X (.Return (some e) pos) (jP m):=⟨gL (Fg he.un) λD w H n=>by
 obtain⟨O,U,S,s,u,st,h,q⟩:=n;obtain⟨r,S1,p,h⟩:=N.inv h;refine⟨O,U,S,r,S1,st,p,λj v g l f k nn=>?_⟩
 cases r with
 |v d=>cases h;exact q j v g l.ed f.s3.cv f.s3.gn f.full k
 |fr xs=>cases h;exact q j v g l.ed f.s3.cv f.s3.gn f.full (Ph k (.inr ⟨_,rfl⟩))
 |bN xs=>cases h
 |mv xs=>cases h⟩
theorem ahh(he:fX X e m)(ax:alW e none pos.line X.env=pure false:=by rfl):gg X (.Expr e pos) (hn m):=⟨gL (Ff he.un ax) λD l H j=>by
 obtain⟨O,U,S,p,s,st,h,q⟩:=j;obtain⟨r,S1,k,h⟩:=N.inv h;cases h;exact⟨O,U,S,r,_,st,k,λf v d n g u nn=>q f l d n.ed g⟩⟩
theorem ahn(hN:X.N.Nodup)(hi:X.N[i]? = some x)(p:Loc X.env.scope x)(he:fX X e m)(ax:alW e (some (.Name x pos')) pos.line X.env=pure false:=by rfl)(w:X.fn x=true\/X.env.scope.names.lookup x=some .local:=by first|exact .inl rfl|exact .inr rfl|assumption) :
  gg X (.Assign [.Name x pos'] e pos) (rP i m):=⟨gL (Fh hN hi p he.un ax w) λD G H k=>by
 obtain⟨O,U,S,y,F,st,h,q⟩:=k;obtain⟨r,S1,l,h⟩:=N.inv h;obtain⟨d,E,n,h⟩:=N.inv h;cases h;refine⟨O,U,S,r,S1,st,l,λg v f u j s nn=>?_⟩;obtain⟨c_,rfl⟩:=pC (H₀:=H) s nn n;exact q (cD H g) _ f u.cD.ed ((j.cD H).set (λxs z=>by cases z) ⟨v,rfl,c_⟩)⟩
end
def GH(b:ie)(O:a8)(H:aw)(ys:List V):Prop:=∀c a,gp O c H a->∀i,(i<ys.length->b.go i a/\∀x H',b.o' i a x H'->H'=a/\ys[i]? = some x)/\(ys.length<=i->b.stop i a)
def F7(K:aO)(mg:bp)(m:fP):TI:=λb H R=>rZ K mg (λU=>(m U).up) b H λO U d xs=>∀a H' c ys,Go O a H H'->dx K mg a U d b H'->GH c a H' ys->bl K mg a H' xs ys->R c H'
structure xJ(X:aT)(cg e:Expr)(m:fP):Prop where
 un:jT X cg e (F7 X.K X.mg m)
def nG(b:D->bX):List D->bX
 |[]=>λU=>pure (.bw U)
 |d::ds=>λU=>do
  let a <-b d U
  match a with
  |.bw U'=>nG b ds U'|.cm U'=>nG b ds U'|.bk U'=>pure (.bw U')|.cn r=>pure (.cn r)
def Qe(B:D->bX)(it:fP):bX:=λU=>do
 let ds <-(it U).up
 nG B ds U
abbrev xc(i:Nat)(it:fP)(b:bX):bX:=Qe (λd U=>b (U.set i (.v d))) it
section
variable{X:aT}{cg iter:Expr}{m:bx}{a:Expr}{ms:cZ}{pos p fy:Pos}{it:fP}{bd:bX}{body:List Stmt}{i:Nat}{x:Str}
theorem MV{O:a8}(lo:Int)(n:Nat):GH (mL lo n) O H (mn lo n):=λc b _ i=>DY (H:=b) lo n b (eC.refl _) i
def ahf(g:eb X "range")(t:X.mg "range"=none)(n:gv X [a] ms)(ax:ake [a] X.env=[(false,eval a X.env)]:=by rfl):xJ X cg (.Call (.Name "range" p) [a] [] pos) (h2 ms):=⟨oK (Fe g t n.un ax) λw H R l=>by
 obtain⟨O,U,S,xs,u,st,h,q⟩:=l;obtain rfl:=(h2 ms U).e_ _ _ _ h;obtain⟨rs,S1,b,h⟩:=M.inv h;obtain rfl:=(ms U).e_ _ _ _ b;split at h
 .rename_i j
  by_cases c:-(2 ^ 62)<=j/\j<2 ^ 62
  .rw[if_pos c]at h
   cases h;refine⟨O,U,S1,_,S1,st.s3,b,λf vs e d k s nn=>?_⟩;obtain⟨v,rfl,r⟩:=kM s;cases(show v=.int j from r);exact⟨j,rfl,c.1,c.2,q f e (mL 0 j.toNat) (mn 0 j.toNat) d (st.go d k.cv) (MV _ _) (FA _ _)⟩
  .rw[if_neg c]at h;cases h
 .cases h⟩
theorem ZE{K:aO}{mg:bp}{H:ie}{G:iM}{B:aF.D->bX}{b:List aF.D}{u:a8}{U:aM}{S1 E:bJ}{P:St}{t:aw}{A:fc}{T:Ends}(V:dx K mg u U S1 P t)(stop:∀c H',gp u c t H'->H.stop b.length H')
  (step:∀k d c H' U' n w f j,b[k]? = some d->gp u c t H'->dx K mg c U' n w H'->(B d U').run n=.ok f j->H.go k H'/\∀x g (R:St->aw->Prop),H.o' k H' x g->
   (∀L O F,gp c c H' F->dx K mg c L n O F->(bd L).run n=.ok f j->R O F)->G x w g R)
  (h:(nG B b U).run S1=.ok A E) (q:uz K mg u E t A T):w0 (λ_ _ R=>R H t) G (o_ K mg bd) T P t:=by
 refine⟨λk m w H'=>m=b.length-k/\k<=b.length/\∃c U' n,dx K mg c U' n w H'/\gp u c t H'/\(nG B (b.drop k) U').run n=.ok A E,
  ⟨_,rfl,akY _,u,U,S1,V,(d7.refl _ _).ed,h⟩,?_⟩
 rintro k m w H' ⟨rfl,au,c,U',n,S,g',h⟩
 cases e:b.drop k with
 |nil=>
  obtain rfl:k=b.length:=by
   have:=congrArg al0 e;rw[alj,alz]at this;omega
  rw[e]at h;cases h;exact .inl ⟨stop c H' g',q c w H' g' S⟩
 |cons d hA=>
  have C:k<b.length:=by
   have:=congrArg al0 e;rw[alj,akO]at this;omega
  have J:b[k]? = some d:=by
   have:=congrArg (·[0]?) e;simpa using this
  have Q:b.drop (k+1)=hA:=by
   have:=congrArg (List.drop 1) e;simpa[anS]using this
  rw[e]at h;obtain⟨M,j,Y,h⟩:=N.inv h;obtain⟨go,mB⟩:=step k d c H' U' n w M j J g' S Y;refine .inr ⟨go,λz g=>∃l s j,dx K mg l s j z g/\gp u l t g/\(nG B (b.drop (k+1)) s).run j=.ok A E,?_,λx g kT=>mB x g _ kT λL O F kA rE W=>?_⟩
  .rintro z g ⟨l,s,j,a1,a2,eW⟩
   exact⟨_,by omega,rfl,C,l,s,j,a1,a2,eW⟩
  .refine⟨c,L,n,M,j,rE,W,?_⟩
   have I:=g'.trans kA
   cases M with
   |bw s=>exact λl z g y bL=>⟨l,s,j,bL,I.trans y,by rw[Q];exact h⟩
   |cm s=>exact λl z g y bL=>⟨l,s,j,bL,I.trans y,by rw[Q];exact h⟩
   |bk s=>cases h;exact λl z g y bL=>q l z g (I.trans y) bL
   |cn r=>cases h;exact λl v g y o aE f2 Z=>q l v g (I.trans y) o aE f2 Z
theorem Ut{G:iM}{B:aF.D->bX}(T:∀O U S b H d y f c Q,dx K mg O U S b H->Rep K mg O H d y->(B d U).run S=.ok f c->(∀j l,dx K mg O j S l H->(bd j).run S=.ok f c->Q l H)->G y b H Q) :
  ∀D b H,o_ K mg (Qe B it) D b H->w0 (F7 K mg it) G (o_ K mg bd) D b H:=by
 rintro D b H ⟨O,U,S,Z,o,st,h,q⟩;obtain⟨ds,S1,w,h⟩:=N.inv h;refine⟨O,U,S,ds,S1,st,w,λY W C ys I n its r=>ZE n (λe H' g=>(its e H' g _).2 (am4 r.len)) (λk d e H' U' e6 J f c F g' E z=>?_) h (q.ed I.bZ.ed)⟩;obtain⟨y,s,A⟩:=(r.ed g' n.s3.cv.cf).get F;obtain⟨go,P⟩:=(its e H' g' k).1 (akd.mp s).1;refine⟨go,λx t R M L=>?_⟩;obtain⟨rfl,ex⟩:=P x t M;rw[s]at ex;cases ex;exact T _ _ _ _ _ _ _ _ _ _ E A z λj l V u=>L _ _ _ (d7.refl _ _).ed V u
def ahi(b:an2 (model X.prog X.w) X.A X.env X.dP)(f:X.calm=true)(hi:xJ X (.Name x fy) iter it)(hN:X.N.Nodup)(d:X.N[i]? = some x)(hl:Loc X.env.scope x)(c:ip X body bd)
  (ax:∀x,alf iter X.env x=pure x:=by intro _;rfl) (g:X.fn x=true\/X.env.scope.names.lookup x=some .local:=by first|exact .inl rfl|exact .inr rfl|assumption):gg X (.For (.Name x fy) iter body [] pos) (xc i it bd):=
 ⟨gL (OO b f hi.un (tJ hN d hl g) c.un ax) (Ut λ_ _ _ _ _ _ _ _ _ _ st e h k=>k _ _ (st.set (s:=.v _) (λxs z=>by cases z) ⟨_,rfl,e⟩) h)⟩
end
end aF
namespace aF
open PySem PySem.Spec aB
def fnX(n N:Nat)(b:bX):d2:=λds=>if ds.length=n then do
  let a <-b (ds.map b8++akW (N-n) .e)
  match a with
  |.cn (.v d)=>pure (.v d)|.cn (.fr xs)=>pure (.fr xs)|.bw _=>pure (.v .aJ)|_=>h5
 else h5
def CR{n N:Nat}{ds:List D}{S a:bJ}{r:R}(h:(fnX n N b ds).run S=.ok r a):ds.length=n:=by
 unfold fnX at h
 by_cases c:ds.length=n
 .exact c
 .rw[if_neg c]at h;cases h
def qk:jV:=λ_=>pure []
def ud(m:eV)(ms:cZ):jV:=λU=>do
 let x <-m U
 let xs <-(ms U).up
 pure (x::xs)
def uc(mf:d2)(ms:jV):eV:=λU=>do
 let rs <-ms U
 if rs.all R.iB=true then mf (rs.map R.arg)else h5
def dZ(c m:Str)(mf:d2)(mo:bx)(ms:jV):eV:=λU=>do
 let x <-(mo U).up
 let o <-(hJ x).up
 match o with
 |.bc c' aU=>if c'=c/\aU.lookup m=none then(do
  let rs <-ms U
  if rs.all R.iB=true then mf (x.arg::rs.map R.arg)else h5)else h5
 |_=>h5
def o7(c:Str)(mf:d2)(ms:jV):eV:=λU=>do
 let rs <-ms U
 if rs.all R.iB=true then(do
  let S <-yx
  putN (S++[.bc c []])
  let r <-mf (.ref S.length::rs.map R.arg)
  match r with
  |.v .aJ=>pure (.v (.ref S.length))| _=>h5)else h5
variable[aB.a5]
def pb(K:aO)(mg:bp)(O:a8)(H:aw):D->V->Prop
 |.l xs,v=>∃a ys,v=.ref a/\((hr H a (.l ys)/\a∉O.bI)\/A' K a ys)/\bl K mg O H xs ys|d,v=>Rep K mg O H d v
def mG(K:aO)(mg:bp)(O:a8)(H:aw):List D->List V->Prop
 |[],ys=>ys=[]|x::xs,ys=>∃y r,ys=y::r/\pb K mg O H x y/\mG K mg O H xs r
section
variable{K:aO}{mg:bp}{O:a8}{H:aw}{S:bJ}
def pb.rep{v:V}(cf:jm O)(h:Rep K mg O H d v):pb K mg O H d v:=by
 cases d with
 |l xs=>obtain⟨a,ys,e,l,r⟩:=h;exact⟨a,ys,e,.inl ⟨.inl l.1,cf.no l.2 (by intro z;cases z)⟩,r⟩
 |_=>exact h
def Rg{r:R}{v:V}(cf:jm O)(ax:r.iB=true)(h:ew K mg O H r v):pb K mg O H r.arg v:=by
 cases r with
 |v d=>exact pb.rep cf h| fr xs=>obtain⟨a,ys,e,l,t,r⟩:=h;exact⟨a,ys,e,.inl ⟨.inl l,cf.no t (by intro z;cases z)⟩,r⟩
 |bN _=>cases ax
 |mv _=>cases ax
theorem xO(cf:jm O):∀{rs:List R}{vs:List V},rs.all R.iB=true->i6 K mg O H rs vs->mG K mg O H (rs.map R.arg) vs
 |[],_,_,h=>h|_::_,_,ax,h=>by
  rw[amS,akH]at ax;obtain⟨y,r,q,a,b⟩:=h;exact⟨y,r,q,Rg cf ax.1 a,xO cf ax.2 b⟩
def pb.r{v:V}(h:pb K mg O H d v):ui K mg O H d v:=by
 cases d with
 |l xs=>obtain⟨a,ys,e,l,r⟩:=h;exact⟨a,ys,e,l.imp (·.1) id,r⟩
 |_=>exact h
theorem mG.r:∀{ds:List D}{vs:List V},mG K mg O H ds vs->lD K mg O H ds vs
 |[],_,h=>h| _::_,_,h=>by obtain⟨y,r,q,a,b⟩:=h;exact⟨y,r,q,a.r,mG.r b⟩
theorem mG.get:∀{ds:List D}{xs:List V}{i:Nat}{d:D},mG K mg O H ds xs->ds[i]? = some d->∃x,xs[i]? = some x/\pb K mg O H d x
 |[],_,_,_,_,e=>by simp at e| _::_,_,0,d,h,e=>by obtain⟨x,r,rfl,a,_⟩:=h;cases(show some _=some d from e);exact⟨x,rfl,a⟩
 |_::ds,_,i+1,d,h,e=>by
  obtain⟨x,r,rfl,_,b⟩:=h;obtain⟨y,av,aE⟩:=mG.get (i:=i) b (by simpa using e);exact⟨y,by simpa using av,aE⟩
def hM(K:aO)(mg:bp)(mf:d2):en:=λvs H Q _=>∃O ds r S b,dg O H/\fW K mg O H S/\O.bI.length=S.length/\mG K mg O H ds vs/\(mf ds).run S=.ok r b/\
 ∀a v H',eu O a H H'->dg a H'->fW K mg a H' b->a.bI.length=b.length->ew K mg a H' r v->jl H r v->Q v H'
def aeT{ps N:List Str}{ds:List D}(h:dg O H)(dX:fW K mg O H S)(f:O.bI.length=S.length)(b:mG K mg O H ds vs)(hl:ds.length=ps.length):dx K mg (d4 O) (ds.map b8++akW (N.length-ps.length) .e) S (aB.start N vs) H:=by
 refine⟨FR h dX b.r hl,f,λi xs e=>?_⟩
 by_cases hi:i<ds.length
 .rw[akD (by rw[akh];exact hi),akA]at e
  cases o:ds[i]? with
  |none=>rw[o]at e;cases e
  |some d=>
   rw[o]at e;obtain⟨v,c,g⟩:=b.get o
   cases d with
   |l j=>
    cases e;obtain⟨a,ys,rfl,l,r⟩:=g;refine⟨a,ys,?_,l.imp (λz=>⟨z.1,k2 O a,z.2⟩) id,r.c6 (jX O)⟩;unfold aB.start;rw[akD (by rw[akh];exact(akd.mp c).1),akA,c];rfl
   |_=>cases e
 .rw[akz (by rw[akh];omega),alO]at e
  split at e
  .cases e
  .cases e
theorem IU{ps N:List Str}(J:hM K mg (fnX ps.length N.length C) vs H Q E):o_ K mg C { bw:=λ_ H'=>Q .aJ H',cn:=Q } (aB.start N vs) H:=by
 obtain⟨O,ds,r,S,ao,x,dX,M,Z,h,q⟩:=J;have hl:=CR h;unfold fnX at h;rw[if_pos hl]at h;obtain⟨I,S1,R,h⟩:=aF.N.inv h;have U:=aeT (N:=N) x dX M Z hl;have back:∀{c:a8}{H':aw},gp (d4 O) c H H'->dg c H'->∃j:a8,eu O j H H'/\dg j H'/\lF c j/\∀b,(c b=.dq\/∃i,c b=.loc i)->H b=none/\j b=.dq:=λ{c H'} g d=>by
  have F:∀b,H b≠none->(match H b with|some _=>O b|none=>(match c b with|.loc _=>.dq|o=>o))=O b:=λb f=>by
   cases e:H b with
   |none=>exact absurd e f|some o=>rfl
  have A:∀b,H b=none->(match H b with|some _=>O b|none=>(match c b with|.loc _=>.dq|o=>o))=(match c b with|.loc _=>Own.dq|o=>o):=λb f=>by rw[f]
  refine⟨⟨λb=>match H b with|some _=>O b|none=>(match c b with|.loc _=>.dq|o=>o),c.bI⟩,⟨λb o e h n=>g.cells b o e (h.imp (λz=>⟨k2 O b,z⟩) id) n,F,g.has,g.cC,g.b1,g.bI,g.new⟩,⟨λb f=>?_,d.tabs,d.cf.1,λb m=>?_⟩,⟨λb f=>?_,rfl⟩,λb f=>?_⟩
  .cases e:H b with
   |some o=>exact g.has b (h_ e)|none=>
    refine d.has b λz=>f ?_
    refine(A b e).trans ?_;rw[z]
  .rcases g.new b m with z|z
   .exact(F b (x.has b (by rw[x.cf.2 b z];intro z;cases z))).trans (x.cf.2 b z)
   .refine(A b z).trans ?_
    rw[d.cf.2 b m]
  .cases e:H b with
   |some o=>exact(F b (h_ e)).trans (nS.mp ((g.own b (h_ e) (k2 O b)).symm.trans f))|none=>
    refine(A b e).trans ?_;rw[f]
  .have p:H b=none:=by
    cases e:H b with
    |none=>rfl|some o=>
     exfalso;have br:=g.own b (h_ e) (k2 O b);rcases k2 O b with z|z<;>rw[z]at br<;>rcases f with w|⟨i,w⟩<;>rw[br]at w<;>cases w
   refine⟨p,(A b p).trans ?_⟩;rcases f with w|⟨i,w⟩<;>rw[w]
 refine⟨d4 O,_,S,I,S1,U,R,?_⟩
 cases I with
 |bw U'=>
  cases h;intro c da H' g D;obtain⟨j,y,u,k,_⟩:=back g D.s3.cv;exact q j .aJ H' y u (D.s3.gn.all (λ_ _ z=>Rep.c6 k z) k.bI λ_ _ _ l _=>l) (by rw[k.bI];exact D.full) rfl trivial
 |bk U'=>cases h
 |cm U'=>cases h
 |cn W=>
  intro c v H' g d B P s;obtain⟨j,y,u,k,Y⟩:=back g d;have L:=B.all (λ_ _ z=>Rep.c6 k z) k.bI λ_ _ _ l _=>l
  have G:j.bI.length=S1.length:=by rw[k.bI];exact P
  cases W with
  |v dC=>cases h;exact q j v H' y u L G (Rep.c6 k s) trivial
  |fr xs=>
   cases h;obtain⟨a,ys,rfl,l,t,T⟩:=s;obtain⟨p,V⟩:=Y a t;exact q j _ H' y u L G ⟨a,ys,rfl,l,V,T.c6 k⟩ λb X=>by cases X;exact p
  |bN xs=>exact akT s|mv xs=>exact akT s
end
structure xo(K:aO)(mg:bp)(c m qual:Str)(st:Stmt)(ps:List Str):Prop where
 ex:∃C f fd,mg c=some (.ref C)/\i2 K C/\Meth K C m f/\kY K m qual st f fd/\Binds K fd ps []
structure kn(P:akC)(w:World)(K:aO)(mg:bp)(base:Heap)(c m:Str)(ps:List Str)(k:Nat)(sp:en):Prop where
 ex:∃C f fd,mg c=some (.ref C)/\i2 K C/\Meth K C m f/\e2 P w K mg base eA k f fd ps sp/\Binds K fd ps []
section
variable{P:akC}{w:World}{K:aO}{mg:bp}{base:Heap}{x c m qual:Str}{st:Stmt}{ps N:List Str}{k:Nat}{cT:bX}{n nl:Nat}{f:Addr}{fd:alo}
def CS(F:kY K x qual st f fd)(b:gQ N ps (dd st))(d:ps.length=n)(hl:N.length=nl)
  (g:∀(a:Value)(A:akL)(outer:List Env)(s:akj)(H:aw)(E:gw),cA k (A.deeper (alk qual (dd st) s.heap.objs.size f a))->
   ip (gU eA P w K mg base N qual (dd st) f a A outer s H E).gA (fJ st) cT):e2 P w K mg base eA (k+1) f fd ps (hM K mg (fnX n nl cT)):=by
 subst d hl;exact F.ok b (λvs H Q E ⟨O,ds,r,S,p,t,dX,l,i,h,q⟩=>i.r.len.trans (CR h)) λa A outer s H vs Q E e j=>⟨_,(g a A outer s H E e).un,IU j⟩
theorem Vq(gP:gP K mg x st ps)(d:gQ N ps (dd st))(e:ps.length=n)(hl:N.length=nl)
  (g:∀(f:Addr)(a:Value)(A:akL)(outer:List Env)(s:akj)(H:aw)(E:gw),cA k (A.deeper (alk x (dd st) s.heap.objs.size f a))->
   ip (gU eA P w K mg base N x (dd st) f a A outer s H E).gA (fJ st) cT):eU P w K mg base x ps (k+1) (hM K mg (fnX n nl cT)):=by
 obtain⟨f,fd,F,b,m⟩:=gP.ex;exact⟨f,fd,CS F d e hl (λa=>g f a),b,F.kp,m⟩
theorem Vo(gP:xo K mg c m qual st ps)(d:gQ N ps (dd st))(e:ps.length=n)(hl:N.length=nl)
  (g:∀(f:Addr)(a:Value)(A:akL)(outer:List Env)(s:akj)(H:aw)(E:gw),cA k (A.deeper (alk qual (dd st) s.heap.objs.size f a))->
   ip (gU eA P w K mg base N qual (dd st) f a A outer s H E).gA (fJ st) cT):kn P w K mg base c m ps (k+1) (hM K mg (fnX n nl cT)):=by
 obtain⟨C,f,fd,h,cl,me,F,b⟩:=gP.ex;exact⟨C,f,fd,h,cl,me,CS F d e hl (λa=>g f a),b⟩
theorem Vp{cT:aN}(gP:xo K mg c m qual st ps)(d:gQ N ps (dd st))(e:ps.length=n)(hl:N.length=nl)
  (g:∀(f:Addr)(a:Value)(A:akL)(outer:List Env)(s:akj)(H:aw)(E:gw),cA k (A.deeper (alk qual (dd st) s.heap.objs.size f a))->
   um (gU eA P w K mg base N qual (dd st) f a A outer s H E).gA (fJ st) cT):kn P w K mg base c m ps (k+1) (e1 K mg (fnOf n nl cT)):=by
 obtain⟨C,f,fd,h,cl,me,F,b⟩:=gP.ex;exact⟨C,f,fd,h,cl,me,LC F d e hl (λa=>g f a),b⟩
end
section
variable{X:aT}{x:Str}{ps:List Str}{k:Nat}{mf:d2}{p pos:Pos}{e:Expr}{az:List Expr}{ms:jV}{pm:cZ}{Qj:eV}
theorem kq.de{O a:a8}(g:eu O a H H'):∀{rs:List R}{vs:List V},kq H' rs vs->kq H rs vs
 |[],_,_=>trivial|_::_,[],_=>trivial|_::_,_::_,h=>⟨h.1.de g,kq.de g h.2⟩
theorem ag6(s:fX X e Qj)(i:gv X az pm)(ax:ake (e::az) X.env=(false,eval e X.env)::ake az X.env:=by rfl):pw X (e::az) (ud Qj pm):=⟨z1 (wA s.un i.un ax) λz H Q m=>by
 obtain⟨O,U,S,r,y,st,h,q⟩:=m;obtain⟨x,S1,n,h⟩:=N.inv h;obtain⟨xs,w,c,h⟩:=N.inv h;cases h;obtain rfl:=(pm U).e_ _ _ _ c;refine⟨O,U,S,x,_,st,n,λj d u f b g bw=>?_⟩;exact⟨j,U,_,xs,_,b.s3,c,λt vs l a bL rs ns=>q t (d::vs) l (f.trans a.de) (b.go a bL.cv) ⟨d,vs,rfl,g.go a,rs⟩ ⟨bw,ns.de f⟩⟩⟩
def S0:∀b H Q,xf K mg (uc mf ms) b H Q->Al (hM K mg mf) (Gl K mg ms) b H Q:=by
 rintro b H Q ⟨O,U,S,r,m,st,h,q⟩;obtain⟨rs,S1,j,h⟩:=N.inv h;split at h
 .rename_i t
  refine⟨O,U,S,rs,S1,st,j,λf vs w c a n nn=>?_⟩;exact⟨f,_,r,S1,m,a.s3.cv,a.s3.gn,a.full,xO a.s3.cv.cf t n,h,λl v H' g d dX i s u=>q l v H' (c.trans g) (a.de g d dX i) s (u.de c)⟩
 .cases h
def ag8(h:eU X.prog X.w X.K X.mg X.base x ps k (hM X.K X.mg mf))(a:cA k X.A)(b:eb X x)(c:pw X (e::az) ms)(d:(x==("__debug__":Str))=false:=by decide)
  (he:ake (e::az) X.env=(false,eval e X.env)::ake az X.env:=by rfl) (f:(akJ pos (ake az X.env)).any (·.1)=false:=by rfl):fX X (.Call (.Name x p) (e::az) [] pos) (uc mf ms):=
 ⟨er (OC h a b c.un d he f) S0⟩
end
end aF
namespace aF
open PySem PySem.Spec aB
def dk(c m:Str)(mf:bq)(mo:bx)(ms:cZ):bx:=λU=>do
 let x <-mo U
 let o <-hJ x
 match o with
 |.bc c' aU=>if c'=c/\aU.lookup m=none then(do
  let rs <-ms U
  mf (x.arg::rs.map R.arg))else bad
 |_=>bad
def FJ(x:R)(o:gd):N Unit:=match x with
 |.v (.ref n)=>⟨λS=>.ok () (S.set n o)⟩
 |_=>h5
def dT(c f:Str)(mo:bx)(mv:eV):bX:=λU=>do
 let r <-mv U
 let d <-r.dat.up
 let x <-(mo U).up
 let o <-(hJ x).up
 match o with
 |.bc c' aU=>if c'=c/\aU.length<1000 then(do
  FJ x (.bc c (h6 f d aU))
  pure (.bw U))else h5
 |_=>h5
def nH(f:List D->List R->M (R×List D))(mo:bx)(ms:cZ):bX:=λU=>do
 let x <-(mo U).up
 let rs <-(ms U).up
 let o <-(hJ x).up
 match o with
 |.l xs=>do
  let p <-(f xs rs).up
  FJ x (.l p.2)
  pure (.bw U)
 |_=>h5
def lB(m:eV):eV:=λU=>do
 let r <-m U
 match r with
 |.fr xs=>do
  let S <-yx
  putN (S++[.l xs])
  pure (.v (.ref S.length))
 |_=>h5
variable[aB.a5]
def hh(O:a8)(p:Addr):a8:=⟨λb=>if b=p then .out else O b,O.bI++[p]⟩
section
variable{K:aO}{mg:bp}{O ak:a8}{H H':aw}{S ao:bJ}{U:aM}{aq:St}{p a:Addr}{o:gd}{n:Nat}{u u':gF}
omit [aB.a5]in
theorem oD(h:b≠p):hh O p b=O b:=if_neg h
omit [aB.a5]in
theorem abD:hh O p p=.out:=if_pos rfl
theorem N6(c:dg O H)(f:p∉O.bI):jm (hh O p):=⟨anb.mpr ⟨c.cf.1,by simp,λx b y d=>by rintro rfl;rw[akF.mp d]at b;exact f b⟩,λa m=>by
 by_cases e:a=p
 .rw[e];exact abD
 .rw[oD e];exact c.cf.2 a ((alc.mp m).elim id λz=>absurd (akF.mp z) e)⟩
def dg.abO(b:dg O H)(c:H p=none):p∉O.bI:=λm=>b.has p (by rw[b.cf.2 p m];intro z;cases z) c
theorem alloc(i:dg O H)(dX:fW K mg O H S)(k:O.bI.length=S.length)(q:H p=none)(c:eC H H')(x:H' p≠none)(bc:(∀d v,Rep K mg O H d v->Rep K mg (hh O p) H' d v)->nM K mg (hh O p) H' p o) :
  eu O (hh O p) H H'/\dg (hh O p) H'/\fW K mg (hh O p) H' (S++[o])/\(hh O p).bI.length=(S++[o]).length:=by
 have g:eu O (hh O p) H H':=⟨λb o e _ n=>c.at' b o e n,λb j=>oD (by rintro rfl;exact j q),λ_ h=>c.some h,c.cC,c.b1,am6 _ _,λb m=>(alc.mp m).imp id λz=>by rw[akF.mp z];exact q⟩;have f:∀d v,Rep K mg O H d v->Rep K mg (hh O p) H' d v:=λ_ _ z=>Rep.de g i.cf z
 refine⟨g,⟨λb j=>?_,c.b1 i.tabs,N6 i (i.abO q)⟩,λn w e=>?_,by rw[akg,<-k];exact akg⟩
 .by_cases e:b=p
  .rw[e];exact x
  .rw[oD e]at j;exact c.some (i.has b j)
 .by_cases r:n<S.length
  .rw[akD r]at e
   obtain⟨a,s,t⟩:=dX n w e;exact⟨a,by show(O.bI++[p])[n]? = _;rw[akD (by rw[k];exact r)];exact s,t.all f λu l n=>c.at' _ _ l n⟩
  .rw[akz (by omega)]at e
   obtain rfl:n=S.length:=by
    have:=(akd.mp e).1;simp at this;omega
   rw[amw]at e;cases e;exact⟨p,by show(O.bI++[p])[S.length]? = _;rw[<-k,akz (akk _),amw];rfl,bc f⟩
def dx.write(st:dx K mg O U S aq H)(i:O.bI[n]? = some a)(c:H a=some u)(B:¬Fix u)(s:∀ps,u≠.f9 ps)(w:∀q,u≠.ext (qC a q))(bc:(∀d v,Rep K mg O H d v->Rep K mg O (upd H a u') d v)->nM K mg O (upd H a u') a o) :
  eu O O H (upd H a u')/\dx K mg O U (S.set n o) aq (upd H a u'):=by
 have x:=akM i;have b1:TabsOk H->TabsOk (upd H a u'):=λt=>t.put u' (λps z=>s ps (akI (c.symm.trans z))) (λq z=>w q (akI (c.symm.trans z)))
 have has:∀b,H b≠none->upd H a u' b≠none:=λb j=>by
  by_cases e:b=a
  .rw[e,d6];intro z;cases z
  .rw[c2 e];exact j
 have g:eu O O H (upd H a u'):=by
  refine⟨λb o e h _=>?_,λ_ _=>rfl,has,λb ps e=>⟨ps,?_⟩,b1,anq _,λ_ m=>.inl m⟩
  .rw[c2]
   .exact e
   .rintro rfl
    rcases h with h|h
    .exact h x
    .rw[c]at e;cases e;exact B h
  .rw[c2]
   .exact e
   .rintro rfl;rw[c]at e;cases e;exact s _ rfl
 have f:∀d v,Rep K mg O H d v->Rep K mg O (upd H a u') d v:=λ_ _ z=>Rep.de g st.s3.cv.cf z
 refine⟨g,st.de g ⟨λb j=>has b (st.s3.cv.has b j),b1 st.s3.cv.tabs,st.s3.cv.cf⟩ (λk y e=>?_) (by rw[akS];exact st.full)⟩
 by_cases r:n=k
 .subst r
  rw[akE (by have:=(akd.mp e).1;rwa[akS]at this)]at e;cases e;exact⟨a,i,bc f⟩
 .rw[akn r]at e
  obtain⟨b,av,aE⟩:=st.s3.gn k y e;refine⟨b,av,aE.all f λu l _=>?_⟩;rw[c2]
  .exact l
  .rintro rfl
   obtain⟨br,bP⟩:=akd.mp av;obtain⟨D,A⟩:=akd.mp i;exact r ((List.getElem_inj st.s3.cv.cf.1).mp (A.trans bP.symm))
theorem i6.de(g:eu O ak H H')(cf:jm O):∀{rs:List R}{vs:List V},rs.all R.iB=true->i6 K mg O H rs vs->i6 K mg ak H' rs vs
 |[],_,_,h=>h|_::_,_,ax,h=>by
  rw[amS,akH]at ax;obtain⟨y,r,q,a,b⟩:=h;exact⟨y,r,q,a.de g cf ax.1,i6.de g cf ax.2 b⟩
def wk{r:R}{v:V}(st:cK K mg O U S aq H)(f:ew K mg O H r v)(h:(hJ r).run S=.ok o ao):∃n a,r=.v (.ref n)/\v=.ref a/\O.bI[n]? = some a/\S[n]? = some o/\nM K mg O H a o:=by
 obtain⟨n,rfl,e,rfl⟩:=Oc h;obtain⟨a,c,i⟩:=st.gn n o e;obtain⟨b,g,d⟩:=f;rw[c]at d;cases d;exact⟨n,a,rfl,g,c,e,i⟩
theorem fC.El:∀{J:List (Str×D)}{C:List (Str×V)},fC K mg O H J C->J.lookup f=none->C.lookup f=none
 |[],C,h,e=>by obtain rfl:=h.ET;rfl
 |p::J,C,h,e=>by
  obtain⟨q,r,rfl,av,aE,h'⟩:=h.cons;obtain⟨p1,ck⟩:=p;obtain⟨br,bP⟩:=q;cases(show p1=br from av);rw[akv]at e ⊢
  cases cL:f==p1 with
  |true=>rw[cL]at e;cases e
  |false=>rw[cL]at e;exact fC.El h' e
end
def Am(mg:bp)(c m:Str)(sp:en)(e:TE)(t:fR):TE:=λU H Q=>e U H λx b=>∃a C f aU,x=.ref a/\mg c=some (.ref C)/\b a=some (.ins C f aU)/\aU.lookup m=none/\t U b λvs d=>sp (x::vs) d Q i3
def Bk(t:TE):Prop:=∀U H Q a,(∀v H',Q v H'->a v H')->t U H Q->t U H a
def rI:Bk (fN K mg m):=λc H Q d i ⟨O,U,S,x,b,st,h,q⟩=>⟨O,U,S,x,b,st,h,λa v H' g s p n=>i _ _ (q a v H' g s p n)⟩
section
variable{X:aT}{c m:Str}{ps:List Str}{k:Nat}{sp:en}{o e:Expr}{az:List Expr}{b9:TE}{t:fR}{apos pos:Pos}{mf:d2}{ry:bq}{mo:bx}{pm:cZ}{ms:jV}
def OE{pl:Sem Bool}(h:kn X.prog X.w X.K X.mg X.base c m ps k sp)(i:cA k X.A)(up:Bk b9)(he:b2 X o b9)(j:gS X (e::az) t)
  (u:ake (e::az) X.env=(false,eval e X.env)::ake az X.env:=by rfl) (q:(akJ pos (ake az X.env)).any (·.1)=false:=by rfl)
  (l:eval (.Call (.Attribute o m apos) (e::az) [] pos) X.env=(do
   let bM <-eval o X.env
   ama apos.atName
   let(f,first) <-alm [bM] (ame bM m pl)
   amG pos f first (akJ pos (ake (e::az) X.env)) (alV pos (alp [] X.env))):=by rfl) :
  b2 X (.Call (.Attribute o m apos) (e::az) [] pos) (Am X.mg c m sp b9 t):=by
 obtain⟨C,f,y,s,cl,me,F,b⟩:=h.ex;refine er (OD (dvs:=[]) (ds:=[]) he cl me F i b .nil rx j u q l) λU H Q g=>up _ _ _ _ (λv x z=>?_) g
 obtain⟨a,B,n,aU,r,d,p,hl,z⟩:=z;rw[s]at d;cases d;refine⟨a,n,aU,r,p,hl,?_⟩;simpa only[alx]using z
def OF{pl:Sem Bool}(h:kn X.prog X.w X.K X.mg X.base c m ps k sp)(i:cA k X.A)(up:Bk b9)(he:b2 X o b9)
  (j:eval (.Call (.Attribute o m apos) [] [] pos) X.env=(do
   let bM <-eval o X.env
   ama apos.atName
   let(f,first) <-alm [bM] (ame bM m pl)
   amG pos f first (akJ pos (ake [] X.env)) (alV pos (alp [] X.env))):=by rfl) :
  b2 X (.Call (.Attribute o m apos) [] [] pos) (Am X.mg c m sp b9 w1):=by
 obtain⟨C,f,s,q,cl,me,F,b⟩:=h.ex;refine er (ade (dvs:=[]) (ds:=[]) he cl me F i b .nil rx j) λU H Q g=>up _ _ _ _ (λv r z=>?_) g
 obtain⟨a,u,l,aU,p,d,n,hl,z⟩:=z;rw[q]at d;cases d;exact⟨a,l,aU,p,n,hl,z⟩
def NT:∀b H Q,fN K mg (dk c m ry mo pm) b H Q->Am mg c m (e1 K mg ry) (fN K mg mo) (oU K mg pm) b H Q:=by
 rintro b H Q ⟨O,U,S,r,A,st,h,q⟩;obtain⟨x,S1,y,s⟩:=M.inv h;clear h;refine⟨O,U,S,x,S1,st,y,λu f' J p j i bw=>?_⟩;obtain⟨bc,aZ,l,h⟩:=M.inv s;clear s;obtain⟨n,a,rfl,rfl,bA,w,N⟩:=wk j i l;obtain rfl:=(hJ (.v (.ref n))).e_ _ _ _ l;split at h
 .rename_i c' aU
  split at h
  .rename_i T
   obtain⟨rfl,V⟩:=T;obtain⟨rs,W,B,h⟩:=M.inv h;obtain⟨C,G,Y,L,I,Z⟩:=N;refine⟨a,C,G,Y,rfl,I.1,L,Z.El V,u,U,_,rs,W,j,B,λD vs aK f bL E nn=>?_⟩;obtain rfl:=(ry _).e_ _ _ _ h;exact⟨D,.ref n::rs.map R.arg,r,A,bL.cv,bL.gn,⟨_,_,rfl,GZ (ew.go f i),Bs E⟩,h,λz v H' g d F P=>q z v H' ((p.trans f).trans g) (bL.go g d) F (P.back (p.trans f).same)⟩
  .cases h
 .cases h
def agn{pl:Sem Bool}(h:kn X.prog X.w X.K X.mg X.base c m ps k (e1 X.K X.mg ry))(a:cA k X.A)(he:ba X o mo)(b:gv X (e::az) pm)
  (i:ake (e::az) X.env=(false,eval e X.env)::ake az X.env:=by rfl) (g:(akJ pos (ake az X.env)).any (·.1)=false:=by rfl)
  (d:eval (.Call (.Attribute o m apos) (e::az) [] pos) X.env=(do
   let bM <-eval o X.env
   ama apos.atName
   let(f,first) <-alm [bM] (ame bM m pl)
   amG pos f first (akJ pos (ake (e::az) X.env)) (alV pos (alp [] X.env))):=by rfl):ba X (.Call (.Attribute o m apos) (e::az) [] pos) (dk c m ry mo pm):=
 ⟨er (OE h a rI he.un b.un i g d) NT⟩
def ago{pl:Sem Bool}(h:kn X.prog X.w X.K X.mg X.base c m ps k (e1 X.K X.mg ry))(g:cA k X.A)(he:ba X o mo)
  (j:eval (.Call (.Attribute o m apos) [] [] pos) X.env=(do
   let bM <-eval o X.env
   ama apos.atName
   let(f,first) <-alm [bM] (ame bM m pl)
   amG pos f first (akJ pos (ake [] X.env)) (alV pos (alp [] X.env))):=by rfl):ba X (.Call (.Attribute o m apos) [] [] pos) (dk c m ry mo aj):=
 ⟨er (OF h g rI he.un j) λn H Q d=>rI _ _ _ _ (λv b z=>by
  obtain⟨a,C,l,aU,av,aE,cJ,eJ,O,U,S,rs,S1,st,i,q⟩:=z;cases i;exact⟨a,C,l,aU,av,aE,cJ,eJ,q O [] b (Go.refl _ _) st rfl trivial⟩) (NT _ _ _ d)⟩
def EJ:∀i H Q,xf K mg (dZ c m mf mo ms) i H Q->Am mg c m (hM K mg mf) (fN K mg mo) (Gl K mg ms) i H Q:=by
 rintro i H Q ⟨O,U,S,r,F,st,h,q⟩;obtain⟨x,S1,p,y⟩:=N.inv h;clear h;obtain rfl:=(mo U).e_ _ _ _ p;refine⟨O,U,S1,x,S1,st.s3,p,λA f' H1 u b l bw=>?_⟩;have f:=st.go u b.cv;obtain⟨bc,aZ,s,h⟩:=N.inv y;clear y;obtain⟨n,a,rfl,rfl,bA,D,Y⟩:=wk b l s;obtain rfl:=(hJ (.v (.ref n))).e_ _ _ _ s;split at h
 .rename_i c' aU
  split at h
  .rename_i J
   obtain⟨rfl,hm⟩:=J;obtain⟨rs,z,G,h⟩:=N.inv h;obtain⟨C,P,j3,V,T,oM⟩:=Y;split at h
   .rename_i W
    refine⟨a,C,P,j3,rfl,T.1,V,oM.El hm,A,U,_,rs,z,f,G,λI vs aK w bL L nn=>?_⟩;have j:=u.de.trans w;exact⟨I,.ref n::rs.map R.arg,r,z,F,bL.s3.cv,bL.s3.gn,bL.full,⟨_,_,rfl,Rep.de w b.cv.cf l,xO bL.s3.cv.cf W L⟩,h,λE v H' g d dX B M Z=>q E v H' (j.trans g) (bL.de g d dX B) M (Z.de j)⟩
   .cases h
  .cases h
 .cases h
def aha{pl:Sem Bool}(h:kn X.prog X.w X.K X.mg X.base c m ps k (hM X.K X.mg mf))(a:cA k X.A)(he:ba X o mo)(b:pw X (e::az) ms)
  (i:ake (e::az) X.env=(false,eval e X.env)::ake az X.env:=by rfl) (g:(akJ pos (ake az X.env)).any (·.1)=false:=by rfl)
  (d:eval (.Call (.Attribute o m apos) (e::az) [] pos) X.env=(do
   let bM <-eval o X.env
   ama apos.atName
   let(f,first) <-alm [bM] (ame bM m pl)
   amG pos f first (akJ pos (ake (e::az) X.env)) (alV pos (alp [] X.env))):=by rfl):fX X (.Call (.Attribute o m apos) (e::az) [] pos) (dZ c m mf mo ms):=
 ⟨er (OE h a rI he.un b.un i g d) EJ⟩
def ahb{pl:Sem Bool}(h:kn X.prog X.w X.K X.mg X.base c m ps k (hM X.K X.mg mf))(g:cA k X.A)(he:ba X o mo)
  (j:eval (.Call (.Attribute o m apos) [] [] pos) X.env=(do
   let bM <-eval o X.env
   ama apos.atName
   let(f,first) <-alm [bM] (ame bM m pl)
   amG pos f first (akJ pos (ake [] X.env)) (alV pos (alp [] X.env))):=by rfl):fX X (.Call (.Attribute o m apos) [] [] pos) (dZ c m mf mo qk):=
 ⟨er (OF h g rI he.un j) λn H Q d=>rI _ _ _ _ (λv b z=>by
  obtain⟨a,C,l,aU,av,aE,cJ,eJ,O,U,S,rs,S1,st,i,q⟩:=z;cases i;exact⟨a,C,l,aU,av,aE,cJ,eJ,q O [] b (Go.refl _ _).de st rfl trivial⟩) (EJ _ _ _ d)⟩
theorem Qn{aU:List Str}{p:Pos}(T:mI X.K X.mg c aU)(h:kn X.prog X.w X.K X.mg X.base c "__init__" ps k (hM X.K X.mg mf))(Y:cA (k+1) X.A)(J:eb X c)(j:pw X (e::az) ms)(eG:(c==("__debug__":Str))=false:=by decide)
  (he:ake (e::az) X.env=(false,eval e X.env)::ake az X.env:=by rfl) (eM:(akJ pos (ake az X.env)).any (·.1)=false:=by rfl):fX X (.Call (.Name c p) (e::az) [] pos) (o7 c mf ms):=by
 obtain⟨C,f,fd,B,cl,me,F,b⟩:=h.ex;obtain⟨kV,P,_,⟨mk,kp⟩,_⟩:=T.ex;rw[B]at P;cases P;refine⟨er (adb (dvs:=[]) (ds:=[]) ⟨mk,me.at_,me.fn,kp⟩ F Y J B b .nil rx j.un eG he eM) λaq H Q aX=>?_⟩;obtain⟨O,U,S,r,ao,st,h,q⟩:=aX;obtain⟨rs,S1,ag,l⟩:=N.inv h;clear h;refine⟨O,U,S,rs,S1,st,ag,λs vs E g1 i bt nn a y j W u=>?_⟩;split at l
 .rename_i L
  obtain⟨uB,aZ,ah,I⟩:=N.inv l;clear l;cases ah;obtain⟨_,hs,bD,M⟩:=N.inv I;clear I;cases bD;obtain⟨bG,r1,cM,h⟩:=N.inv M;clear M;have oP:eC E (upd (upd E y (.own a)) a (.ins C y [])):=(tU W _).trans (tU (by rw[c2 (amV u)];exact j) _);obtain⟨D,x,V,G⟩:=alloc (o:=.bc c []) i.s3.cv i.s3.gn i.full j oP (by rw[d6];intro z;cases z) λ_=>⟨C,y,[],d6,⟨B,cl⟩,rfl,rfl⟩
  rw[alx];have n:(hh s a).bI[S1.length]? = some a:=by show(s.bI++[a])[S1.length]? = _;rw[<-i.full,akz (akk _),amw];rfl
  have fm:=g1.trans D;refine⟨hh s a,.ref S1.length::rs.map R.arg,bG,_,r1,x,V,G,⟨_,_,rfl,⟨a,rfl,n⟩,?_⟩,cM,λak v H' g d dX Z bz hH=>?_⟩
  .exact xO x.cf L (i6.de D i.s3.cv.cf L bt)
  .split at h
   .cases h
    refine⟨bz,q ak _ H' (fm.trans g) ((i.de D x V G).de g d dX Z) ⟨a,rfl,?_⟩ trivial⟩;obtain⟨t,e⟩:=g.bI;rw[<-e,akD (akd.mp n).1];exact n
   .cases h
 .cases l
end
end aF
namespace aF
open PySem PySem.Spec aB PyProof.Rows
@[reducible] def vt:aoV where
 α:=Int
 blt a b:=decide (a<b)
 irrefl a:=by simp
 trans a b c o C:=by simp only[decide_eq_true_eq]at *;omega
 negTrans a b c h:=by simp only[decide_eq_true_eq]at *;omega
 total a b o C:=by simp only[decide_eq_false_iff_not]at *;omega
 keyOf v:=match v with|.int i _=>some i|_=>none
 dflt:=0
def Yr:vt.OneLt:=by
 intro prog w A E s x y a b Q d c h;cases x<;>simp only[vt,reduceCtorEq,ao7]at d
 cases y<;>simp only[vt,reduceCtorEq,ao7]at c
 cases d;cases c;exact oneLt_int h
structure iH where
 κ:aoV
 eO:κ.α->D
 un:D->Option κ.α
structure iH.Ok(Z:iH):Prop where
 one:Z.κ.OneLt
 t8:∀d a,Z.un d=some a->d=Z.eO a
 key:∀(a:Z.κ.α)(K:aO)(mg:bp)(O:a8)(H:aw)(v:V)(u:Value),Rep K mg O H (Z.eO a) v->RelV v u->Z.κ.keyOf u=some a
 kind:∀(qg qh:Value)(vs:List Value),(∀v∈qg::qh::vs,∃a,Z.κ.keyOf v=some a)->keyKind' (qg::qh::vs).toArray=pure oneType'
@[reducible] def ft:iH where
 κ:=vt
 eO:=D.int
 un d:=match d with|.int i=>some i|_=>none
@[reducible] def l7:iH where
 κ:=aoW
 eO:=λl=>D.str ⟨l.toArray⟩
 un d:=match d with|.str x=>some x.cps.toList|_=>none
def Nj:ft.Ok where
 one:=Yr
 t8:=λd a h=>by cases d<;>first|(cases h;rfl)|cases h
 key:=λa K mg O H v u h r=>by
  cases(show v=.int a from h);obtain⟨t,rfl⟩:=r;rfl
 kind:=λe f vs h=>by
  refine keyKind_ints (ns:=(e::f::vs).map numOf) (intsAre_map _ λv c=>?_);obtain⟨a,b⟩:=h v c;cases v<;>first|(cases b;exact⟨_,_,rfl⟩)|cases b
def Y6:l7.Ok where
 one:=strKind_oneLt
 t8:=λd a h=>by cases d<;>first|(cases h;rfl)|cases h
 key:=λa K mg O H v u h r=>by
  cases(show v=.str ⟨a.toArray⟩from h);obtain⟨t,rfl⟩:=r;rfl
 kind:=λe f vs h=>by
  have key:∀(l:List Value),(∀v∈l,∃a,aoW.keyOf v=some a)->∃ss,StrsAre l ss:=λl=>by
   induction l with
   |nil=>exact λ_=>⟨[],.nil⟩
   |cons v l b=>
    intro h;obtain⟨ss,ax⟩:=b λw hw=>h w (akq _ hw)
    obtain⟨a,c⟩:=h v akw;cases v<;>first|exact⟨_::ss,.cons _ _ ax⟩|cases c
  obtain⟨ss,ax⟩:=key _ h;exact keyKind_strs ax
section
variable{β:Type}
def sI(blt:β->β->Bool)(p:β×D):List (β×D)->List (β×D)
 |[]=>[p]
 |q::r=>if blt q.1 p.1 then q::sI blt p r else p::q::r
def jM(blt:β->β->Bool):List (β×D)->List (β×D)
 |[]=>[]
 |p::r=>sI blt p (jM blt r)
theorem DV(blt:β->β->Bool)(p:β×D):∀l,(sI blt p l).Perm (p::l)
 |[]=>.refl _|q::r=>by
  unfold sI;split
  .exact((DV blt p r).cons q).trans (.swap p q r)
  .exact .refl _
theorem Ad(blt:β->β->Bool):∀l,(jM blt l).Perm l
 |[]=>.refl _|p::r=>(DV blt p _).trans ((Ad blt r).cons p)
end
theorem MN(O:alS)(p:O.α×D):∀l:List (O.α×D),l.Pairwise (λa b=>O.blt a.1 b.1=true)->(∀q∈l,q.1≠p.1)->(sI O.blt p l).Pairwise (λa b=>O.blt a.1 b.1=true)
 |[],_,_=>List.pairwise_singleton _ _|q::r,h,o=>by
  rw[alX]at h;unfold sI
  cases e:O.blt q.1 p.1 with
  |true=>
   rw[if_pos rfl,alX];refine⟨λx c=>?_,MN O p r h.2 λx c=>o x (akq _ c)⟩;rcases akt.mp ((DV O.blt p r).mem_iff.mp c)with rfl|c
   .exact e
   .exact h.1 x c
  |false=>
   rw[if_neg akl,alX,alX];have d:O.blt p.1 q.1=true:=by
    cases aE:O.blt p.1 q.1 with
    |true=>rfl|false=>exact absurd (O.total _ _ e aE) (o q akw)
   refine⟨λx c=>?_,h.1,h.2⟩;rcases akt.mp c with rfl|c
   .exact d
   .exact O.trans _ _ _ d (h.1 x c)
theorem FL(O:alS):∀l:List (O.α×D),(l.map (·.1)).Nodup->(jM O.blt l).Pairwise (λa b=>O.blt a.1 b.1=true)
 |[],_=>.nil|p::r,h=>by
  rw[aks,ale]at h;refine MN O p _ (FL O r h.2) λq c e=>h.1 ?_
  rw[<-e];exact amz ((Ad O.blt r).mem_iff.mp c)
theorem Pj{f:Type}{lt:f->f->Prop}(g:∀a,¬lt a a)(i:∀a b c,lt a b->lt b c->lt a c):∀{d l₂:List f},d.Perm l₂->d.Pairwise lt->l₂.Pairwise lt->d=l₂
 |[],l₂,p,_,_=>(List.nil_perm.mp p).symm|a::d,[],p,_,_=>(List.nil_perm.mp p.symm)
 |a::d,b::l₂,p,o,C=>by
  rw[alX]at o C;have e:a=b:=by
   rcases akt.mp (p.mem_iff.mp akw)with h|h
   .exact h
   .rcases akt.mp (p.mem_iff.mpr akw)with h'|h'
    .exact h'.symm
    .exact(g _ (i _ _ _ (o.1 b h') (C.1 a h))).elim
  subst e;rw[Pj g i (List.Perm.cons_inv p) o.2 C.2]
def FN(O:alS){l ps:List (O.α×D)}(d:(l.map (·.1)).Nodup)(e:ps.Perm l)(ax:ps.Pairwise (λa b=>O.blt a.1 b.1=true)):ps=jM O.blt l:=
 Pj (lt:=λa b=>O.blt a.1 b.1=true) (λa=>by rw[O.irrefl];exact akl) (λa b c=>O.trans _ _ _) (e.trans (Ad O.blt l).symm) ax (FL O l d)
def aeW(O:alS){ps:List (O.α×D)}(c:(ps.map (·.1)).Nodup)(h:ps.Pairwise (λa b=>O.blt b.1 a.1=false)):ps.Pairwise (λa b=>O.blt a.1 b.1=true):=by
 induction ps with
 |nil=>exact .nil|cons p r g=>
  rw[aks,ale]at c;rw[alX]at h ⊢;refine⟨λq d=>?_,g c.2 h.2⟩
  cases e:O.blt p.1 q.1 with
  |true=>rfl| false=>exact absurd (amz (f:=λx:O.α×D=>x.1) d) (by rw[<-O.total _ _ e (h.1 q d)];exact c.1)
end aF
namespace aF
open PySem PySem.Spec aB PyProof.Rows
variable[aB.a5]
def nL(X:aT)(k:Nat)(f:Addr)(G:aw->Prop)(mf:bq):Prop:=
 (∀H H',eC H H'->G H->G H')/\(∀H p a o,H p=some (.l a)->G H->G (upd H p o))/\∀(A:akL)(s:akj)(H:aw)(u:Value)(v:V)(Q:cU),cA k A->kX X.prog X.w X.K X.mg X.base A X.stack s H->G H->RelV v u->e1 X.K X.mg mf [v] H Q i3->
  amW (model X.prog X.w) A (.call (.ref f) ⟨[u],[]⟩) (Gx eA X.stack X.prog X.w H s Q i3) s
def lstP(a:Addr)(e:Nat):Heap->Prop:=λh=>h.get? a=some (alg "list" #[] e)
structure qn(X:aT)(zn:c0)(U:aB.St)(G:aw->Prop)(O:a8)(H:aw)(a dD:Addr)(av:Nat)(b4:List D)(a0:akj):Prop where
 ex:∃ak H' ys,Inv X zn U H' a0/\Go O ak H H'/\dg ak H'/\G H'/\H' a=some (.ext (lstP a av))/\H' dD=some (.l ys)/\bl X.K X.mg ak H' b4 ys/\ak dD=.dq
 na:a∉O.bI
section
variable{X:aT}{zn:c0}{U:aB.St}{H:aw}{s:akj}{G:aw->Prop}{mf:bq}{f a dD:Addr}{k:Nat}{O:a8}{av:Nat}
def ZI{h:Heap}(e:h.get? a=some (alg "list" #[] av)):iL prog w H h a (.ext (lstP a av)):=
 ⟨e,⟨_,e⟩,λb c p q=>q _ p⟩
def Lp{H':aw}(J:Inv X zn U H' C)(b:H' a=some (.ext (lstP a av)))(q:Str):H' a≠some (.ext (qC a q)):=λz=>by
 obtain⟨p,_⟩:=J.cc a _ b;obtain⟨ck,_⟩:=J.cc a _ z;obtain⟨c,o,vs,t,av,aE,cJ,_⟩:=ck;cases av;have p:C.heap.get? a=_:=p;rw[p]at aE;cases aE;cases cJ
def Y1{m:List D}{v:V}(E:nL X k f G mf)(I:cA k X.A.in1.in1)(l0:H a=none)(l2:H dD=none)(n9:dD≠a)(c_:Rep X.K X.mg O H d v)(eh:RelV v u)(hd:(mf [d]).run []=.ok (.v o) [])(sC:m.length<64)(S:qn X zn U G O H a dD av m C) :
  wpAny (model X.prog X.w) X.A.in1.in1 (call (.ref f) [u]) (λu' s2=>∃(b:a8)(H':aw)(ys:List V)(c:V),Inv X zn U H' s2/\Go O b H H'/\dg b H'/\G H'/\H' a=some (.ext (lstP a av))/\H' dD=some (.l ys)/\bl X.K X.mg b H' m ys/\Rep X.K X.mg b H' o c/\RelV c u'/\b dD=.dq) (λ_ _=>False) C:=by
 obtain⟨p,n,ys,y,B,fj,F,N,t,P,dF⟩:=S.ex;refine wpAny_call (amO (E.2.2 X.A.in1.in1 C n u v (λc H'=>∃b,Go p b n H'/\dg b H'/\Rep X.K X.mg b H' o c) I y.uZ.in1.in1 F eh ?_) λr s2 i=>?_)
 .refine⟨p,[d],.v o,[],fj,fW.nil,⟨v,[],rfl,?_,rfl⟩,hd,λb c H' g J Y _=>⟨b,g,J,Y⟩⟩
  have j:=c_.go B;cases d<;>first|exact j|exact akT j|skip
  obtain⟨x,zs,q,l,r⟩:=j;exact⟨x,zs,q,l.cP,r⟩
 .cases r with
  |error e=>exact akT i|ok L=>
   cases L with
   |ret u'=>
    obtain⟨c,M,T,R,W,h,Z,Q⟩:=y.after i;exact⟨W,M,ys,c,T,B.trans h,Z,E.1 _ _ h.same F,h.same.at' _ _ N,h.same.at' _ _ t,P.go h,Q,R,(h.own dD (by rw[t];intro z;cases z)).trans dF⟩
   |next=>exact akT i
   |brk=>exact akT i|cont=>exact akT i
def aeP{Z:iH}(j5:Z.Ok){ds:List D}{c:List Z.κ.α}{xs:List V}{us:List Value}{P:Fin->akj->Prop}{E:dj}(gi:nL X k f G mf)(aC:cA k X.A.in1.in1)(l0:H a=none)(l2:H dD=none)(n9:dD≠a)
  (C:bl X.K X.mg O H ds xs) (J:Vals xs us) (sC:∀(i:Nat)(d:D),ds[i]? = some d->∃κ,c[i]? = some κ/\(mf [d]).run []=.ok (.v (Z.eO κ)) []) (hlen:c.length=ds.length) (k7:ds.length<64) (S:qn X zn U G O H a dD av [] s)
  (fin:∀(q:akj)(p:Array Value),qn X zn U G O H a dD av (c.map Z.eO) q->p.toList.map Z.κ.keyOf=c.map some->wpAny (model X.prog X.w) X.A.in1.in1 (ksk_end a false us.toArray av (.ref dD) p) P E q) :
  wpAny (model X.prog X.w) X.A.in1.in1 (ksk_rest a (.ref f) false us.toArray av (.ref dD)) P E s:=by
 have ZL:=C.len;have En:=J.length;unfold ksk_rest;refine akc (aop ?_)
 first
  |rw[List.forIn_toArray]
  |(rw[<-Array.forIn_toList];simp only[List.toList_toArray])
  |rw[<-Array.forIn_toList]
 refine akc (ksk_fold (λi q=>qn X zn U G O H a dD av ((c.take i).map Z.eO) q) us 0 s (by rw[aoP];exact S) ?step ?done)
 case step=>
  intro j u q cG B;simp only[amv]at B ⊢;have bg:j<us.length:=(akd.mp cG).1;obtain⟨v,F,eh⟩:∃v,xs[j]? = some v/\RelV v u:=by
   have F:xs[j]? = some xs[j]:=akx (by omega);obtain⟨u',yU,r⟩:=J.get F;rw[cG]at yU;cases yU;exact⟨_,F,r⟩
  obtain⟨d,hd,c_⟩:=C.LS F;obtain⟨κ,Yb,hm⟩:=sC j d hd;have hz:((c.take j).map Z.eO).length<64:=by rw[akh,alC];omega
  refine akc (wpAny_attempt (ak9 (Y1 gi aC l0 l2 n9 c_ eh hm hz B) (λu' s2 he=>?_) λ_ _ kB=>kB.elim));obtain⟨W,Q,ys,fO,I,L,c8,ur,vb,m,N,R,T,Y⟩:=he
  try dsimp only
  obtain⟨gJ,its,n,g,M⟩:=I.cc dD _ m;have Xt:its.length=(c.take j).length:=by rw[<-g.length,N.len,akh]
  have aju:its.length<64:=by rw[Xt,alC];omega
  have s1:=alr s2.heap dD (akN (·.push u'));obtain⟨ab,jA⟩:∃ab,(s2.heap.update dD (akN (·.push u'))).get? dD=some (alg "list" (its.toArray.push u') ab):=⟨_,amF M (·.push u')⟩;refine akc (aog M rfl ?_ (by rw[ako,akB];omega) (akU (am4 (Array.size_push ..)) (by rw[ako,akB];omega)));refine akm ⟨rfl,⟨⟨W,upd Q dD (.l (ys++[fO])),ys++[fO],?_,⟨t_ l2 L.same m _,L.own,L.bI⟩,c8.ea m,gi.2.1 _ _ _ _ m ur,by rw[c2 n9.symm];exact vb,d6,?_,Y⟩,B.na⟩⟩
  .refine I.write (x:=dD) (e:=dD) (t':=s2.toks) (by rw[m];trivial) (.inl rfl) (λb o ae e=>(s1.2 b ae).trans e) ⟨_,jA⟩ ⟨?_,its++[u'],ab,g.append (.cons T .nil),?_⟩
   .rw[akg,g.length];rw[akB];simp;omega
   .rw[jA];simp[alg]
  .have iu:c.take (j+1)=c.take j++[κ]:=by rw[aol,Yb];rfl
   rw[iu,alI];exact(N.append (.one R)).ea (by rw[Y];intro z;cases z) m
 case done=>
  intro q B;have cJ:c.take (0+us.length)=c:=alD (by omega);rw[cJ]at B;obtain⟨W,Q,ys,I,L,c8,ur,vb,m,N,Y⟩:=id B.ex;obtain⟨gJ,its,n,g,M⟩:=I.cc dD _ m;refine akc (listItems_at M rfl ?_);refine fin q its.toArray B ?_;have key:∀(c:List Z.κ.α)(ys:List V)(its:List Value),bl X.K X.mg W Q (c.map Z.eO) ys->Vals ys its->its.map Z.κ.keyOf=c.map some:=by
   intro c
   induction c with
   |nil=>intro ys its h r;cases h;cases r;rfl
   |cons κ c aS=>
    intro ys its h r;obtain⟨y,t,rfl,ag,ah⟩:=h
    cases r with
    |cons bu bG=>
     rw[aks,aks,aS _ _ ah bG,j5.key κ _ _ _ _ _ _ ag bu]
  exact key _ _ _ N g
end
end aF
namespace aF
open PySem PySem.Spec aB PyProof.Rows
def adm{α b:Type}(f:α->b):∀{L M:List b},L.Perm M->∀{Q:List α},M=Q.map f->∃a:List α,a.Perm Q/\L=a.map f:=by
 intro L M h
 induction h with
 |nil=>
  intro Q e
  cases Q with
  |nil=>exact⟨[],.refl _,rfl⟩|cons q Q=>cases e
 |cons x _ d=>
  intro Q e
  cases Q with
  |nil=>cases e
  |cons q Q=>
   rw[aks]at e;injection e with av aE
   obtain⟨a,p,cJ⟩:=d aE;exact⟨q::a,p.cons q,by rw[av,cJ];rfl⟩
 |swap x y l=>
  intro Q e
  cases Q with
  |nil=>cases e
  |cons q Q=>
   cases Q with
   |nil=>rw[aks]at e;injection e with _ aE;cases aE
   |cons r Q=>
    rw[aks,aks]at e;injection e with av aE
    injection aE with aE cJ
    exact⟨r::q::Q,.swap _ _ _,by rw[av,aE,cJ];rfl⟩
 |trans _ _ i j=>
  intro Q e;obtain⟨g,p1,av⟩:=j e;obtain⟨c,ck,aE⟩:=i av;exact⟨c,ck.trans p1,aE⟩
variable[aB.a5]
abbrev xE(Z:iH):=(Value×Value)×(Z.κ.α×(D×V))
section
variable{K:aO}{mg:bp}{O:a8}{H:aw}{Z:iH}
def ad2{ds:List D}:∀{xs:List V}{us a:List Value}{b:List Z.κ.α},bl K mg O H ds xs->Vals xs us->a.map Z.κ.keyOf=b.map some->b.length=ds.length->
  ∃Q:List (xE Z),Q.map (·.1)=a.zip us/\Q.map (λq=>(q.2.1,q.2.2.1))=b.zip ds/\∀q∈Q,Z.κ.keyOf q.1.1=some q.2.1/\Rep K mg O H q.2.2.1 q.2.2.2/\RelV q.2.2.2 q.1.2:=by
 induction ds with
 |nil=>
  intro xs us a b h r e l;cases h;cases r;rw[amB.mp l]at e ⊢;have:a=[]:=by cases a with|nil=>rfl|cons=>cases e
  subst this;exact⟨[],rfl,rfl,λ_ h=>(nomatch h)⟩
 |cons d ds f=>
  intro xs us a b h r e l;obtain⟨x,t,rfl,g,i⟩:=h
  cases r with
  |@cons _ u _ us k j=>
   cases b with
   |nil=>cases l
   |cons κ b=>
    cases a with
    |nil=>cases e
    |cons kv a=>
     rw[aks,aks]at e;injection e with av aE
     obtain⟨Q,br,bP,m⟩:=f i j aE (by simpa using l);refine⟨((kv,u),(κ,(d,x)))::Q,?_,?_,λq c=>?_⟩
     .rw[aks,br];rfl
     .rw[aks,bP];rfl
     .rcases akt.mp c with rfl|c
      .exact⟨av,g,k⟩
      .exact m q c
theorem Pe{α:Type}(f:α->D)(g:α->V):∀l:List α,(∀q∈l,Rep K mg O H (f q) (g q))->bl K mg O H (l.map f) (l.map g)
 |[],_=>rfl|q::l,h=>⟨_,_,rfl,h q akw,Pe f g l λx a=>h x (akq _ a)⟩
omit [aB.a5]in
theorem P2{α:Type}(f:α->V)(g:α->Value):∀l:List α,(∀q∈l,RelV (f q) (g q))->Vals (l.map f) (l.map g)
 |[],_=>.nil|q::l,h=>.cons (h q akw) (P2 f g l λx a=>h x (akq _ a))
def sorted_out{ds:List D}{xs:List V}{us:List Value}{e:Array Value}{g:List Z.κ.α}(E:bl K mg O H ds xs)(F:Vals xs us)(B:e.toList.map Z.κ.keyOf=g.map some)(hl:g.length=ds.length)(w:g.Nodup)
  {c:Array Keyed}(A:c.Perm (e.zip us.toArray)) (ax:SortedToK Z.κ c c.size) :
  ∃ys,Vals ys (c.map (·.2)).toList/\ys.length=ds.length/\bl K mg O H ((jM Z.κ.blt (g.zip ds)).map (·.2)) ys:=by
 obtain⟨Q,br,bP,I⟩:=ad2 E F B hl;have y:c.toList.Perm (Q.map (·.1)):=by
  rw[br,<-ksk_zip];exact Array.perm_iff_toList_perm.mp A
 obtain⟨d,r,n⟩:=adm (λq:xE Z=>q.1) y rfl;have k:∀q∈d,Z.κ.keyOf q.1.1=some q.2.1/\Rep K mg O H q.2.2.1 q.2.2.2/\RelV q.2.2.2 q.1.2:=λq h=>I q (r.mem_iff.mp h)
 have x:(g.zip ds).map (·.1)=g:=by rw[List.map_fst_zip];omega
 have f:(d.map λq=>(q.2.1,q.2.2.1)).Perm (g.zip ds):=by rw[<-bP];exact r.map _
 have fM:((d.map λq:xE Z=>(q.2.1,q.2.2.1)).map (·.1)).Nodup:=by
  have:=f.map (λp:Z.κ.α×D=>p.1);rw[x]at this;exact this.nodup_iff.mpr w
 have l:(d.map λq:xE Z=>(q.2.1,q.2.2.1)).Pairwise (λa b=>Z.κ.blt b.1 a.1=false):=by
  rw[amM,List.pairwise_iff_getElem];intro i j hi G z;have u:c.toList.length=d.length:=by rw[n,akh]
  have L:i<c.size:=by rw[ak0]at u;omega
  have t:j<c.size:=by rw[ak0]at u;omega
  have:=ax i j (al1 z) t;have at':∀(m:Nat)(s:m<d.length)(M:m<c.size),KK Z.κ c m=d[m].2.1:=λm s M=>by
   have av:c[m]? = some d[m].1:=by
    have:c.toList[m]? = some d[m].1:=by rw[n,akA,akx s];rfl
    rwa[anw]at this
   unfold KK;rw[av];show(Z.κ.keyOf d[m].1.1).getD Z.κ.dflt=_;rw[(k _ (amd s)).1];rfl
  rw[at' i hi L,at' j G t]at this;exact this
 have one:=FN Z.κ.toKeyOrd (by rw[x];exact w) f (aeW Z.κ.toKeyOrd fM l);refine⟨d.map λq=>q.2.2.2,?_,?_,?_⟩
 .have:(c.map (·.2)).toList=d.map λq=>q.1.2:=by
   rw[Array.toList_map,n,amf];rfl
  rw[this];exact P2 _ _ _ λq h=>(k q h).2.2
 .rw[akh,r.length_eq]
  have:=congrArg al0 bP;rw[akh,List.length_zip,hl,Nat.min_self]at this;exact this
 .rw[<-one,amf]
  exact Pe _ _ _ λq h=>(k q h).2.1
end
section
variable{X:aT}{zn:c0}{U:aB.St}{H:aw}{s:akj}{G:aw->Prop}{a dD:Addr}{O:a8}{av:Nat}{Z:iH}{ds:List D}{cN:List Z.κ.α}{xs:List V}{us:List Value}{E:dj}{keys:Array Value}
def Bf(X:aT)(zn:c0)(U:aB.St)(O:a8)(H:aw)(a:Addr)(out:List D)(c:akj):Prop:=
 ∃b H' ys,Inv X zn U H' c/\Go O b H H'/\dg b H'/\H' a=some (.l ys)/\b a=.dq/\bl X.K X.mg b H' out ys
def Pz{A:akL}{st:SortSt}(B:H a=none)(l2:H dD=none)(Q:dD≠a)(bA:bl X.K X.mg O H ds xs)(bV:Vals xs us)(au:keys.toList.map Z.κ.keyOf=cN.map some)(hl:cN.length=ds.length)(C:cN.Nodup)(k7:ds.length<64)
  (S:qn X zn U G O H a dD av (cN.map Z.eO) s) (J:(arrOf st).Perm (keys.zip us.toArray)) (ax:SortedToK Z.κ (arrOf st) (arrOf st).size) (V:failedOf st=none) :
  wpAny (model X.prog X.w) A (ksk_tail a false av (.ref dD) st) (λr Y=>r=.done (.ret .none)/\Bf X zn U O H a ((jM Z.κ.blt (cN.zip ds)).map (·.2)) Y) E s:=by
 obtain⟨M,h,aka,t,j,i,ur,T,k,tO,tH⟩:=S.ex;obtain⟨_,its,n,f,N⟩:=t.cc dD _ k;have W:s.heap.get? a=some (alg "list" #[] av):=(t.cc a _ T).1;obtain⟨D,I,i0,q⟩:=sorted_out bA bV au hl C J ax;have gJ:(arrOf st).size=ds.length:=by
  have ag:=I.length;have ah:((arrOf st).map (·.2)).toList.length=(arrOf st).size:=by rw[ak0,Array.size_map]
  omega
 have ajC:its.length=ds.length:=by rw[<-f.length,tO.len,akh,hl]
 have R:=alr s.heap dD (akN λ_=>(#[]:Array Value));obtain⟨bb,F⟩:∃bb,(s.heap.update dD (akN λ_=>(#[]:Array Value))).get? dD=some (alg "list" #[] bb):=⟨_,amF N λ_=>#[]⟩;have p:(s.heap.update dD (akN λ_=>(#[]:Array Value))).get? a=some (alg "list" #[] av):=(R.2 a Q.symm).trans W;have u:Inv X zn U (upd h dD (.l [])) { s with heap:=s.heap.update dD (akN λ_=>(#[]:Array Value)) }:=
  t.write (x:=dD) (e:=dD) (t':=s.toks) (by rw[k];trivial) (.inl rfl) (λb o c e=>(R.2 b c).trans e) ⟨_,F⟩ ⟨akY _,[],bb,.nil,F⟩
 have s2:=alr (s.heap.update dD (akN λ_=>(#[]:Array Value))) a (akN λ_=>(arrOf st).map (·.2));obtain⟨ab,P⟩:∃ab,((s.heap.update dD (akN λ_=>(#[]:Array Value))).update a (akN λ_=>(arrOf st).map (·.2))).get? a=some (alg "list" ((arrOf st).map (·.2)) ab):=⟨_,amF p λ_=>(arrOf st).map (·.2)⟩;have d:upd h dD (.l []) a=some (.ext (lstP a av)):=by rw[c2 Q.symm];exact T
 unfold ksk_tail
 try dsimp only
 simp only[am7,if_false];refine akc (aog N rfl ?_ (by rw[ako,akB];omega) (akY _));refine akc (amK ?_);refine akc (seqEpoch_at p rfl ?_);refine akc (aog p rfl ?_ (akY _) (akU (am4 (Array.size_map ..)) (by rw[gJ,akB];omega)));rw[V];simp only[bne_self_eq_false,am7,if_false];have same:eC H (upd (upd h dD (.l [])) a (.l D)):=by
  have y:=t_ l2 j.same k (.l []);refine⟨λb o e n=>by rw[c2 (kJ e B)];exact y.at' b o e n,λb ps e=>by rw[c2 (kJ e B)];exact y.cC b ps e,λg=>?_⟩;exact(y.b1 g).put _ (λps=>by rw[d];intro z;cases z) (Lp u d)
 have go:Go O (f_ M a .dq) H (upd (upd h dD (.l [])) a (.l D)):=⟨same,λb c=>by
  rw[oZ (by rintro rfl;exact c B)];exact j.own b c,j.bI⟩
 refine akm ⟨rfl,f_ M a .dq,_,D,?_,go,⟨λb c=>?_,?_,i.cf.1,λb m=>by rw[oZ (by rintro rfl;exact S.na (j.bI▸m))];exact i.cf.2 b m⟩,d6,mx,q.go go⟩
 .refine u.write (x:=a) (e:=a) (t':=s.toks) (by rw[d];trivial) (.inl rfl) (λb o c e=>(s2.2 b c).trans e) ⟨_,P⟩ ⟨?_,_,ab,I,?_⟩
  .rw[i0,akB];omega
  .rw[P,anF]
 .by_cases e:b=a
  .rw[e,d6];intro z;cases z
  .rw[c2 e]
   rw[oZ e]at c
   by_cases L:b=dD
   .rw[L,d6];intro z;cases z
   .rw[c2 L];exact i.has b c
 .exact(i.tabs.l k _).put _ (λps=>by rw[d];intro z;cases z) (Lp u d)
def aeN{A:akL}(t:Z.Ok)(u:H a=none)(x:H dD=none)(y:dD≠a)(h:bl X.K X.mg O H ds xs)(l:Vals xs us)(f:keys.toList.map Z.κ.keyOf=cN.map some)(hl:cN.length=ds.length)(q:cN.Nodup)(m:ds.length<64)
    (S:qn X zn U G O H a dD av (cN.map Z.eO) s) :
    wpAny (model X.prog X.w) A (ksk_end a false us.toArray av (.ref dD) keys) (λr n=>r=.done (.ret .none)/\Bf X zn U O H a ((jM Z.κ.blt (cN.zip ds)).map (·.2)) n) E s:=by
  have F:us.length=ds.length:=by rw[<-l.length,h.len]
  have V:keys.size=ds.length:=by
    have:=congrArg al0 f;rw[akh,akh,ak0]at this;omega
  have g:(keys.zip us.toArray).size=ds.length:=by rw[Array.size_zip,V,ako,F,Nat.min_self]
  have D:∀v∈keys.toList,∃κ,Z.κ.keyOf v=some κ:=λv k=>by
    have:Z.κ.keyOf v∈cN.map some:=by rw[<-f];exact amz k
    obtain⟨κ,_,e⟩:=akK.mp this;exact⟨κ,e.symm⟩
  unfold ksk_end
  try dsimp only
  simp only[am7,if_false]
  by_cases b:us.toArray.size<2
  · rw[if_pos b,if_pos b]
    refine akc (akm ?_);rw[StateT.run_pure];refine akc (akm ?_)
    try dsimp only
    refine Pz (st:=SortSt.mk' general' (keys.zip us.toArray) #[] 7 none) u x y h l f hl q m S (Array.Perm.refl _) ?_ rfl;intro i j W M;have L:j<(keys.zip us.toArray).size:=M;rw[g]at L;rw[ako]at b;have:i=j:=by omega
    subst this;exact PyProof.Rows.KeyOrd.kle_refl _
  · rw[if_neg b,if_neg b]
    rw[ako]at b;have I:2<=(keys.zip us.toArray).size:=by
      have Y:2<=us.length:=Nat.le_of_not_lt b;rw[g];omega
    have T:keyKind' keys=pure oneType':=by
      cases e:keys.toList with
      |nil=>
               have N:keys.size=0:=by rw[<-ak0,e];rfl
               omega
      |cons z r=>
        cases r with
        |nil=>
                 have N:keys.size=1:=by rw[<-ak0,e];rfl
                 omega
        |cons B r=>
          have R:keys=(z::B::r).toArray:=by rw[<-e,anF]
          rw[R];exact t.kind z B r λv k=>D v (by rw[e];exact k)
    rw[T];refine akc (akm ?_);refine akc (ak9 (wpS_sortRunsK (κ:=Z.κ) t.one (a₀:=keys.zip us.toArray) (st:=SortSt.mk' oneType' (keys.zip us.toArray) #[] 7 none)
      (Q:=λ_ d=>(arrOf d).Perm (keys.zip us.toArray)/\failedOf d=none/\SortedToK Z.κ (arrOf d) (keys.zip us.toArray).size)
      (λp c=>?_) ⟨Array.Perm.refl _,rfl,rfl,rfl⟩ I (by rw[g];exact m) λd a1 a2 eW=>⟨a1,a2,eW⟩) ?_ λ_ _ e=>e)
    · rw[ksk_zip]at c
      exact D _ (amX c).1
    rintro⟨⟨⟩,d⟩ n ⟨rfl,c,P,ax⟩
    try dsimp only
    exact Pz u x y h l f hl q m S c (by rw[c.size_eq];exact ax) P
end
end aF
namespace aF
open PySem PySem.Spec aB PyProof.Rows
variable[aB.a5]
section
variable{X:aT}{zn:c0}{U:aB.St}{H:aw}{s:akj}{G:aw->Prop}{mf:bq}{f l:Addr}{k:Nat}{O:a8}{Z:iH}{ds:List D}{cN:List Z.κ.α}{xs:List V}{E:dj}
def aeM(S:Z.Ok)(J:Inv X zn U H s)(t:dg O H)(n:bl X.K X.mg O H ds xs)(fo:dr X.K H l xs)(R:nL X k f G mf)(yu:G H)(aC:cA (k+2) X.A)
  (sC:∀(i:Nat)(d:D),ds[i]? = some d->∃κ,cN[i]? = some κ/\(mf [d]).run []=.ok (.v (Z.eO κ)) []) (c:cN.length=ds.length) (aA:cN.Nodup) (T:ds.length<64) :
  wpAny (model X.prog X.w) X.A (call (.builtin "sorted") [.ref l] [(aky "key",.ref f)]) (λu F=>∃a,u=.ref a/\H a=none/\Bf X zn U O H a ((jM Z.κ.blt (cN.zip ds)).map (·.2)) F) E s:=by
 obtain⟨us,p,pl,_⟩:=J.list fo;have hl:s.heap.IsList l us.toArray:=pl.isList;have En:us.length=ds.length:=by rw[<-p.length,n.len]
 have g:H (s.heap.objs.size+1)=none:=J.cc.fresh (an1 _);refine call_function_entry_kw kind_sorted plain_sorted entry_sorted (ksk_s1 _ _) ?_;unfold anU.«sorted»;refine akc (m:=checkCount "sorted" 1 1 _) (akm ?_);refine akc (collect_list hl ?_ (by rw[akB];omega));refine akc (wpAny_newList ?_ (by rw[akB];omega));have M:((s.heap.push (alg "list" #[] 0)).update s.heap.objs.size (akN (·++us.toArray))).objs.size=s.heap.objs.size+1:=by
  rw[Heap.size_update,size_push']
 have j:(((s.heap.push (alg "list" #[] 0)).update s.heap.objs.size (akN (·++us.toArray))).push (alg "list" us.toArray 0)).get? (s.heap.objs.size+1)=some (alg "list" us.toArray 0):=by
  rw[<-M];exact akp _ rfl
 have keep:∀b o,s.heap.get? b=some o->(((s.heap.push (alg "list" #[] 0)).update s.heap.objs.size (akN (·++us.toArray))).push (alg "list" us.toArray 0)).get? b=some o:=λb o q=>by
  have L:b<s.heap.objs.size:=akr q;rw[Heap.get?_push_ne _ _ _ (by rw[M];exact akR (Nat.lt_succ_of_lt L)),Heap.get?_update_ne _ _ _ _ (akR L),Heap.get?_push_ne _ _ _ (akR L)];exact q
 have bj:Inv X zn U (upd H (s.heap.objs.size+1) (.l xs)) { s with heap:=((s.heap.push (alg "list" #[] 0)).update s.heap.objs.size (akN (·++us.toArray))).push (alg "list" us.toArray 0) }:=
  J.laid (t':=s.toks) keep (an1 _) ⟨by rw[n.len,akB];omega,us,0,p,j⟩
 have UW:Go O O H (upd H (s.heap.objs.size+1) (.l xs)):=Go.hg g;have ahL:dg O (upd H (s.heap.objs.size+1) (.l xs)):=t.same UW.same;show wpAny _ _ _ _ _ { s with heap:=((s.heap.push (alg "list" #[] 0)).update s.heap.objs.size (akN (·++us.toArray))).push (alg "list" us.toArray 0) };rw[M];refine akc (alL (wpAny_call_entry_kw slot_list_sort ⟨_,j,rfl⟩ entry_list_sort ?body (ksk_l1 _ _)))
 case body=>
  show wpAny (model X.prog X.w) X.A.in1.in1 (anU.«list.sort» ⟨[.ref (s.heap.objs.size+1)],[(aky "key",.ref f)]⟩) _ _ _;rw[ksk_t1];generalize hV:s.heap.objs.size+1=a at *;generalize((s.heap.push (alg "list" #[] 0)).update s.heap.objs.size (akN (·++us.toArray))).push (alg "list" us.toArray 0)=ag at *;have s1:=alr ag a (akN λ_=>(#[]:Array Value));obtain⟨av,B⟩:∃av,(ag.update a (akN λ_=>(#[]:Array Value))).get? a=some (alg "list" #[] av):=⟨_,amF j λ_=>#[]⟩;have P:Inv X zn U (upd (upd H a (.l xs)) a (.ext (lstP a av))) { s with heap:=ag.update a (akN λ_=>(#[]:Array Value)) }:=
   bj.write (x:=a) (e:=a) (t':=s.toks) (by rw[d6];trivial) (.inl rfl) (λb o ae e=>(s1.2 b ae).trans e) ⟨_,B⟩ (ZI B)
  rw[afX]at P;unfold ksk_tree;refine akc (listItems_at j rfl ?_);refine akc (aog j rfl ?_ (by rw[ako,akB];omega) (akY _));refine akc (seqEpoch_at B rfl ?_);refine akc (wpAny_newTuple ?_ (by show us.length<=_;rw[akB];omega));refine akc (wpAny_newList ?_ (akY _));refine alL ?_;have Q:Inv X zn U (upd H a (.ext (lstP a av))) { s with heap:=(ag.update a (akN λ_=>(#[]:Array Value))).push (alg "tuple" us.toArray 0) }:=
   P.kept (t':=s.toks) λb o e=>akf _ e
  generalize ajt:(ag.update a (akN λ_=>(#[]:Array Value))).push (alg "tuple" us.toArray 0)=C at *;have h:upd H a (.ext (lstP a av)) C.objs.size=none:=Q.cc.fresh (akk _);have y:C.objs.size≠a:=by
   intro z;rw[z,d6]at h;cases h
  have W:H C.objs.size=none:=by rw[c2 y]at h;exact h
  have jS:Inv X zn U (upd (upd H a (.ext (lstP a av))) C.objs.size (.l [])) { s with heap:=C.push (alg "list" #[] 0) }:=
   Q.laid (t':=s.toks) (λb o e=>akf _ e) (akk _) ⟨akY _,[],0,.nil,akp _ rfl⟩
  have N:Go O (f_ O C.objs.size .dq) H (upd (upd H a (.ext (lstP a av))) C.objs.size (.l [])):=(Go.hg g).trans (Go.new h);have TJ:dg (f_ O C.objs.size .dq) (upd (upd H a (.ext (lstP a av))) C.objs.size (.l [])):=(t.same (Go.hg (O:=O) g).same).new h;have Y:qn X zn U G O H a C.objs.size av [] { s with heap:=C.push (alg "list" #[] 0) }:=
   ⟨⟨f_ O C.objs.size .dq,_,[],jS,N,TJ,R.1 _ _ N.same yu,by rw[c2 y.symm];exact d6,d6,rfl,mx⟩,λm=>t.has a (by rw[t.cf.2 a m];intro z;cases z) g⟩
  refine ak9 (aeP (E:=E) S R (aC.in1.in1) g W y n p sC c T Y λF V ao Xz=>aeN S g W y n p Xz c aA T ao) (λr F I=>?_) λ_ _ e=>e
  obtain⟨rfl,I⟩:=I;exact⟨_,rfl,akm ⟨_,rfl,a,rfl,g,I⟩⟩
end
structure pj(K:aO)(c P:Addr)(q:Str):Prop where
 hd:∀h,K.In h->W.CodeHd h c P
 ia:a5.ia P
 tN:a5.tN P=q
structure kl(base:Heap)(mg:bp):Prop where
 ex:∃bm o,mg (aky "__builtins__")=some (ald bm)/\bm≠aon/\bm≠akP/\base.get? bm=some o/\o.cls=aoS "module"/\o.dict=some aon/\o.data=Data.plain
def EZ(f:Addr)(bc:Obj):Heap->Prop:=λh=>h.get? f=some bc
def mN(f c:Addr)(q:Str)(bc:Obj):aw->Prop:=λH=>H f=some (.ext (EZ f bc))/\H c=some (.ext (qC c q))
def mN.mono(H H':aw)(s:eC H H')(g:mN f c q bc H):mN f c q bc H':=⟨s.at' _ _ g.1,s.at' _ _ g.2⟩
def mN.upd(H:aw)(p:Addr)(a:List V)(o:gF)(h:H p=some (.l a))(g:mN f c q bc H):mN f c q bc (upd H p o):=
 ⟨by rw[c2 (by rintro rfl;have:=g.1;rw[h]at this;cases this)];exact g.1,by rw[c2 (by rintro rfl;have:=g.2;rw[h]at this;cases this)];exact g.2⟩
def Uh{K:aO}{mg:bp}{N ps:List Str}{m:bx}{vs:List V}{H:aw}{Q:cU}(h:e1 K mg (fnOf ps.length N.length (a4 m)) vs H Q i3):fN K mg m (aB.start N vs) H Q:=by
 obtain⟨O,ds,r,S,k,dX,F,h,q⟩:=h;have hl:=yo h;unfold fnOf at h;rw[if_pos hl]at h;obtain⟨I,S1,B,h⟩:=M.inv h;have G:=FR (N:=N) k dX F hl;obtain⟨x,A,D,n⟩:=M.inv B;refine⟨d4 O,_,S,x,A,G,D,λj v H' g w u nn=>?_⟩
 let i:a8:=⟨λb=>match H b with|some _=>O b|none=>j b,O.bI⟩
 have s:∀b,H b≠none->i b=O b:=λb c=>by
  show(match H b with|some _=>O b|none=>j b)=O b
  cases e:H b with
  |none=>exact absurd e c|some o=>rfl
 have p:∀b,H b=none->i b=j b:=λb c=>by
  show(match H b with|some _=>O b|none=>j b)=j b;rw[c]
 have c6:lF j i:=⟨λb c=>by
  by_cases f:H b=none
  .rw[p b f];exact c
  .rw[s b f];exact nS.mp ((g.own b f).symm.trans c),g.bI.symm⟩
 have go:Go O i H H':=⟨g.same,λb c=>s b c,rfl⟩;have cv:dg i H':=⟨λb c=>by
  by_cases f:H b=none
  .rw[p b f]at c;exact w.cv.has b c
  .exact g.same.some f,w.cv.tabs,k.cf.1,λb m=>(s b (k.has b (by rw[k.cf.2 b m];intro z;cases z))).trans (k.cf.2 b m)⟩
 cases x with
 |v d=>
  cases n;cases h;exact q i v H' go cv (Rep.c6 c6 u) trivial
 |fr y=>
  cases n;cases h;obtain⟨a,ys,rfl,l,t,E⟩:=u;have f:=nn a rfl;exact q i _ H' go cv ⟨a,ys,rfl,l,(p a f).trans t,E.c6 c6⟩ nn
 |bN y=>cases n
 |mv y=>cases n
section
variable{X:aT}{k:Nat}{f c:Addr}{name q:Str}{params:am5}{body:Expr}{scope:Scope}{pm gT:Value}{N ps:List Str}{m:bx}
theorem Nu{p1:Str}(a:gQ N [p1] scope)(O:∀(u:Value),ams (W.kla_fn name q params body scope [] pm (.ref c) gT) ⟨[u],[]⟩=pure [(p1,u)])
  (B:∀(A:akL)(s:akj)(H:aw),cA k (A.deeper (amP q scope s.heap.objs.size f (.ref c)))->gO (gU eA X.prog X.w X.K X.mg X.base N q scope f (.ref c) A X.stack s H i3).gA body m) :
  nL X (k+1) f (mN f c q (W.kla_obj name q params body scope [] pm c gT)) (fnOf 1 N.length (a4 m)):=by
 refine⟨mN.mono,mN.upd,λA s H u v Q i d g E M=>?_⟩;obtain⟨I,_⟩:=d.cc f _ g.1;obtain⟨L,_⟩:=d.cc c _ g.2;have j:s.heap.NoLimit:=d.mod.nolimit.keeps λb o e=>(d.bs b o e).1
 have p:∀y∈[p1].zip [u],scope.names.lookup y.1=some .local\/(scope.names.lookup y.1=some .cell/\((cellsFrom (s.heap.objs.size+1) scope.names []).lookup y.1).isSome=true):=λz t=>by
  obtain⟨n,v⟩:=z;rcases a.par n (amX t).1 with q|q
  .exact .inl q
  .exact .inr ⟨q,aow _ _ _ (.inl q)⟩
 refine W.kla_callFunE i.depth I rfl a.co a.gen rfl L ?_;rw[O];refine akm ?_;refine wpAny_newFunctionEnv_cells a.kind p λenv he l x=>?_
 subst he;refine⟨j.keeps x.toInCall.keep,W.kla_codeExpr ?_⟩;have J:Inv (gU eA X.prog X.w X.K X.mg X.base N q scope f (.ref c) A X.stack s H i3) [] (aB.start N [v]) H l:=MP a i.hd d rfl (.cons E .nil) x;refine ak9 ((b2.gA (B A s H (i.deeper _))) [] l (aB.start N [v]) H _ J (Uh (ps:=[p1]) M)) (λu' r ax=>?_) λe r ax=>ax
 obtain⟨F,H',h,D,G⟩:=ax;exact⟨F,H',h.os,h.bare,h.base,h.cc,D,G⟩
end
end aF
namespace aF
open PySem PySem.Spec aB PyProof.Rows
theorem PQ{a b:Int}:∀l:List Value,aoG l->aoG (l++[aml a,aml b,c])
 |[],_=>trivial|.int _ _::.int _ _::_::rest,h=>PQ rest h
theorem GV{pos e:Pos}:∀l:List Value,aoG l->anv e (l++[aml pos.line,aml pos.col,c])=some o->anv e l=some o\/o=c
 |[],_,h=>by
  right;have h:(if((pos.line:Int)==e.line&&(pos.col:Int)==e.col)=true then some c else none)=some o:=h;split at h
  .cases h;rfl
  .cases h
 |.int a _::.int b _::d::rest,t,h=>by
  have h:(if(a==e.line&&b==e.col)=true then some d else anv e (rest++[aml pos.line,aml pos.col,c]))=some o:=h;show(if(a==e.line&&b==e.col)=true then some d else anv e rest)=some o\/_;split at h
  .rename_i f;rw[if_pos f];exact .inl h
  .rename_i f;rw[if_neg f];exact GV rest t h
variable[aB.a5]
section
variable{X:aT}{zn:c0}{U:aB.St}{H:aw}{s:akj}{O:a8}{c P:Addr}{q:Str}{params:am5}{body:Expr}{scope:Scope}{pos:Pos}
def Nt(J:Inv X zn U H s)(cV:dg O H)(L:pj X.K c P q)(B:kl X.base X.mg)(nc:X.env.code=.ref c)(a6:X.env.qual++aky "<lambda>"=q)(n_:aoq params X.env=([],[]))(m':amE scope X.env=pure []) :
  wpAny (model X.prog X.w) X.A (eval (.Lambda params body scope pos) X.env) (λu a0=>∃(f c':Addr)(pm E:Value)(H':aw),u=.ref f/\Inv X zn U H' a0/\Go O O H H'/\dg O H'/\mN f c' q (W.kla_obj (aky "<lambda>") q params body scope [] pm c' E) H') X.dP s:=by
 obtain⟨ps,i,Q,V⟩:=cV.tabs P L.ia;rw[L.tN]at V;have LM:s.heap.get? P=some (W.tabObj ps):=J.cc P _ i;have IH:∀b o,X.base.get? b=some o->b≠P:=λb o e z=>by
  subst z;have:=(J.bs b o e).2;rw[i]at this;cases this
 have pM:s.heap.Ns akP X.mg:=J.mod.glob.keeps J.bk;have Xp:akP≠P:=by
  obtain⟨o,az,ct,e,_⟩:=J.mod.glob;exact IH _ _ e
 have lW:s.heap.BuiltinsAt X.mg P:=by
  obtain⟨bm,o,cq,cx,g5,hu,js⟩:=B.ex;exact⟨bm,o,cq,cx,g5,IH _ _ hu,J.bk _ _ hu,js⟩
 have C:=L.hd _ J.f3;refine W.kla_eval n_ ?_;rw[a6]
 cases hS:anv pos ps.toList with
 |some F=>
  obtain⟨c',rfl,q4⟩:=V pos F hS;refine W.kla_makeFunctionHit m' J.ok.glob pM nc C LM Q hS lW λE h' tk au gJ=>?_
  have I:H h'.objs.size=none:=J.cc.fresh gJ;have go:Go O O H (upd H h'.objs.size (.ext (EZ h'.objs.size (W.kla_obj (aky "<lambda>") q params body scope [] ((X.mg (aky "__name__")).getD .none) c' E)))):=Go.hg I;refine⟨h'.objs.size,c',_,E,_,rfl,J.laid (t':=tk) (λb o e=>akf _ (au b o e)) gJ ?_,go,cV.same go.same,d6,go.same.at' _ _ q4⟩;exact⟨akp _ rfl,⟨_,akp _ rfl⟩,λy a p r=>r _ p⟩
 |none=>
  refine W.kla_makeFunction m' J.ok.glob pM nc C LM Q hS Xp lW λc' E h' tk M Ml eL DF ME=>?_
  have Mv:H c'=none:=J.cc.fresh Ml;have Y:c'≠P:=(kJ i Mv).symm
  let N:=ps++#[aml pos.line,aml pos.col,.ref c']
  let m:=upd (upd H P (.f9 N)) c' (.ext (qC c' q))
  have k:∀{b:Addr},b≠P->b≠c'->m b=H b:=λy a=>by show upd _ _ _ _=_;rw[c2 a,c2 y]
  have R:m P=some (.f9 N):=by show upd _ _ _ _=_;rw[c2 Y.symm];exact d6
  have T:m c'=some (.ext (qC c' q)):=d6;have Z:∀{b:Addr}{o:Obj},s.heap.get? b=some o->b≠c':=λe=>akR (akQ (akr e) Ml)
  have x:∀{b:Addr}{o:gF},H b=some o->b≠c':=λe=>kJ e Mv
  have un:gG X.aU [] H m s.heap h':=by
   refine⟨λb o e n _ _=>M b o (by rintro rfl;rw[i]at n;cases n) e,λb o e n _ _=>⟨o.slots,M b o (by rintro rfl;rw[i]at n;cases n) e⟩,
    λb o e n _=>by rw[k (by rintro rfl;rw[i]at n;cases n) (Z e)];exact n,λb o e _=>?_,λb xs e=>?_,λb o u e=>?_,λb S e=>?_⟩
   .by_cases l:b=P
    .rw[l];exact⟨_,ME⟩
    .exact⟨o,M b o l e⟩
   .rw[k (by rintro rfl;rw[i]at e;cases e) (x e)];exact e
   .rw[k (by rintro rfl;rw[i]at e;cases e) (x e)];exact e
   .by_cases l:b=P
    .subst l
     rw[i]at e;cases e;exact⟨_,R⟩
    .exact⟨#[],by rw[k l (x e),e];simp⟩
  have cc:gb X.prog X.w m h':=λb u e=>by
   by_cases y:b=c'
   .subst y
    rw[T]at e;cases e;obtain⟨ab,dE,vs,t,gE,ei,xh,AX⟩:=DF;cases gE;exact⟨⟨_,dE,vs,t,rfl,ei,xh,AX⟩,⟨_,ei⟩,λy a aX r=>by obtain⟨fD,abW,af1,t3,ag2,ag3,ag4,ag5⟩:=aX;cases ag2;exact⟨_,abW,af1,t3,rfl,r _ ag3,ag4,ag5⟩⟩
   .by_cases a:b=P
    .subst a
     rw[R]at e;cases e;exact ME
    .rw[k a y]at e
     refine(J.cc b u e).rD (λd o hd lS=>M d o (λz=>?_) lS) (λd D=>?_) λd xs D=>?_
     .rcases hd with rfl|hd
      .exact a z
      .rw[z,i]at hd;cases hd
     .rw[k (by rintro rfl;rw[i]at D;cases D) (x D)];exact D
     .rw[k (by rintro rfl;rw[i]at D;cases D) (x D)];exact D
  have bj:Inv X zn U m { s with heap:=h',toks:=tk }:=J.un (t':=tk) un cc;have I:m h'.objs.size=none:=cc.fresh (akk _);have aev:eC H m:=by
   refine⟨λb o e n=>by rw[k (by rintro rfl;rw[i]at e;cases e;exact n) (x e)];exact e,λb S e=>?_,λg qs Vh=>?_⟩
   .by_cases l:b=P
    .exact⟨N,by rw[l];exact R⟩
    .exact⟨S,by rw[k l (x e)];exact e⟩
   .obtain⟨S,av,aE,cJ⟩:=g qs Vh
    by_cases l:qs=P
    .subst l
     refine⟨N,R,?_,λj F G=>?_⟩
     .show aoG (ps++#[aml pos.line,aml pos.col,.ref c']).toList
      rw[Array.toList_append];exact PQ _ Q
     .have G:anv j (ps++#[aml pos.line,aml pos.col,.ref c']).toList=some F:=G
      rw[Array.toList_append]at G;rw[L.tN];rcases GV _ Q G with h|h
      .obtain⟨ab,rfl,a⟩:=V j F h
       exact⟨ab,rfl,by rw[k (by rintro rfl;rw[i]at a;cases a) (x a)];exact a⟩
      .exact⟨c',h,T⟩
    .refine⟨S,by rw[k l (x av)];exact av,aE,λj F G=>?_⟩
     obtain⟨ab,y,a⟩:=cJ j F G;exact⟨ab,y,by rw[k (by rintro rfl;rw[i]at a;cases a) (x a)];exact a⟩
  have go:Go O O H (upd m h'.objs.size (.ext (EZ h'.objs.size (W.kla_obj (aky "<lambda>") q params body scope [] ((X.mg (aky "__name__")).getD .none) c' E)))):=(⟨aev,λ_ _=>rfl,rfl⟩:Go O O H m).trans (Go.hg I);refine⟨h'.objs.size,c',_,E,_,rfl,bj.laid (t':=tk) (λb o e=>akf _ e) (akk _) ?_,go,cV.same go.same,d6,(tU I _).at' _ _ T⟩;exact⟨akp _ rfl,⟨_,akp _ rfl⟩,λy a p r=>r _ p⟩
end
end aF
namespace aF
open PySem PySem.Spec aB PyProof.Rows
def SU:ak1 "sorted"=some (.builtin "sorted"):=by decide +kernel
def sQ(Z:iH)(mf:bq)(d:D):Option Z.κ.α:=match(mf [d]).run []with
 |.ok (.v x) []=>Z.un x|_=>none
def keysOf(Z:iH)(mf:bq):List D->Option (List Z.κ.α)
 |[]=>some []|d::ds=>match sQ Z mf d,keysOf Z mf ds with
  |some a,some as=>some (a::as)|_,_=>none
def mU{α:Type}(blt:α->α->Bool):List α->Bool
 |[]=>true|a::r=>r.all (λb=>blt a b||blt b a)&&mU blt r
def n5(Z:iH)(mf:bq)(x:R):M R:=match x.fu with
 |some ds=>match keysOf Z mf ds with
  |some a=>if mU Z.κ.blt a=true/\ds.length<64 then pure (.fr ((jM Z.κ.blt (a.zip ds)).map (·.2)))else bad|none=>bad
 |none=>bad
@[simp] def px(Z:iH)(mf:bq)(a:bx)(U:aM):M R:=do
 let x <-a U
 n5 Z mf x
theorem Nd{Z:iH}{mf:bq}(t8:∀d a,Z.un d=some a->d=Z.eO a):∀{ds:List D}{b:List Z.κ.α},keysOf Z mf ds=some b->b.length=ds.length/\∀(i:Nat)(d:D),ds[i]? = some d->∃κ,b[i]? = some κ/\(mf [d]).run []=.ok (.v (Z.eO κ)) []
 |[],b,h=>by cases h;exact⟨rfl,λi d h=>by simp at h⟩
 |d::ds,b,h=>by
  unfold keysOf at h;split at h
  .rename_i a as c f
   cases h;obtain⟨l,r⟩:=Nd t8 f;refine⟨by rw[akO,akO,l],λi e he=>?_⟩
   cases i with
   |zero=>
    cases(show some d=some e from he);refine⟨a,rfl,?_⟩;unfold sQ at c;split at c
    .rename_i x g
     rw[g,t8 x a c]
    .cases c
   |succ i=>
    obtain⟨κ,av,aE⟩:=r i e (by simpa using he);exact⟨κ,by simpa using av,aE⟩
  .cases h
theorem GX(Q:alS):∀{l:List Q.α},mU Q.blt l=true->l.Nodup
 |[],_=>.nil|a::r,h=>by
  unfold mU at h;rw[akH,akV]at h;rw[ale];refine⟨λb=>?_,GX Q h.2⟩;have:=h.1 a b;rw[Q.irrefl]at this;cases this
variable[aB.a5]
section
variable{X:aT}{k:Nat}{e:Expr}{cO:bx}{Z:iH}{p pos kp:Pos}{jd:Expr}{mf:bq}{G:Addr->aw->Prop}
def Te(F:Z.Ok)(V:eb X "sorted")(hm:X.mg "sorted"=none)(T:cA (k+2) X.A)(o:gO X e cO)
  (ek:∀(zn:c0)(s:akj)(U:aB.St)(O:a8)(H:aw),Inv X zn U H s->dg O H->
   wpAny (model X.prog X.w) X.A (eval jd X.env) (λu P=>∃(f:Addr)(H':aw)(G:aw->Prop),u=.ref f/\Inv X zn U H' P/\Go O O H H'/\dg O H'/\G H'/\nL X k f G mf) X.dP s)
  (he:akJ pos (ake [e] X.env)=(false,eval e X.env)::akJ pos (ake [] X.env):=by rfl)
  (ax:ake [e] X.env=(false,eval e X.env)::ake [] X.env:=by rfl)
  (hY:(akJ pos (ake [e] X.env)).any (·.1)=false:=by rfl) :
  gO X (.Call (.Name "sorted" p) [e] [⟨some (aky "key"),jd,kp⟩] pos) (px Z mf cO):=by
 rintro zn s U H Q J ⟨O,I,S,r,Y,st,h,q⟩;obtain⟨x,S1,W,h⟩:=M.inv h;obtain⟨ds,g,n',N,yC,k7,rfl,rfl⟩:∃ds g,x.fu=some ds/\keysOf Z mf ds=some g/\mU Z.κ.blt g=true/\ds.length<64/\r=.fr ((jM Z.κ.blt (g.zip ds)).map (·.2))/\S1=Y:=by
  unfold n5 at h;split at h
  .rename_i ds av
   split at h
   .rename_i g aE
    by_cases c:mU Z.κ.blt g=true/\ds.length<64
    .rw[if_pos c]at h
     cases h;exact⟨ds,g,av,aE,c.1,c.2,rfl,rfl⟩
    .rw[if_neg c]at h;cases h
   .cases h
  .cases h
 obtain⟨m,sC⟩:=Nd F.t8 N;refine alB (nk J V hm SU ?_);refine callWith_kw ?_ he hY rfl rfl;refine b0 ((wA o z2 ax) pos zn s U H (λvs i=>∃v d,vs=[v]/\Go O d H i/\cK X.K X.mg d I S1 U i/\ew X.K X.mg d i x v) J ⟨O,I,S,x,S1,st,W,λd v i t n B nn=>⟨v,d,rfl,t,n,B⟩⟩) λus s1 y=>?_
 obtain⟨vs,i,bj,bu,v,d,ev,t,n,B⟩:=y;subst ev;obtain⟨l,ys,rfl,hl,bA⟩:=R.ov B n';obtain⟨u,rfl,eh⟩:=vals1 bu;cases eh;refine wpAny_evalAll_cons (akc (b0 (ek zn s1 U d i bj n.cv) λu s2 C=>akc (ank (akm ?_))));obtain⟨f,aK,G,rfl,b_,j,c8,L,gi⟩:=C;refine wpAny_evalAll_nil ?_;show wpAny _ _ (call (.builtin "sorted") [.ref l] [(aky "key",.ref f)]) _ _ _;refine b0 (aeM F b_ c8 (bA.go j) (j.same.seq hl) gi L T sC m (GX Z.κ.toKeyOrd yC) k7) λu s3 y=>?_
 obtain⟨a,m6,l0,e3,D,zs,dI,E,pB,q1,ny,z⟩:=y;subst m6;refine⟨.ref a,D,dI,rfl,q e3 _ D (t.trans (j.trans E)) (n.go (j.trans E) pB) ⟨a,zs,rfl,q1,ny,z⟩ λb cL=>?_⟩;cases cL;exact(t.trans j).same.free l0
def Tf{c P:Addr}{q p1:Str}{params:am5}{body:Expr}{scope:Scope}{z:Pos}{N:List Str}{m:bx}(y:Z.Ok)(i:eb X "sorted")(x:X.mg "sorted"=none)(h:cA (k+3) X.A)(L:pj X.K c P q)(B:kl X.base X.mg)(Q:X.env.code=.ref c)
  (g:X.env.qual++aky "<lambda>"=q) (d:gQ N [p1] scope)
  (E:∀(c:Addr)(b a u:Value),ams (W.kla_fn (aky "<lambda>") q params body scope [] b (.ref c) a) ⟨[u],[]⟩=pure [(p1,u)])
  (j:∀(f c:Addr)(A:akL)(s:akj)(H:aw),cA k (A.deeper (amP q scope s.heap.objs.size f (.ref c)))->gO (gU eA X.prog X.w X.K X.mg X.base N q scope f (.ref c) A X.stack s H i3).gA body m)
  (l:gO X e cO) (M:aoq params X.env=([],[]):=by rfl) (F:amE scope X.env=pure []:=by rfl)
  (he:akJ pos (ake [e] X.env)=(false,eval e X.env)::akJ pos (ake [] X.env):=by rfl)
  (ax:ake [e] X.env=(false,eval e X.env)::ake [] X.env:=by rfl)
  (t:(akJ pos (ake [e] X.env)).any (·.1)=false:=by rfl) :
  gO X (.Call (.Name "sorted" p) [e] [⟨some (aky "key"),.Lambda params body scope z,kp⟩] pos) (px Z (fnOf 1 N.length (a4 m)) cO):=
 Te (k:=k+1) y i x h l (λzn s U O H J n=>b0 (Nt J n L B Q g M F) λu R ⟨f,c',b,a,H',I,r,g',d',D⟩=>
  ⟨f,H',_,I,r,g',d',D,Nu d (E c' b a) (j f c')⟩) he ax t
end
def yD{P:akC}{w:World}{K:aO}{mg:bp}{base:Heap}{x:Str}{st:Stmt}{ps N:List Str}{k:Nat}{p:aN}{n nl:Nat}{c:Addr}(gP:gP K mg x st ps)(M:∀(f:Addr)(dE:Value)(i:Option Addr)(du a l:Value)(g:Option Addr)(d cm:Value)(j:Array (Option Value)),mg x=some (.ref f)->K.lookup f=some ⟨dE,i,.func (al9 x x (iP st) (fJ st) (dd st) .none du a l g d cm),j⟩->d=.ref c)
  (u:gQ N ps (dd st)) (y:ps.length=n) (hl:N.length=nl)
  (B:∀(f:Addr)(A:akL)(outer:List Env)(s:akj)(H:aw)(E:gw),cA k (A.deeper (alk x (dd st) s.heap.objs.size f (.ref c)))->
   um (gU eA P w K mg base N x (dd st) f (.ref c) A outer s H E).gA (fJ st) p):eU P w K mg base x ps (k+1) (e1 K mg (fnOf n nl p)):=by
 obtain⟨f,I,F,b,m⟩:=gP.ex;refine⟨f,I,?_,b,F.kp,m⟩;obtain⟨dE,i,du,a,l,g,d,cm,j,rfl,t,G⟩:=F.ex;have e:=M f dE i du a l g d cm j m t;subst e;subst y hl;refine CU t G u (λvs H Q E ⟨O,ds,r,R,S,dX,D,h,q⟩=>D.len.trans (yo h)) λA outer s H vs Q E z L=>⟨_,(B f A outer s H E z).gA,IV L⟩
end aF
namespace aB
open PySem PySem.Spec PyProof.Rows
def h4(r:Int->Int->Bool)(z:Nat->Nat->Bool):List Int->List Int->Bool
 |x::xs,y::ys=>if x=y then h4 r z xs ys else r x y|xs,ys=>z xs.length ys.length
def NC(r:Int->Int->Bool)(z:Nat->Nat->Bool)(x y:Int)(xs ys:List Int):h4 r z (x::xs) (y::ys)=if x=y then h4 r z xs ys else r x y:=rfl
def Zy(r:Int->Int->Bool)(z:Nat->Nat->Bool)(ys:List Int):h4 r z [] ys=z 0 ys.length:=by cases ys<;>rfl
def Zz(r:Int->Int->Bool)(z:Nat->Nat->Bool)(xs:List Int):h4 r z xs []=z xs.length 0:=by cases xs<;>rfl
inductive iJ where
 |lt|le|gt
def iJ.op:iJ->CmpOp
 |.lt=>.Lt|.le=>.LtE|.gt=>.Gt
abbrev iJ.r(c:iJ)(i j:Int):Bool:=match c with
 |.lt=>decide (i<j)|.le=>decide (i<=j)|.gt=>decide (j<i)
abbrev iJ.z(c:iJ)(i j:Nat):Bool:=match c with
 |.lt=>decide (i<j)|.le=>decide (i<=j)|.gt=>decide (j<i)
def iJ.B:iJ->anU
 |.lt=>anU.«tuple.__lt__»|.le=>anU.«tuple.__le__»|.gt=>anU.«tuple.__gt__»
abbrev lexLt:List Int->List Int->Bool:=h4 (λi j=>decide (i<j)) (λi j=>decide (i<j))
abbrev lexLe:List Int->List Int->Bool:=h4 (λi j=>decide (i<=j)) (λi j=>decide (i<=j))
abbrev pT:List Int->List Int->Bool:=h4 (λi j=>decide (j<i)) (λi j=>decide (j<i))
def iJ.uh(c:iJ){a b d e:Nat}(h:a+e=b+d):c.z a b=c.z d e:=by cases c<;>exact decide_eq_decide.mpr (by omega)
def iJ.oR(c:iJ)(m n:Nat):Builtin.Tuple.tupleCompareSizes c.op m n=.bool (c.z m n):=by cases c<;>rfl
section
open PySem.SeqAt
open PySem.AutoSeq1 (wpAny_loadPart')
open PySem.MeetsSeq PySem.MeetsSeq2 PySem.MeetsSeq3
set_option maxHeartbeats 0 in
def F6(i:iJ)(l b:Addr)(f m:Array Value)(n X:Nat)(dC Y:Option Addr)(bh Z:Array (Option Value))(ns ms:List Int)(hi:amr f.toList ns)(S:amr m.toList ms) :
  Meets (i.B ⟨[.ref l,.ref b],[]⟩)
   (λ_ R s=>s.heap.get? l=some { cls:=.type "tuple",dict:=dC,data:=.seq f n,slots:=bh }/\s.heap.get? b=some { cls:=.type "tuple",dict:=Y,data:=.seq m X,slots:=Z }/\
    R (.ok (.ret (.bool (h4 i.r i.z ns ms)))) s):=
 .of_wp λprog w A R s h=>by
  have oR:=i.oR;have uh:=@iJ.uh i;have O:∀(A:akL)(a c:Int)(t u:Tok)(E:dj)(Q:dj)(s:akj),Q (.bool (i.r a c)) s->wpAny (model prog w) A (richCompare i.op (.int a t) (.int c u)) Q E s:=by
   cases i<;>intro A a c t u E Q s h
   .exact(PyProof.Rows.lt_int h:wpAny (model prog w) A (akX .Lt (.int a t) (.int c u)) Q E _)
   .exact(PyProof.Rows.le_int h:wpAny (model prog w) A (akX .LtE (.int a t) (.int c u)) Q E _)
   .exact(PyProof.Rows.gt_int h:wpAny (model prog w) A (akX .Gt (.int a t) (.int c u)) Q E _)
  have L:∀{x y:Int}{xs ys:List Int},h4 i.r i.z (x::xs) (y::ys)=if x=y then h4 i.r i.z xs ys else i.r x y:=rfl
  generalize i.r=C at *;generalize i.z=o at *;obtain⟨K,g,d,tk,os⟩:=s;obtain⟨hl,W,h⟩:=h;cases i
  all_goals
   dsimp only[iJ.op]at O oR;have f2:=aoy;have gE:f.size=ns.length:=by rw[<-hi.length];simp
   have ei:m.size=ms.length:=by rw[<-S.length];simp
   wp_walk using wpAny_loadPart' hl,wpAny_loadPart' W,wpAny_forIn_list _ (λrest b I=>b.1=none/\I=⟨K,g,d,tk,os⟩/\∃(vs F:List Value)(D p:List Int),rest=vs.zip F/\
    amr vs D/\amr F p/\D.length+m.size=p.length+f.size/\R (.ok (.ret (.bool (h4 C o D p)))) ⟨K,g,d,tk,os⟩) _
   case turn=>
    rintro⟨y,x⟩ rest b I ⟨M,rfl,vs,F,D,p,hz,G,H,j,k⟩
    cases G with
    |nil=>rw[List.zip_nil_left]at hz;cases hz
    |cons a t T=>
     cases H with
     |nil=>rw[List.zip_nil_right]at hz;cases hz
     |cons c u V=>
      rw[am8]at hz;injection hz with J U
      injection J with a9 ai
      subst a9 ai;rw[L]at k;simp only[akO]at j;obtain⟨e,he,N⟩:=c5.TZ A.in1 ⟨K,g,d,tk,os⟩ a t c u;refine akc (he prog w _ _ ?_)
      cases e with
      |true=>
       rw[if_pos (N.mp rfl)]at k
       wp_walk
       exact⟨rfl,rfl,_,_,_,_,U,T,V,by omega,k⟩
      |false=>
       rw[if_neg (λq=>absurd (N.mpr q) akl)]at k
       wp_walk using O
       exact⟨_,rfl,by simpa using k⟩
   case fin=>
    rintro⟨cq,cx⟩ I ⟨M,rfl,vs,F,D,p,hz,G,H,j,k⟩;simp only at M;subst M;have P:h4 C o D p=o f.size m.size:=by
     cases G with
     |nil=>
      rw[Zy];simp only[alz]at j;exact uh (by simp only[alz]at *;omega)
     |cons a t P=>
      cases H with
      |nil=>
       rw[Zz];simp only[alz]at j;exact uh (by simp only[alz]at *;omega)
      |cons c u hw=>
       rw[am8]at hz;cases hz
    rw[P]at k
    wp_walk
    exact⟨_,rfl,by rw[oR];exact k⟩
   case h=>
    exact⟨rfl,rfl,f.toList,m.toList,ns,ms,rfl,hi,S,by omega,h⟩
end
def I2(c:iJ){prog:akC}{w:World}{A:akL}{E:dj}{s:akj}{l b:Addr}{a g:Array Value}{ns ms:List Int}{Q:dj}(hl:IsTup s.heap l a)(B:IsTup s.heap b g)(hi:amr a.toList ns)(j:amr g.toList ms)
  (k:A.units<cLine) (h:Q (.bool (h4 c.r c.z ns ms)) s):wpAny (model prog w) A (akX c.op (.ref l) (.ref b)) Q E s:=by
 obtain⟨⟨cls,dC,data,bh⟩,d,u,i,hd⟩:=id hl;obtain⟨⟨D,q,m,t⟩,e,y,p,f⟩:=id B;simp only at u hd y f;subst u hd y f;have n:aom (h4 c.r c.z ns ms)≠Value.notImplemented/\Q (.bool (h4 c.r c.z ns ms)) s:=⟨(λx=>nomatch x),h⟩;cases c
 .exact anh (op:=.Lt) ⟨_,d,rfl⟩ ⟨_,e,rfl⟩ PySem.F.slot_tuple_lt PySem.F.entry_tuple_lt (PySem.F.args_tuple_lt_2 _ _) (F6 .lt l b a g i p dC q bh t ns ms hi j) ⟨d,e,n⟩ k
 .exact anh (op:=.LtE) ⟨_,d,rfl⟩ ⟨_,e,rfl⟩ PySem.F.slot_tuple_le PySem.F.entry_tuple_le (PySem.F.args_tuple_le_2 _ _) (F6 .le l b a g i p dC q bh t ns ms hi j) ⟨d,e,n⟩ k
 .exact anh (op:=.Gt) ⟨_,d,rfl⟩ ⟨_,e,rfl⟩ PySem.F.slot_tuple_gt PySem.F.entry_tuple_gt (PySem.F.args_tuple_gt_2 _ _) (F6 .gt l b a g i p dC q bh t ns ms hi j) ⟨d,e,n⟩ k
def Ol(c:iJ)(k:X.A.units+64<cLine):d0 X (akX c.op) (λx y H Q=>∃a b ns ms,x=.ref a/\y=.ref b/\dy X.K H a (ns.map V.int)/\dy X.K H b (ms.map V.int)/\Q (.ay (h4 c.r c.z ns ms)) H):=by
 intro zn s U H x y v u Q J d g h;obtain⟨a,b,ns,ms,rfl,rfl,f,e,q⟩:=h;cases d;cases g;obtain⟨its,j,p1,_⟩:=J.tuple f;obtain⟨l,i,ck,_⟩:=J.tuple e;exact I2 c p1 ck (intsAre_of j) (intsAre_of i) (by omega) ⟨.ay (h4 c.r c.z ns ms),H,J,rfl,q⟩
def aca(c:X.A.units+64<cLine):d0 X (akX .Lt) (λx y H Q=>∃a b ns ms,x=.ref a/\y=.ref b/\dy X.K H a (ns.map V.int)/\dy X.K H b (ms.map V.int)/\Q (.ay (lexLt ns ms)) H):=Ol .lt c
def ab9(c:X.A.units+64<cLine):d0 X (akX .LtE) (λx y H Q=>∃a b ns ms,x=.ref a/\y=.ref b/\dy X.K H a (ns.map V.int)/\dy X.K H b (ms.map V.int)/\Q (.ay (lexLe ns ms)) H):=Ol .le c
def U5{A:akL}{s:akj}{a c:Array Value}{ns ms:List Int}{Q:dj}(hl:IsTup s.heap l a)(d:IsTup s.heap b c)(hi:amr a.toList ns)(e:amr c.toList ms)(f:A.units<cLine)(h:Q (.bool (pT ns ms)) s):wpAny (model prog w) A (akX .Gt (.ref l) (.ref b)) Q E s:=I2 .gt hl d hi e f h
end aB
namespace aF
open PySem PySem.Spec aB
def tA(g:List Int->List Int->Bool):R->R->M R
 |.v (.t xs),.v (.t ys)=>match nums xs,nums ys with
  |some ns,some ms=>pure (.v (.ay (g ns ms)))|_,_=>bad
 |_,_=>bad
variable[aB.a5]
def G4{g:List Int->List Int->Bool}:ej K mg (λx y H Q=>∃a b ns ms,x=.ref a/\y=.ref b/\dy K H a (ns.map V.int)/\dy K H b (ms.map V.int)/\Q (.ay (g ns ms)) H) (tA g):=λO U S m H x y k n p l Q st f e h q=>by
 unfold tA at h;split at h
 .rename_i xs ys
  split at h
  .rename_i ns ms av aE
   cases h;obtain⟨a,as,rfl,d,i⟩:=f;obtain⟨b,bs,rfl,c,j⟩:=e;rw[zT i av]at d;rw[zT j aE]at c;exact⟨a,b,ns,ms,rfl,rfl,d,c,q O _ H (Go.refl _ _) st rfl trivial⟩
  .cases h
 .cases h
end aF
namespace aF
open PySem PySem.Spec aB PyProof.Rows
def sS(x:Str):Str:=x++aky ".<locals>."++aky "<lambda>"
def oe(K:aO)(P:Addr)(x:Str):Bool:=match W.tabIn K x with
 |some (_,o)=>o==P|none=>false
abbrev t4(K:aO)(ln:List Str):a5:=⟨λP=>∃x∈ln,∃c,W.tabIn K x=some (c,P),λP=>match ln.find? (oe K P)with
 |some x=>sS x| none=>""⟩
def ad1{K:aO}{ln:List Str}{x:Str}{c P:Addr}(b:x∈ln)(d:W.tabIn K x=some (c,P))(inj:∀y∈ln,oe K P y=true->y=x):(t4 K ln).tN P=sS x:=by
 show(match ln.find? (oe K P)with|some x=>sS x|none=>"")=_;have a:oe K P x=true:=by unfold oe;rw[d];exact beq_self_eq_true P
 cases e:ln.find? (oe K P)with
 |none=>exact absurd a (List.find?_eq_none.mp e x b)|some y=>
  dsimp only;rw[inj y (alZ e) (amZ e)]
def w4{K:aO}{x:Str}{f c P:Addr}{dE k:Value}{h g:Option Addr}{b:alo}{bh j:Array (Option Value)}{vs:Array Value}(a:ang K akP x=some (some (.ref f)))(l:K.lookup f=some ⟨dE,h,.func b,bh⟩)(i:b.code=.ref c)
  (d:K.lookup c=some ⟨k,g,.fields vs,j⟩) (e:vs[11]? = some (.ref P)):W.tabIn K x=some (c,P):=by
 unfold W.tabIn;rw[a];simp only[l,i,d,e]
def W5{K:aO}{c P:Addr}{n:Option Addr}{bh:Array (Option Value)}{vs:Array Value}{b:Str}{f cg tt:Tok}{a e:Int}{g:Bool}(d:K.lookup c=some ⟨.type "code",n,.fields vs,bh⟩)(p:vs[11]? = some (.ref P))(j:vs.getD 11 .none=.ref P)
  (k:vs.getD 18 .none=.str b f) (l:vs.getD 7 .none=.int a cg) (m:vs.getD 9 .none=.bool g) (i:vs.getD 10 .none=.int e tt) (ne:c≠P):∀h,K.In h->W.CodeHd h c P:=λh X=>
 ⟨_,vs,b,f,a,cg,g,e,tt,X _ _ d,rfl,rfl,p,j,k,l,m,i,ne⟩
def Tn{K:aO}{st:Stmt}{g:alo}(X:K.In h)(G:h.Ns akP mg)(a:ang K akP x=some (some (.ref o)))(l:K.lookup o=some ⟨J,U,.func g,C⟩)(n:g.code=.ref c) :
  ∀(f:Addr)(dE:Value)(j:Option Addr)(du b m:Value)(i:Option Addr)(d cm:Value)(k:Array (Option Value)),mg x=some (.ref f)->K.lookup f=some ⟨dE,j,.func (al9 x x (iP st) (fJ st) (dd st) .none du b m i d cm),k⟩->d=.ref c:=by
 intro f dE j du b m i d cm k p hl;have e:=anT X G a;rw[p]at e;cases e;rw[l]at hl;cases hl;exact n
def Q_{l:W.OpenLaw}{w:World}{K:aO}{mg:bp}{fa:Addr}{k:Nat}{st:Stmt}[aB.a5](j:mg "law"=some (.ref fa))(i:gP K mg "law" st ["script"])
  (n:∀(du c h:Value)(d:Option Addr)(g cm v:Value),ams (al9 "law" "law" (iP st) (fJ st) (dd st) .none du c h d g cm) ⟨[v],[]⟩=pure [(("script":Str),v)])
  (ok:∀(base:Heap),kl base mg->∀(f:Addr)(a:alo),kY K "law" "law" st f a->e2 l.prog w K mg base eA k f a ["script"] (wY K)) :
  ∃a:alo,(∀(s:akj)(v:Value),BindsTo s a ⟨[v],[]⟩ [("script",v)])/\∀base:Heap,K.In base->base.Ns akP mg->kl base mg->e2 l.prog w K mg base eA k fa a ["script"] (wY K):=by
 obtain⟨f,a,F,b,m⟩:=i.ex;have e:ald fa=ald f:=akI (j.symm.trans m);cases e;refine⟨a,λs v=>?_,λbase _ _ bm=>ok base bm fa a F⟩;obtain⟨dE,p,du,c,h,d,g,cm,q,rfl,t,r⟩:=F.ex;exact .of_eq (n du c h d g cm v)
def Zj{P:akC}{w:World}{K:aO}{mg N:bp}{k:Nat}{fa a:Addr}{Z:alo}{c:akj}{vs:List Value}{ns:List Int}[aB.a5]
  (Y:K.In c.heap) (yP:c.heap.Ns akP mg) (f:c.heap.Ns aon N) (W0:∀x:Str,x≠"__name__"->N x=ak1 x) (XC:c.heap.NoLimit) (aQ:c.gens=#[])
  (A:c.heap.get? a=some { cls:=.type "list",data:=.seq vs.toArray }) (hi:amr vs ns) (hl:ns.length<=63) (aC:cA k aot)
  (Df:kl c.heap mg) (F:∀base:Heap,K.In base->base.Ns akP mg->kl base mg->e2 P w K mg base eA k fa Z ["script"] (wY K)) (lY:∀(s:akj)(u:Value),BindsTo s Z ⟨[u],[]⟩ [("script",u)])
  (i:∀p,a5.ia p->c.heap.get? p=some (W.tabObj #[])/\isCodeTable c.heap p/\K.lookup p=none) :
  amW (model P w) aot (.call (.ref fa) ⟨[.ref a],[]⟩) (λr g=>r=.ok (.ret (.bool true))/\OldK c.heap g.heap/\g.os=c.os/\ant g.gens) c:=by
 have X:=P1 hi;have Zv:=hi.length;have R:ns.length<=aki:=by rw[akB];omega
 have M:¬a5.ia a:=λz=>by have:=(i a z).1;rw[A]at this;cases this
 have j:∀H:aw,(∀b,H b=none\/(∃o xs,H b=some (.cD o (.l xs)))\/(a5.ia b/\H b=some (.f9 #[])))->dr K H a (ns.map V.int)->TabsOk H->gb P w H c.heap->(∀b,H b≠none->b=a\/a5.ia b)->(∀b,H b≠none->K.lookup b=none)->
   amW (model P w) aot (.call (.ref fa) ⟨[.ref a],[]⟩) (λr g=>r=.ok (.ret (.bool true))/\OldK c.heap g.heap/\g.os=c.os/\ant g.gens) c:=by
  intro H Vg fo Vj cc U g_;have wd:∀{b:Addr}{o:Obj}{G:Array anx}{ct:Nat},c.heap.get? b=some o->o.data=.dict G ct->H b=none:=λ{b o G ct} e d=>by
   cases q:H b with
   |none=>rfl|some u=>
    rcases U b (by rw[q];simp)with C|C
    .subst C
     rw[A]at e;cases e;cases d
    .rw[(i b C).1]at e;cases e
     cases d
  have I:∀{b:Addr}{m:bp},c.heap.Ns b m->(oa c.heap H).Ns b m:=λ{b m} ⟨o,G,ct,e,d,r⟩=>⟨o,G,ct,Dr e (wd e d),d,r⟩
  have Q:K.In (oa c.heap H):=λb o e=>Dr (Y b o e) (by
   cases q:H b with
   |none=>rfl| some u=>rw[g_ b (by rw[q];simp)]at e;cases e)
  have Dc:Mod K mg (oa c.heap H):=⟨Q,I yP,⟨N,I f,W0⟩,let⟨fT,ag,ah⟩:=XC;⟨fT,I ag,ah⟩⟩;have ec:kX P w K mg (oa c.heap H) aot [] c H:=⟨rfl,Dc,λb o e=>abX e,am4 (Xr _ _),trivial,λb f=>absurd (show b∈([]:List Addr)from f) (by simp),cc,.of_eq aQ⟩;have Vb:kl (oa c.heap H) mg:=by
   obtain⟨bm,o,cq,cx,g5,B,js,uF,L⟩:=Df.ex;refine⟨bm,o,cq,cx,g5,Dr B ?_,js,uF,L⟩
   cases q:H bm with
   |none=>rfl|some u=>
    rcases U bm (by rw[q];simp)with C|C
    .subst C
     rw[A]at B;cases B;cases L
    .rw[(i bm C).1]at B;cases B
     cases L
  refine amO ((F _ Q (I yP) Vb).run aot [] c H ⟨[.ref a],[]⟩ [.ref a] [.ref a] (λv _=>v=.ay true) i3 aC ec (lY c (.ref a)) (.cons rfl .nil) ⟨a,ns,rfl,fo,hl,Vj,λ_=>rfl⟩) λr g h=>?_
  cases r with
  |error e=>exact akT h|ok aI=>
   cases aI with
   |next=>exact akT h
   |brk=>exact akT h|cont=>exact akT h|ret u=>
    obtain⟨v,H',os,bare,un,S,bz,q⟩:=h;have fU:v=.ay true:=q;subst fU;obtain rfl:u=aom true:=bz;have n:∀b o,c.heap.get? b=some o->asItWas c.heap g.heap b o/\∃dw,g.heap.get? b=some dw:=λb o e=>by
     rcases Vg b with z|⟨bc,xs,z⟩|⟨t,z⟩
     .have:=un.keep b o e z (by intro w;exact absurd (show b∈([]:List Addr)from w) (by simp)) (by simp)
      exact⟨.inl this,o,this⟩
     .have O:=un.n6 b bc _ z
      obtain⟨av,_⟩:=cc b _ z;obtain⟨aE,_⟩:=S b _ O;rw[e]at av;cases av;exact⟨.inl aE,_,aE⟩
     .obtain⟨E,O⟩:=un.oV b #[] z
      have aE:g.heap.get? b=_:=S b _ O;rw[(i b t).1]at e;cases e;exact⟨.inr (.inl ⟨(i b t).2.1,rfl,#[],E,rfl,aE⟩),_,aE⟩
    exact⟨rfl,⟨λb o e=>(n b o e).1,λb o e=>(n b o e).2⟩,os,bare⟩
 classical
 have T:∀(H:aw),(∀p,a5.ia p->H p=some (.f9 #[]))->TabsOk H:=λH h p y=>⟨#[],h p y,trivial,λpos iq z=>by cases z⟩
 cases J:K.lookup a with
 |some o=>
  have e:=Y a o J;rw[A]at e;cases e;refine j (λb=>if a5.ia b then some (.f9 #[])else none) (λb=>?_) (.inr ⟨_,vs.toArray,_,J,rfl,rfl,rfl,by rw[ako,Zv];exact R,by simpa using X⟩) (T _ λp y=>if_pos y) (λb u z=>?_) (λb z=>?_) λb z=>?_
  .by_cases t:a5.ia b
   .exact .inr (.inr ⟨t,if_pos t⟩)
   .exact .inl (if_neg t)
  .by_cases t:a5.ia b
   .have D:=(if_pos t).symm.trans z
    cases D;exact(i b t).1
   .have D:=(if_neg t).symm.trans z
    cases D
  .by_cases t:a5.ia b
   .exact .inr t
   .exact absurd (if_neg t) z
  .by_cases t:a5.ia b
   .exact(i b t).2.2
   .exact absurd (if_neg t) z
 |none=>
  refine j (λb=>if b=a then some (.cD { cls:=.type "list",data:=.seq vs.toArray } (.l (ns.map V.int)))else if a5.ia b then some (.f9 #[])else none) (λb=>?_) (.inl (.inr ⟨{ cls:=.type "list",data:=.seq vs.toArray },if_pos rfl⟩)) (T _ λp y=>?_) (λb u z=>?_) (λb z=>?_) λb z=>?_
  .by_cases f:b=a
   .exact .inr (.inl ⟨_,_,if_pos f⟩)
   .by_cases t:a5.ia b
    .exact .inr (.inr ⟨t,by rw[if_neg f,if_pos t]⟩)
    .exact .inl (by rw[if_neg f,if_neg t])
  .rw[if_neg (by rintro rfl;exact M y),if_pos y]
  .by_cases f:b=a
   .have D:=(if_pos f).symm.trans z
    cases D;subst f;exact⟨A,by rw[akh];exact R,vs,_,X,A⟩
   .try dsimp only at z
    rw[if_neg f]at z
    by_cases t:a5.ia b
    .rw[if_pos t]at z;cases z
     exact(i b t).1
    .rw[if_neg t]at z;cases z
  .by_cases f:b=a
   .exact .inl f
   .try dsimp only at z
    rw[if_neg f]at z
    by_cases t:a5.ia b
    .exact .inr t
    .rw[if_neg t]at z;exact absurd rfl z
  .by_cases f:b=a
   .rw[f];exact J
   .try dsimp only at z
    rw[if_neg f]at z
    by_cases t:a5.ia b
    .exact(i b t).2.2
    .rw[if_neg t]at z;exact absurd rfl z
def af4{l:W.OpenLaw}{q:akC}{k:Nat}{j:List Str}{xI:(Str->Option Value)->Heap->Prop}{A:World->Heap->Prop}{d:DefRec}{K:Params->aO}(ln:List Str)(L:l.most=some 63)(E:d.params.defaults=[])(M:cA k aot)
  (B:∀x∈ln,∃d,(recsOf q).find? (λe=>e.name==x)=some d) (I:∀p,W.noTabs (K p)=true)
  (sy:∀(w:World)(h:Heap),A w h->(K w.params).In h)
  (F:∀(w:World)(mg:bp)(fa:Addr)(h:Heap),(K w.params).In h->h.Ns akP mg->mg d.name=some (.ref fa)->
   ∃t:alo,(∀(s:akj)(u:Value),BindsTo s t ⟨[u],[]⟩ [("script",u)])/\∀base:Heap,(K w.params).In base->base.Ns akP mg->kl base mg->@e2 l.prog w (K w.params) mg base eA k fa t ["script"] (@wY (t4 (K w.params) ln) (K w.params))) :
  W.WalkO q j xI A l.row.toRowW d [] (λf vs=>PySem.call f vs):=by
 refine Gq.Rk L E λw gM C mg cT fa o pm cd J a vs ns G Y a3 hd fL vk H i m N=>?_
 have n:=sy w _ Y;obtain⟨t,P,kB⟩:=F w mg fa _ n G.T.g vk
 letI:=t4 (K w.params) ln
 have D:kl C.heap mg:=by
  obtain⟨bm,bc,X,Z,y,U,js,z⟩:=G.T.bmain;refine⟨bm,bc,X,Z,λq=>?_,y,U,js,z⟩;obtain⟨o,az,ct,e,hd,_⟩:=G.T.g;rw[q,e]at y;cases y;rw[hd]at z;cases z
 refine Zj n G.T.g G.T.b G.T.builtins G.T.nolimit N H i m M D kB P λp O=>?_
 obtain⟨x,R,c,V⟩:=O;obtain⟨d,hd⟩:=B x R;obtain⟨Q,r⟩:=W.tab_of G.T n hd V;refine⟨r,(Q.tab r).isCodeTable,?_⟩
 cases e:(K w.params).lookup p with
 |none=>rfl|some o=>
  have aE:=n p o e;rw[r]at aE;cases aE;have S:=akV.mp (I w.params) (p,_) (W.mem_of_lookupK e);exact absurd (show false=true from S) akl
def zg{K:aO}{h:Heap}{mg:bp}{x:Str}{st:Stmt}{ln:List Str}{f c P:Addr}{dE s:Value}{i D:Option Addr}{p:alo}{bh H:Array (Option Value)}{vs:Array Value}{e:Str}{t cg tt:Tok}{b g:Int}{L:Bool}(X:K.In h)(G:h.Ns akP mg)(k:x∈ln)
  (a:ang K akP x=some (some (.ref f))) (l:K.lookup f=some ⟨dE,i,.func p,bh⟩) (q:p.code=.ref c) (d:K.lookup c=some ⟨s,D,.fields vs,H⟩) (I:s=.type "code") (r:vs[11]? = some (.ref P)) (w:vs.getD 11 .none=.ref P)
  (z:vs.getD 18 .none=.str e t) (A:vs.getD 7 .none=.int b cg) (B:vs.getD 9 .none=.bool L) (u:vs.getD 10 .none=.int g tt) (ne:c≠P) (inj:∀y∈ln,oe K P y=true->y=x) :
  ∃c P,@pj (t4 K ln) K c P (sS x)/\∀(f:Addr)(dE:Value)(i:Option Addr)(du j F:Value)(E:Option Addr)(n cm:Value)(o:Array (Option Value)),mg x=some (.ref f)->K.lookup f=some ⟨dE,i,.func (al9 x x (iP st) (fJ st) (dd st) .none du j F E n cm),o⟩->n=.ref c:=by
 subst I;have m:=w4 a l q d r;exact⟨c,P,@pj.mk (t4 K ln) K c P (sS x) (W5 d r w z A B u ne) ⟨x,k,c,m⟩ (ad1 k m inj),Tn X G a l q⟩
end aF
namespace aF
open PySem PySem.Spec aB PyProof.Rows
variable[aB.a5]
section
variable{X:aT}{k:Nat}{e:Expr}{cO:bx}{Z:iH}{p pos kp:Pos}
def F'{c P:Addr}{q p1:Str}{params:am5}{body:Expr}{scope:Scope}{t:Pos}{N:List Str}{m:bx}(r:Z.Ok)(g:eb X "sorted")(n:X.mg "sorted"=none)(a:cA (k+3) X.A)(L:pj X.K c P q)(B:kl X.base X.mg)(D:X.env.code=.ref c)
  (d:X.env.qual++aky "<lambda>"=q) (b:gQ N [p1] scope)
  (x:∀(c:Addr)(E j u:Value),ams (W.kla_fn (aky "<lambda>") q params body scope [] E (.ref c) j) ⟨[u],[]⟩=pure [(p1,u)])
  (h:∀(f c:Addr)(A:akL)(s:akj)(H:aw),cA k (A.deeper (amP q scope s.heap.objs.size f (.ref c)))->ba (gU eA X.prog X.w X.K X.mg X.base N q scope f (.ref c) A X.stack s H i3).gA body m)
  (i:ba X e cO) (z:aoq params X.env=([],[]):=by rfl) (y:amE scope X.env=pure []:=by rfl)
  (he:akJ pos (ake [e] X.env)=(false,eval e X.env)::akJ pos (ake [] X.env):=by rfl)
  (ax:ake [e] X.env=(false,eval e X.env)::ake [] X.env:=by rfl)
  (l:(akJ pos (ake [e] X.env)).any (·.1)=false:=by rfl) :
  ba X (.Call (.Name "sorted" p) [e] [⟨some (aky "key"),.Lambda params body scope t,kp⟩] pos) (px Z (fnOf 1 N.length (a4 m)) cO):=
 ⟨Tf r g n a L B D d b x (λf c A s H a=>(h f c A s H a).un) i.un z y he ax l⟩
end
end aF
namespace aF
open PySem PySem.Spec aB PyProof.Rows
def pz(z:Str)(lo hi:Option Int):Str:=⟨(cutD z.cps.toList lo hi).toArray⟩
def EX:R->Option Int->Option Int->M R
 |.v (.str z),lo,hi=>if z.length<=aki then pure (.v (.str (pz z lo hi)))else bad|_,_,_=>bad
@[simp] def r7(a:bx)(lo hi:lG)(U:aM):M R:=do
 let x <-a U
 let l <-lo U
 let h <-hi U
 EX x l h
def part_of{v:Value}{o:Option Int}(h:anc v o):∃l:Option (Int×Tok),v=partValue l/\l.map (·.1)=o:=by
 cases h with
 |none=>exact⟨none,rfl,rfl⟩|int i t=>exact⟨some (i,t),rfl,rfl⟩
def Pp(n d:Nat)(hd:d<=n)(o:Option Int):c5.cw n d o<=n:=by
 unfold c5.cw
 cases o with
 |none=>exact hd|some i=>simp only[];split<;>omega
def adx(z:Str)(lo hi:Option Int):(amg lo hi 1 z.length).filterMap (λx=>z.cps[x]?)=cutD z.cps.toList lo hi/\(amg lo hi 1 z.length).length=c5.cw z.length z.length hi-c5.cw z.length 0 lo:=by
 obtain⟨a,b,c⟩:=Px lo hi z.length;have e:amg lo hi 1 z.length=sliceRange (amq lo hi none z.length).1 (amq lo hi none z.length).2.1 1:=rfl;rw[e,a,b,sliceRange_one];refine⟨?_,by rw[akh,alu]⟩;rw[pick_run];unfold cutD;rw[show z.cps.toList.length=z.length from ak0]
def Tx{z:Str}{lo hi:Option Int}(h:c5.cw z.length z.length hi-c5.cw z.length 0 lo=z.length):pz z lo hi=z:=by
 have c:=Pp z.length 0 (akY _) lo;have d:=Pp z.length z.length (akk _) hi;have b:z.cps.toList.length=z.length:=ak0;unfold pz cutD;rw[b];have a:c5.cw z.length 0 lo=0\/z.length=0:=by omega
 have:(z.cps.toList.drop (c5.cw z.length 0 lo)).take (c5.cw z.length z.length hi-c5.cw z.length 0 lo)=z.cps.toList:=by
  rcases a with a|a
  .rw[a,anV,alD (by omega)]
  .have:z.cps.toList=[]:=anN (by omega)
   rw[this];simp
 rw[this]
def Tv(z:Str)(lo hi:Option Int):(pz z lo hi).length<=z.length:=by
 show(cutD z.cps.toList lo hi).toArray.size<=z.cps.size;rw[ako];unfold cutD;rw[alC,alj,ak0];omega
def aeF:nP X (λx lo hi H Q=>∃z,x=.str z/\z.length<=aki/\Q (.str (pz z lo hi)) H):=by
 rintro zn s U H x v g h lo hi bh Q J a ax pl f ⟨z,ex,hz,q⟩;subst ex;obtain⟨t,rfl⟩:=a;obtain⟨l,rfl,el⟩:=part_of pl;obtain⟨u,rfl,d⟩:=part_of f;refine⟨"str",_,slot_str_getitem.lookup,typeIs_str s z t,?_⟩;refine wpAny_getItem_str_slice (l:=l) (u:=u) (st:=none) ax rfl ?_;obtain⟨p1,ck⟩:=adx z lo hi;have ct:slicePicked z l u none=amg lo hi 1 z.length:=by
  unfold slicePicked;rw[el,d];rfl
 unfold sliceMade;rw[ct,ck]
 by_cases c:c5.cw z.length z.length hi-c5.cw z.length 0 lo=z.length
 .rw[if_pos (by simp[c])]
  rw[Tx c]at q;exact⟨.str z,H,J,⟨t,rfl⟩,q⟩
 .rw[if_neg (by simp[c])]
  show _<=aki/\_;rw[p1];refine⟨akU (Tv z lo hi) hz,.str (pz z lo hi),H,?_,⟨s.toks,rfl⟩,q⟩;exact J.kept (t':=s.toks+1) λb o e=>e
variable[aB.a5]
section
variable{X:aT}{e:Expr}{m:bx}{lo hi:Option Expr}{lj p0:lG}{pos ck:Pos}
def agt(he:ba X e m)(hl:pv X lo lj)(y:pv X hi p0):ba X (.Subscript e (.Slice lo hi none ck) pos) (r7 m lj p0):=⟨er (Fc aeF he.un hl.un y.un) λP H Q k=>by
 obtain⟨O,U,S,r,N,st,h,q⟩:=k;obtain⟨x,S1,n,d⟩:=M.inv h;clear h;obtain⟨l,a,p,b⟩:=M.inv d;clear d;obtain⟨u,I,s,h⟩:=M.inv b;clear b;refine⟨O,U,S,x,S1,st,n,λi B K E j f bw=>?_⟩;refine⟨i,U,S1,l,a,j,p,λt L F bL=>?_⟩;refine⟨t,U,a,u,I,bL,s,λA w G D=>?_⟩;have g:=(E.trans F).trans G;unfold EX at h;split at h
 .rename_i z
  by_cases c:z.length<=aki
  .rw[if_pos c]at h
   cases h;cases(show B=.str z from f);exact⟨z,rfl,c,q A _ w g D rfl trivial⟩
  .rw[if_neg c]at h;cases h
 .cases h⟩
end
omit [aB.a5]in
@[simp] theorem ajh{z:Str}{lo hi:Option Int}:EX (.v (.str z)) lo hi=if z.length<=aki then pure (.v (.str (pz z lo hi)))else bad:=rfl
end aF
namespace aF
open PySem PySem.Spec aB PyProof.Rows
structure uq(P:akC)(w:World)(K:aO)(mg:bp)(x:Str)(ps:List (Str×Str)):Prop where
 ex:∃(a:Addr)(az:Array anx)(n:Nat),mg x=some (.ref a)/\alT a K=some { cls:=.type "dict",data:=.dict az n }/\KeysOf (anm P w) az/\
  ∀k fn,ps.lookup k=some fn->∃f,an3 ali az k=some (.ref f)/\mg fn=some (.ref f)
@[simp] def Cc(ps:List (Str×Str))(mk:bx)(U:aM):M R:=do
 let k <-mk U
 match k with
 |.v (.str z)=>match ps.lookup z with
  |some fn=>pure (.v (.fn fn))|none=>bad
 |_=>bad
@[simp] def B'(i:Nat)(aU:List (Str×bq))(ms:cZ)(U:aM):M R:=match U[i]? with
 |some (.v (.fn f))=>match aU.lookup f with
  |some mf=>bf mf ms U|none=>bad
 |_=>bad
def afo(mg:bp)(ps:List (Str×Str))(ty:TE):TE:=λU H Q=>ty U H λy a=>∃z fn f,y=.str z/\ps.lookup z=some fn/\mg fn=some (.ref f)/\Q (.ref f) a
variable[aB.a5]
section
variable{X:aT}{x:Str}{ps:List (Str×Str)}{i:Expr}{pos p:Pos}{ty:TE}{mk:bx}{j k:Nat}{e:Expr}{az:List Expr}{ms:cZ}{pp:List Str}{aU:List (Str×bq)}
omit [aB.a5]in
theorem adk(T:uq X.prog X.w X.K X.mg x ps)(g:eb X x)(hi:b2 X i ty)(ax:Bc i)(r:(x==("__debug__":Str))=false:=by decide):b2 X (.Subscript (.Name x p) i pos) (afo X.mg ps ty):=by
 intro zn s U H Q J h;obtain⟨a,ds,n,D,hl,m,B⟩:=T.ex;refine aeY PySem.F.slot_dict_getitem.lookup ax (sU J g D ?_ r);refine b0 (hi zn s U H _ J h) λE s2 l=>?_
 obtain⟨y,d,c,q,z,fn,f,A,el,u,bP⟩:=l;subst A;obtain⟨t,rfl⟩:=q;have b:=c.f3 a _ hl;obtain⟨G,av,aE⟩:=B z fn el;rw[u]at aE;cases aE;refine⟨⟨_,b,rfl⟩,?_⟩;refine wpAny_getItem_of (knd:=anm X.prog X.w) (k:=z) (f:=an3 ali ds) (v:=.ref f) ?_ ?_ av ?_
 .show(z==z)=true
  simp
 .exact⟨_,ds,n,b,⟨rfl,rfl,rfl⟩,rfl,m,λ_=>rfl⟩
 .exact⟨.ref f,d,c.tok _,rfl,bP⟩
omit [aB.a5]in
theorem ac1(hN:X.N[j]? = some x)(n:nR X.env.scope x)(g:cA k X.A){t:fR}(m:gS X (e::az) t)(B:(x==("__debug__":Str))=false:=by decide)(G:(x==("__classdict__":Str))=false:=by decide)
  (he:ake (e::az) X.env=(false,eval e X.env)::ake az X.env:=by rfl) (D:(akJ pos (ake az X.env)).any (·.1)=false:=by rfl) :
  b2 X (.Call (.Name x p) (e::az) [] pos) (λU H Q=>∃(f:Addr)(c:alo)(sp:en),U[j]? = some (some (.ref f))/\e2 X.prog X.w X.K X.mg X.base eA k f c pp sp/\Binds X.K c pp []/\amc X.K (.ref f)=true/\t U H λvs a=>sp vs a Q i3):=by
 rintro zn s U H Q J ⟨f,c,sp,E,F,b,kp,h⟩;refine alB (b0 (wC hN n B G zn s U H (λv H'=>v=.ref f/\H'=H) J ⟨.ref f,E,rfl,rfl⟩) λu I l=>?_);obtain⟨v,a,y,z,av,aE⟩:=l;subst av aE;obtain rfl:u=ald f:=z;refine aov (h₀:=X.base) J.ok.mod.sR kp (b0 (m pos zn I U a _ y h) λus s2 ⟨vs,L,d,r,q⟩=>⟨d.f3,?_⟩) he D;exact wM (dvs:=[]) (ds:=[]) F g b .nil rx d r (by simpa only[alx]using q)
def P9(T:uq X.prog X.w X.K X.mg x ps)(g:eb X x)(hi:ba X i mk)(ax:Bc i:=by exact λ_ _=>rfl)(t:(x==("__debug__":Str))=false:=by decide):ba X (.Subscript (.Name x p) i pos) (Cc ps mk):=⟨er (adk T g hi.un ax t) λB H Q m=>by
 obtain⟨O,U,S,r,A,st,h,q⟩:=m;obtain⟨y,S1,n,h⟩:=M.inv h;split at h
 .rename_i z
  split at h
  .rename_i fn el
   cases h;obtain⟨_,_,_,_,_,_,a⟩:=T.ex;obtain⟨f,_,b⟩:=a z fn el;refine⟨O,U,S,_,_,st,n,λd v c u l s nn=>?_⟩;exact⟨z,fn,f,s,el,b,q d _ c u l ⟨f,rfl,b⟩ trivial⟩
  .cases h
 .cases h⟩
def agf(n:∀f mf,aU.lookup f=some mf->eU X.prog X.w X.K X.mg X.base f pp k (e1 X.K X.mg mf))(hN:X.N[j]? = some x)(B:nR X.env.scope x)(s:cA k X.A)(z:gv X (e::az) ms)(D:(x==("__debug__":Str))=false:=by decide)(G:(x==("__classdict__":Str))=false:=by decide)
  (he:ake (e::az) X.env=(false,eval e X.env)::ake az X.env:=by rfl) (E:(akJ pos (ake az X.env)).any (·.1)=false:=by rfl):ba X (.Call (.Name x p) (e::az) [] pos) (B' j aU ms):=⟨er (ac1 (pp:=pp) hN B s z.un D G he E) λd H Q t=>by
  obtain⟨O,U,S,r,u,st,h,q⟩:=t;unfold B' at h;split at h
  .rename_i f L
   split at h
   .rename_i mf el
    obtain⟨fa,I,F,b,kp,m⟩:=(n f mf el).ex;obtain⟨v,c,a,rfl,g⟩:=st.loc j _ L;have:a=fa:=by
     rw[m]at g;cases g;rfl
    subst this;have l:d[j]? = some (some (.ref a)):=by
     cases w:d[j]? with
     |none=>rw[w]at c;cases c
     |some y=>rw[w]at c;exact congrArg some c
    exact⟨a,I,_,l,F,b,kp,Ce d H Q ⟨O,U,S,r,u,st,h,q⟩⟩
   .cases h
  .cases h⟩
end
omit [aB.a5]in
theorem lookup_all{α f:Type}[BEq α][LawfulBEq α]{P:α->f->Prop}:∀{l:List (α×f)},(∀x∈l,P x.1 x.2)->∀a b,l.lookup a=some b->P a b
 |[],_,_,_,h=>by cases h
 |(c,d)::l,o,a,b,h=>by
  rw[akv]at h;split at h
  .rename_i e
   cases h;rw[eq_of_beq e];exact o _ akw
  .exact lookup_all (λx g=>o x (akq _ g)) a b h
omit [aB.a5]in
theorem Ur{P:akC}{w:World}{K:aO}{h:Heap}{mg:bp}{x:Str}{d:Addr}{b:Array anx}{n:Nat}{ps:List (Str×Str)}(X:K.In h)(G:h.Ns akP mg)
  (a:ang K akP x=some (some (.ref d))) (l:alT d K=some { cls:=.type "dict",data:=.dict b n }) (k:∀e∈b.toList,∃s,ali s e.key=true/\e.hash=hashStr w s)
  (f:∀p∈ps,∃f,ang K d p.1=some (some (.ref f))/\ang K akP p.2=some (some (.ref f))):uq P w K mg x ps:=by
 refine⟨d,b,n,anT X G a,l,λe he=>?_,lookup_all (P:=λk fn=>∃f,an3 ali b k=some (.ref f)/\mg fn=some (.ref f)) λp i=>?_⟩
 .obtain⟨s,c,g⟩:=k e (by simpa using he)
  exact⟨s,c,g⟩
 .obtain⟨f,c,g⟩:=f p i
  exact⟨f,W.find_K l c,anT X G g⟩
omit [aB.a5]in
@[simp] theorem ajb:b8 (.fn f)=.v (.fn f):=rfl
omit [aB.a5]in
theorem zP{K:aO}{P a c:Addr}{x y:Str}(b:W.tabIn K y=some (c,a))(ne:a≠P)(h:oe K P y=true):y=x:=by
 unfold oe at h;rw[b]at h;exact absurd (eq_of_beq h) ne
end aF
namespace aF
open PySem PySem.Spec aB PyProof.Rows
@[simp] def x3(j:Nat)(mk mv:bx)(U:aM):M fc:=do
 let r <-mv U
 let d <-r.dat
 let k <-mk U
 match U[j]?,k with
 |some (.dB p xs),.v (.int i)=>if 0<=i/\i<xs.length then pure (.bw (U.set j (.dB p (xs.set i.toNat d))))else bad|_,_=>bad
variable[aB.a5]
section
variable{X:aT}{i value:Expr}{mk mv:bx}{pos pos' apos:Pos}{x:Str}{j:Nat}
def Tt(hN:X.N[j]? = some x)(W:nR X.env.scope x)(R:gO X i mk)(F:gO X value mv)(ax:an9 [.Subscript (.Name x apos) i pos'] value pos.line X.env=pure false:=by rfl)(hw:aoa [.Subscript (.Name x apos) i pos'] value X.env=pure none:=by rfl)
  (g:(ala [.Subscript (.Name x apos) i pos'] X.env).map (·.2)=[al8 (.Subscript (.Name x apos) i pos') X.env]:=by rfl)
  (Q:∀v,al8 (.Subscript (.Name x apos) i pos') X.env v=(do
   let bM <-alm [v] (eval (.Name x apos) X.env)
   let n <-alm [v,bM] (eval i X.env)
   ama pos'
   alm [v,bM,n] (setItem bM n v)
   release [v,bM,n] []):=by intro _;rfl)
  (hd:(x==("__debug__":Str))=false:=by decide) (o:(x==("__classdict__":Str))=false:=by decide) :
  Gy X (.Assign [.Subscript (.Name x apos) i pos'] value pos) (x3 j mk mv):=gL (ON F (OI (wC hN W hd o) R set_list Q) ax hw g) λD l H L=>by
 obtain⟨O,U,S,aI,ao,st,h,q⟩:=L;obtain⟨r,S1,g,h⟩:=M.inv h;obtain⟨d,aZ,P,h⟩:=M.inv h;obtain⟨k,hs,V,h⟩:=M.inv h;split at h
 .rename_i p xs ef e
  by_cases c:0<=ef/\ef<xs.length
  .rw[if_pos c]at h
   cases h;refine⟨O,U,S,r,S1,st,g,λI v J C K Y nn=>?_⟩;obtain⟨c_,rfl⟩:=pC (H₀:=H) Y nn P;have u:=K.cD H;obtain⟨a,E,av,aE,cJ,eJ⟩:=u.loc j _ e;have Z:l[j]? = some (some (.ref a)):=by
    cases w:l[j]? with
    |none=>rw[w]at av;cases av
    |some y=>rw[w]at av;exact congrArg some av
   refine⟨.ref a,Z,cD H I,U,S1,_,_,u,V,λm f aK b bL T nu=>?_⟩;have s:=b.same.at' _ _ cJ;have B:m a=.loc j:=(b.own a (by rw[cJ];intro z;cases z)).trans aE;have t:=eJ.go b;cases(show f=.int ef from T);have G:E.length=xs.length:=t.len;refine⟨a,E,ef,ef.toNat,rfl,rfl,s,?_,?_⟩
   .unfold ng
    rw[if_pos c.1,if_pos (by rw[G];exact c.2)]
   have A:∀w:Own,w≠.loc j->m a≠w:=λw hw z=>hw (z.symm.trans B)
   refine q m l _ ((C.cD.trans b).bZ.trans (d7.ea (A _ (by intro z;cases z)) (A _ (by intro z;cases z)) s)) (bL.ea e av B s (bl.set (Rep.go b c_) ef.toNat t)) ?_;have eL:j<U.length:=(akd.mp e).1;exact fg.put e (λxs z=>by cases z) (λ_ z=>by cases z;exact⟨_,rfl⟩)
  .rw[if_neg c]at h;cases h
 .cases h
def agK(hN:X.N[j]? = some x)(f:nR X.env.scope x)(e:ba X i mk)(b:ba X value mv)(ax:an9 [.Subscript (.Name x apos) i pos'] value pos.line X.env=pure false:=by rfl)(hw:aoa [.Subscript (.Name x apos) i pos'] value X.env=pure none:=by rfl)
  (c:(ala [.Subscript (.Name x apos) i pos'] X.env).map (·.2)=[al8 (.Subscript (.Name x apos) i pos') X.env]:=by rfl)
  (d:∀v,al8 (.Subscript (.Name x apos) i pos') X.env v=(do
   let bM <-alm [v] (eval (.Name x apos) X.env)
   let a <-alm [v,bM] (eval i X.env)
   ama pos'
   alm [v,bM,a] (setItem bM a v)
   release [v,bM,a] []):=by intro _;rfl)
  (hd:(x==("__debug__":Str))=false:=by decide) (g:(x==("__classdict__":Str))=false:=by decide) :
  e7 X (.Assign [.Subscript (.Name x apos) i pos'] value pos) (x3 j mk mv):=⟨Tt hN f e.un b.un ax hw c d hd g⟩
end
end aF
namespace aF
open PySem PySem.Spec aB
def gf(b:Bool)(h:Heap)(i l:Addr)(k:Nat):Prop:=match b with
 |true=>h.IsTupleIter i l k|false=>h.IsListIter i l k
def i8(b:Bool)(h:Heap)(l:Addr)(xs:Array Value):Prop:=match b with
 |true=>h.IsTuple l xs|false=>h.IsList l xs
def gf.extBut(x:gf b h a l i)(ax:Heap.ExtBut c h h')(d:a≠c):gf b h' a l i:=by
 cases b with
 |true=>exact Heap.IsTupleIter.extBut x ax d|false=>exact Heap.IsListIter.extBut x ax d
def i8.extBut(x:i8 b h a xs)(ax:Heap.ExtBut c h h')(d:a≠c):i8 b h' a xs:=by
 cases b with
 |true=>exact Heap.IsTuple.extBut x ax d|false=>exact Heap.IsList.extBut x ax d
def gf.obj{h:Heap}(x:gf b h a l i):∃o vs,h.get? a=some o/\o.data=.fields vs:=by
 cases b with
 |true=>obtain⟨o,e,_,d⟩:=x;exact⟨o,_,e,d⟩
 |false=>obtain⟨o,e,_,d⟩:=x;exact⟨o,_,e,d⟩
def gf.at'{h h':Heap}(x:gf b h a l i)(k:∀o,h.get? a=some o->h'.get? a=some o):gf b h' a l i:=by
 cases b with
 |true=>obtain⟨o,e,r⟩:=x;exact⟨o,k o e,r⟩
 |false=>obtain⟨o,e,r⟩:=x;exact⟨o,k o e,r⟩
def i8.obj{h:Heap}(x:i8 b h a xs):∃o n,h.get? a=some o/\o.data=.seq xs n:=by
 cases b with
 |true=>obtain⟨o,e,_,n,d⟩:=x;exact⟨o,n,e,d⟩
 |false=>obtain⟨o,e,_,n,d⟩:=x;exact⟨o,n,e,d⟩
section
variable{prog:akC}{w:World}{A:akL}{E:dj}{s:akj}
def ES{b:Bool}{it l:Addr}{i:Nat}{c:Array Value}{x:Value}{Q:dj}(a:gf b s.heap it l i)(hl:i8 b s.heap l c)(e:c[i]? = some x)
  (f:∀h',gf b h' it l (i+1)->aou it s.heap h'->Q x { s with heap:=h' }):wpAny (model prog w) A (alh (.ref it)) Q E s:=by
 cases b with
 |false=>exact wpAny_nextOf_list_item a hl e f|true=>
  have a:s.heap.IsTupleIter it l i:=a;obtain⟨o,d,h,hd⟩:=id a;obtain⟨k,g,_,nl,j⟩:=hl;unfold alh;refine akc (alP (name:=aky "__next__") a.typeIs amk (amt amk a.typeIs an6 ?_ (anW _)));show wpAny _ _ (field (.ref it) 0 >>= _) _ _ s;refine akc (aly d hd (x:=.ref l) rfl ?_);show wpAny _ _ (if(ald l==amC)=true then _ else _) _ _ s;rw[if_neg (show ¬((ald l==amC)=true)from akl)];show wpAny _ _ (field (.ref it) 1 >>= _) _ _ s;refine akc (aly d hd (x:=.int i 0) rfl ?_);show wpAny _ _ (anz (.ref l) >>= _) _ _ s;refine akc (alE g j ?_);simp only[aok,e];refine akc (wpAny_setField d hd (by simp) (akm ⟨x,rfl,akm (f _ ?_ (alr ..))⟩));exact⟨_,Heap.get?_update_self _ d (Obj.isFreed_of_fields (Obj.data_mapFields hd _)),(Obj.cls_mapFields ..).trans h,by rw[Obj.data_mapFields hd];simp[aml]⟩
def N7{b:Bool}{it l:Addr}{i:Nat}{d:Array Value}{Q:dj}(cR:A.handled=none)(c:gf b s.heap it l i)(hl:i8 b s.heap l d)(g:d[i]? = none)
  (h:∀h' e,Heap.ExtBut it s.heap h'->(∃o,h'.get? e=some o/\o.cls=.type "StopIteration")->E (.ref e) { s with heap:=h' }):wpAny (model prog w) A (alh (.ref it)) Q E s:=by
 cases b with
 |false=>exact wpAny_nextOf_list_end cR c hl g h|true=>
  have c:s.heap.IsTupleIter it l i:=c;obtain⟨o,f,n,hd⟩:=id c;obtain⟨p,j,_,nl,k⟩:=hl;unfold alh;refine akc (alP (name:=aky "__next__") c.typeIs amk (amt amk c.typeIs an6 ?_ (anW _)));show wpAny _ _ (field (.ref it) 0 >>= _) _ _ s;refine akc (aly f hd (x:=.ref l) rfl ?_);show wpAny _ _ (if(ald l==amC)=true then _ else _) _ _ s;rw[if_neg (show ¬((ald l==amC)=true)from akl)];show wpAny _ _ (field (.ref it) 1 >>= _) _ _ s;refine akc (aly f hd (x:=.int i 0) rfl ?_);show wpAny _ _ (anz (.ref l) >>= _) _ _ s;refine akc (alE j k ?_);simp only[aok,g];refine akc (aop (akc (wpAny_setField f hd (by simp) ?_)));show wpAny _ _ (newExc (.type "StopIteration") [] >>= _) _ _ _;refine akc ?_;simp only[newExc,newTuple];refine akc (al6 ?_ (by size_fits));refine akc (m:=firstArgMember _ _) (wpAny_of_eq (a:=amC) (by first|rfl|(simp only[firstArgMember];rfl)) ?_);refine al6 ?_ (by size_fits);simp only[raiseNew];refine akc (wpAny_handled ?_)
  first|rw[show A.in1.handled=none from cR]|rw[cR]
  refine akc (akm (wpAny_throw ?_));exact h _ _ (((alr ..).extBut.push _).push _) ⟨_,akp _ rfl,rfl⟩
end
section
variable{prog:akC}{w:World}{A:akL}{E:dj}{s:akj}
def ahz{p q:Bool}{z TI dQ f g l k:Addr}{eo dW:Nat}{xs ys:Array Value}{x y a b:Value}{Q:Option Value->akj->Prop}(D:ZipApart z TI dQ f g l k)
  (hz:IsZip s.heap z TI dQ .none) (kC:amx s.heap TI (.ref f) (.ref g)) (k8:amx s.heap dQ a b)
  (ag:gf p s.heap f l eo) (ah:gf q s.heap g k dW) (k_:i8 p s.heap l xs) (jC:i8 q s.heap k ys) (ai:xs[eo]? = some x) (U:ys[dW]? = some y)
  (jy:∀h',IsZip h' z TI dQ (aml s.heap.objs.size)->amx h' dQ x y->gf p h' f l (eo+1)->gf q h' g k (dW+1)->amx h' s.heap.objs.size x y->
   (∀c o,c≠z->c≠dQ->c≠f->c≠g->s.heap.get? c=some o->h'.get? c=some o)->Q (some (.ref s.heap.objs.size)) { s with heap:=h' }) :
  wpAny (model prog w) A (am3 (.ref z)) Q E s:=by
 have T:s.TypeIs (.ref z) "zip":=⟨_,hz,rfl⟩;unfold am3;refine akc (wpAny_attempt (alP (name:=aky "__next__") T anG (amt anG T F.entry_zip_next ?_ (F.args_zip_next_1 _))));show wpAny _ _ (field (.ref z) 2 >>= _) _ _ _;refine akc (aly hz rfl (x:=.bool false) rfl ?_);show wpAny _ _ (field (.ref z) 3 >>= _) _ _ _;refine akc (aly hz rfl (x:=.ref TI) rfl ?_);refine akc (alE kC rfl ?_);show wpAny _ _ (alN (.ref z) >>= _) _ _ _;refine akc ?_;unfold alN;refine akc (aly hz rfl (x:=.none) rfl (akm ?_));simp only[if_true];refine akc (aop ?_);refine akc (aly hz rfl (x:=.ref dQ) rfl ?_);refine akc (amh hz (by simp) λkF G h=>?_)
 replace G:IsZip kF z TI dQ .ellipsis:=G
 refine akc ?_;simp only[List.zipIdx_cons,List.zipIdx_nil,aoH,List.forIn_nil];refine akc (akc (aoh ?_));show wpAny _ _ (alh (.ref f) >>= _) _ _ _;refine akc (ES (ag.extBut h.extBut D.i1z) (k_.extBut h.extBut D.l1z) ai λl4 W j=>akm ?_);have V:amx l4 dQ a b:=j.extBut _ _ D.TOi1 (h.extBut _ _ D.TOz k8);refine akc (alE V rfl ?_);refine akc (anH V λoc I i=>?_)
 replace I:amx oc dQ x b:=I
 refine akc (amK (akm ?_));refine akc (akc (aoh ?_));show wpAny _ _ (alh (.ref g) >>= _) _ _ _;refine akc (ES (((ah.extBut h.extBut D.i2z).extBut j.extBut D.i12.symm).extBut i.extBut D.TOi2.symm)
  (((jC.extBut h.extBut D.l2z).extBut j.extBut D.l2i1).extBut i.extBut D.l2TO) U λvp Y m=>akm ?_)
 have L:amx vp dQ x b:=m.extBut _ _ D.TOi2 I;refine akc (alE L rfl ?_);refine akc (anH L λd r n=>?_)
 replace r:amx d dQ x y:=r
 refine akc (amK (akm (akm ?_)));refine akc (alE r rfl ?_);refine akc (wpAny_newTuple ?_);have S:d.objs.size=s.heap.objs.size:=by rw[n.1,m.1,i.1,j.1,h.1]
 have R:IsZip d z TI dQ .ellipsis:=n.extBut _ _ D.TOz.symm (m.extBut _ _ D.i2z.symm (i.extBut _ _ D.TOz.symm (j.extBut _ _ D.i1z.symm G)));have Z:∀c o,c≠z->c≠dQ->c≠f->c≠g->s.heap.get? c=some o->d.get? c=some o:=λc o bb ab fD H e=>
  n.extBut _ _ ab (m.extBut _ _ H (i.extBut _ _ ab (j.extBut _ _ fD (h.extBut _ _ bb e))))
 have X:gf p d f l (eo+1):=((W.extBut i.extBut D.TOi1.symm).extBut m.extBut D.i12).extBut n.extBut D.TOi1.symm;have K:gf q d g k (dW+1):=Y.extBut n.extBut D.TOi2.symm;have P:z<d.objs.size:=akr R;show wpAny _ _ (am9 (.ref z) (.ref d.objs.size) >>= _) _ _ _;refine akc ?_;unfold am9;have C:IsZip (d.push { cls:=.type "tuple",data:=.seq #[x,y] }) z TI dQ .ellipsis:=akf _ R;refine akc (amh C (by simp) λJ B N=>?_)
 replace B:IsZip J z TI dQ (aml d.objs.size):=B
 refine amh B (by simp) λu t O=>?_
 replace t:IsZip u z TI dQ (aml d.objs.size):=t
 have up:∀c o,c≠z->d.get? c=some o->u.get? c=some o:=λc o bb e=>O.extBut _ _ bb (N.extBut _ _ bb (akf _ e))
 have M:amx u d.objs.size x y:=O.extBut _ _ (Nat.ne_of_gt P) (N.extBut _ _ (Nat.ne_of_gt P) (akp _ rfl));rw[S]at t M;refine akm ⟨_,rfl,?_⟩;show wpAny _ _ (pure (some (ald d.objs.size))) _ _ _;rw[S];exact akm (jy u t (up _ _ D.TOz r) (X.at' λo e=>up _ o D.i1z e) (K.at' λo e=>up _ o D.i2z e) M λc o bb ab fD H e=>up c o bb (Z c o bb ab fD H e))
def ahy{G H:Bool}{z TI dQ j k r q:Addr}{eo dW:Nat}{xs ys:Array Value}{a b:Value}{Q:Option Value->akj->Prop}(cR:A.handled=none)(D:ZipApart z TI dQ j k r q)
  (hz:IsZip s.heap z TI dQ .none) (kC:amx s.heap TI (.ref j) (.ref k)) (k8:amx s.heap dQ a b)
  (B:gf G s.heap j r eo) (W:gf H s.heap k q dW) (K:i8 G s.heap r xs) (J:i8 H s.heap q ys) (P:xs[eo]? = none\/ys[dW]? = none)
  (U:∀h',(∀c o,c≠z->c≠dQ->c≠j->c≠k->s.heap.get? c=some o->h'.get? c=some o)->Q none { s with heap:=h' }):wpAny (model prog w) A (am3 (.ref z)) Q E s:=by
 have I:s.TypeIs (.ref z) "zip":=⟨_,hz,rfl⟩;have fin:∀h' e,(∀c o,c≠z->c≠dQ->c≠j->c≠k->s.heap.get? c=some o->h'.get? c=some o)->(∃o,h'.get? e=some o/\o.cls=.type "StopIteration")->
   wpAny (model prog w) A (do
    if <-isInstance (.ref e) (.type "StopIteration")then pure none else throw (.ref e)) Q E { s with heap:=h' }:=λh' e X V=>by
  obtain⟨o,R,Y⟩:=V;refine akc (wpAny_isInstance (T:="StopIteration") (b:=true) ⟨o,R,Y⟩ isSubtype_stop ?_);exact akm (U _ X)
 unfold am3;refine akc (wpAny_attempt (alP (name:=aky "__next__") I anG (amt anG I F.entry_zip_next ?_ (F.args_zip_next_1 _))));show wpAny _ _ (field (.ref z) 2 >>= _) _ _ _;refine akc (aly hz rfl (x:=.bool false) rfl ?_);show wpAny _ _ (field (.ref z) 3 >>= _) _ _ _;refine akc (aly hz rfl (x:=.ref TI) rfl ?_);refine akc (alE kC rfl ?_);show wpAny _ _ (alN (.ref z) >>= _) _ _ _;refine akc ?_;unfold alN;refine akc (aly hz rfl (x:=.none) rfl (akm ?_));simp only[if_true];refine akc (aop ?_);refine akc (aly hz rfl (x:=.ref dQ) rfl ?_);refine akc (amh hz (by simp) λkF m d=>?_)
 replace m:IsZip kF z TI dQ .ellipsis:=m
 refine akc ?_;simp only[List.zipIdx_cons,List.zipIdx_nil,aoH,List.forIn_nil];refine akc (akc (aoh ?_));show wpAny _ _ (alh (.ref j) >>= _) _ _ _
 cases C:xs[eo]? with
 |none=>
  refine akc (N7 cR (B.extBut d.extBut D.i1z) (K.extBut d.extBut D.l1z) C λt e f he=>?_);obtain⟨p,i,l⟩:=he;have u:IsZip t z TI dQ .ellipsis:=f _ _ D.i1z.symm m;have n:e≠z:=λx=>by subst x;rw[u]at i;cases i;simp at l
  exact amh u (by simp) λL _ g=>fin L e (λc o bb _ fD _ x=>g.extBut _ _ bb (f _ _ fD (d.extBut _ _ bb x))) ⟨p,g.extBut _ _ n i,l⟩
 |some x=>
  have S:ys[dW]? = none:=by rcases P with h|h;rw[C]at h;cases h;exact h
  refine akc (ES (B.extBut d.extBut D.i1z) (K.extBut d.extBut D.l1z) C λt LZ f=>akm ?_);have O:amx t dQ a b:=f.extBut _ _ D.TOi1 (d.extBut _ _ D.TOz k8);refine akc (alE O rfl ?_);refine akc (anH O λL yA g=>?_);refine akc (amK (akm ?_));refine akc (akc (aoh ?_));show wpAny _ _ (alh (.ref k) >>= _) _ _ _;refine akc (N7 cR (((W.extBut d.extBut D.i2z).extBut f.extBut D.i12.symm).extBut g.extBut D.TOi2.symm)
   (((J.extBut d.extBut D.l2z).extBut f.extBut D.l2i1).extBut g.extBut D.l2TO) S λvp e M he=>?_)
  obtain⟨p,i,l⟩:=he;have y:IsZip vp z TI dQ .ellipsis:=M _ _ D.i2z.symm (g.extBut _ _ D.TOz.symm (f.extBut _ _ D.i1z.symm m));have n:e≠z:=λx=>by subst x;rw[y]at i;cases i;simp at l
  exact amh y (by simp) λZ _ N=>fin Z e (λc o bb ab fD uM x=>N.extBut _ _ bb (M _ _ uM (g.extBut _ _ ab (f.extBut _ _ fD (d.extBut _ _ bb x))))) ⟨p,N.extBut _ _ n i,l⟩
end
section
variable{X:aT}{zn:c0}{U:St}{H:aw}{s:akj}{h':Heap}
def Inv.PU{t':Nat}{ch:List Addr}(J:Inv X zn U H s)(k:∀b o,b∉ch->s.heap.get? b=some o->h'.get? b=some o)(d:∀b∈ch,gR X zn H b):Inv X zn U H { s with heap:=h',toks:=t' }:=by
 have f:∀b u,H b=some u->b∉ch:=λb u e z=>by rw[(d b z).1]at e;cases e
 refine J.step (g':=s.gens) (d':=s.drawn) (ch:=ch) (λb h=>?_) (λb o _ _ a e _=>k b o a e) (λb o _ _ a e _=>⟨o.slots,k b o a e⟩) (λ_ _ _ _ n=>n)
  (λb o a e=>⟨o,k b o a e⟩) (λ_ _ e=>e) (λ_ _ _ e=>e) (λb ps e=>⟨#[],by rw[e];simp⟩) (λm w=>?_) (λb u e=>?_) J.bare
 .obtain⟨_,j,_,p,l,t⟩:=d b h
  exact⟨p,j,l,t⟩
 .obtain⟨o,i,ct,g,r⟩:=w
  exact⟨o,i,ct,k _ o (λz=>(d _ z).2.1 rfl) g,r⟩
 .refine(J.cc b u e).rD (λc v a q=>k c v ?_ q) (λ_ q=>q) λ_ _ q=>q
  rcases a with z|z
  .rw[z];exact f b u e
  .exact f c _ z
end
def hR(b:Bool)(K:aO)(H:aw)(a:Addr)(xs:List V):Prop:=match b with
 |true=>dy K H a xs|false=>dr K H a xs
def Inv.cP{s:akj}(J:Inv X zn U H s)(h:hR b X.K H a xs):∃its:List Value,Vals xs its/\i8 b s.heap a its.toArray:=by
 cases b with
 |true=>obtain⟨its,r,p,_⟩:=J.tuple h;exact⟨its,r,p⟩
 |false=>obtain⟨its,r,p,_⟩:=J.list h;exact⟨its,r,p.isList⟩
def Inv.PB{s:akj}(J:Inv X zn U H s)(h:hR b X.K H a xs)(h':hR b X.K H a ys):xs=ys:=by
 cases b with
 |true=>exact J.PS h h'|false=>exact J.ND h h'
def GI(K:aO)(c d:Bool)(b a:Addr):ie:=
  ⟨λi H=>(∃xs x,hR c K H b xs/\xs[i]? = some x)/\∃ys y,hR d K H a ys/\ys[i]? = some y,
   λi H x H'=>∃u v T,x=.ref T/\H T=none/\H'=upd H T (.t [u,v])/\(∀xs,hR c K H b xs->xs[i]? = some u)/\∀ys,hR d K H a ys->ys[i]? = some v,
   λi H=>∃xs ys,hR c K H b xs/\hR d K H a ys/\(xs.length<=i\/ys.length<=i)⟩
def afQ(cq cx:Bool){z TI dQ g j T S:Addr}(D:ZipApart z TI dQ g j T S):Turn P w K (.Tuple elts jc fy) (GI K cq cx T S) [z,TI,dQ,g,j] z
  (λi h=>IsZip h z TI dQ .none/\amx h TI (.ref g) (.ref j)/\(∃a b,amx h dQ a b)/\gf cq h g T i/\gf cx h j S i) where
 mem:=by simp
 obj:=λi h st b c=>by
  obtain⟨hz,l,⟨x,y,r⟩,m,n⟩:=st;rcases akt.mp c with rfl|c
  .exact⟨_,hz,λv z=>by cases z⟩
  rcases akt.mp c with rfl|c
  .exact⟨_,l,λv z=>by cases z⟩
  rcases akt.mp c with rfl|c
  .exact⟨_,r,λv z=>by cases z⟩
  rcases akt.mp c with rfl|c
  .obtain⟨o,vs,e,d⟩:=m.obj;exact⟨o,e,λv z=>by rw[d]at z;cases z⟩
  rcases akt.mp c with rfl|c
  .obtain⟨o,vs,e,d⟩:=n.obj;exact⟨o,e,λv z=>by rw[d]at z;cases z⟩
  cases c
 keep:=λi h h' ⟨hz,l,⟨x,y,r⟩,m,n⟩ k=>⟨k z (by simp) _ hz,k TI (by simp) _ l,⟨x,y,k dQ (by simp) _ r⟩,m.at' λo e=>k g (by simp) o e,n.at' λo e=>k j (by simp) o e⟩
 item:=by
  rintro X W hw Y hc i zn s U H E J L ⟨hz,l,⟨mT,jr,r⟩,m,n⟩ ⟨⟨xs,x,F,ai⟩,⟨ys,y,G,a9⟩⟩;subst W hw Y;obtain⟨its,V,p⟩:=Inv.cP J F;obtain⟨MY,Z,q⟩:=Inv.cP J G;obtain⟨u,cG,eh⟩:=V.get ai;obtain⟨v,bR,R⟩:=Z.get a9;have Xl:∀b∈[z,dQ,g,j],b∈[z,TI,dQ,g,j]:=λb c=>by simp at c ⊢;rcases c with h|h|h|h<;>simp[h]
  refine ahz D hz l r m n p q (x:=u) (y:=v) (by simpa using cG) (by simpa using bR) λh' a1 a2 eW iN jq I=>⟨_,rfl,wpAny_letOwnedTupleGo_zip a1 λsx X_ B=>?_⟩
  have aA:=J.cc.fresh (akk s.heap.objs.size);have Q:=akr hz;have O:=akr r;have M:g<s.heap.objs.size:=by obtain⟨_,_,e,_⟩:=m.obj;exact akr e
  have N:j<s.heap.objs.size:=by obtain⟨_,_,e,_⟩:=n.obj;exact akr e
  have jC:Vals [x,y] [u,v]:=.cons eh (.cons R .nil);have bj:Inv X zn U (upd H s.heap.objs.size (.t [x,y])) { s with heap:=s.heap.push { cls:=.type "tuple",data:=.seq #[u,v] } }:=
   J.laid (t':=s.toks) (λb u e=>akf _ e) (akk _) ⟨by rw[akB];show 2<=_;decide,[u,v],jC,⟨_,akp _ rfl,rfl,_,rfl⟩⟩
  have b_:Inv X zn U (upd H s.heap.objs.size (.t [x,y])) { s with heap:=sx }:=by
   refine Inv.PU (s:={ s with heap:=s.heap.push { cls:=.type "tuple",data:=.seq #[u,v] } }) (ch:=[z,dQ,g,j]) (t':=s.toks) bj (λb o c e=>?_) λb c=>?_
   .have C:b≠z:=λq=>c (by simp[q])
    refine B.extBut _ _ C ?_;rcases Heap.get?_push_cases e with⟨rfl,rfl⟩|e
    .exact jq
    .exact I b o C (λq=>c (by simp[q])) (λq=>c (by simp[q])) (λq=>c (by simp[q])) e
   .obtain⟨f0,f⟩:=L b (Xl b c)
    refine⟨?_,f⟩;rw[c2]
    .exact f0
    .rintro rfl
     simp at c;rcases c with h|h|h|h
     .rw[<-h]at Q;exact ak6 _ Q
     .rw[<-h]at O;exact ak6 _ O
     .rw[<-h]at M;exact ak6 _ M
     .rw[<-h]at N;exact ak6 _ N
  refine⟨.ref s.heap.objs.size,_,b_,rfl,⟨x,y,_,rfl,aA,rfl,λo9 h'=>by rw[Inv.PB J h' F];exact ai,λaj9 h'=>by rw[Inv.PB J h' G];exact a9⟩,
   ⟨X_,B.extBut _ _ D.TIz (I _ _ D.TIz D.TITO D.TIi1 D.TIi2 l),⟨_,_,B.extBut _ _ D.TOz a2⟩,eW.extBut B.extBut D.i1z,iN.extBut B.extBut D.i2z⟩,λb c=>?_⟩
  rw[c2]
  .exact(L b c).1
  .rintro rfl
   have A:=akr l;simp at c;rcases c with h|h|h|h|h
   .rw[<-h]at Q;exact ak6 _ Q
   .rw[<-h]at A;exact ak6 _ A
   .rw[<-h]at O;exact ak6 _ O
   .rw[<-h]at M;exact ak6 _ M
   .rw[<-h]at N;exact ak6 _ N
 done:=by
  rintro X W hw Y hc i zn s U H E J L ⟨hz,l,⟨mT,jr,r⟩,m,n⟩ ⟨xs,ys,F,G,hl⟩;subst W hw Y;obtain⟨its,V,p⟩:=Inv.cP J F;obtain⟨MY,Z,q⟩:=Inv.cP J G;have av:=V.length;have aE:=Z.length;refine ahy (J.ok.hd hc) D hz l r m n p q ?_ λh' I=>⟨rfl,?_⟩
  .rcases hl with hl|hl
   .exact .inl (by simp;omega)
   .exact .inr (by simp;omega)
  .refine Inv.PU (ch:=[z,dQ,g,j]) (t':=s.toks) J (λb o c e=>I b o (λq=>c (by simp[q])) (λq=>c (by simp[q])) (λq=>c (by simp[q])) (λq=>c (by simp[q])) e) λb c=>L b ?_
   simp at c ⊢;rcases c with h|h|h|h<;>simp[h]
 self:=λ_ _ _ _ _ ⟨hz,_⟩ h=>wpAny_pyIter_zip hz h
def y0(b:Bool)(l:Addr):Obj:=match b with
 |true=>{ cls:=.type "tuple_iterator",data:=.fields #[.ref l,.int 0 0] }
 |false=>{ cls:=.type "list_iterator",data:=.fields #[.ref l,.int 0 0] }
abbrev AY(b:Bool)(h:Heap)(a:Addr):Heap:=h.push (y0 b a)
abbrev AZ(c d:Bool)(h:Heap)(b a:Addr):Heap:=(AY c h b).push (y0 d a)
abbrev A0(b d:Bool)(h:Heap)(a c:Addr):Heap:=(AZ b d h a c).push { cls:=.type "tuple",data:=.seq #[.ref h.objs.size,.ref (AY b h a).objs.size] }
abbrev A1(c d:Bool)(h:Heap)(b a:Addr):Heap:=(A0 c d h b a).push { cls:=.type "tuple",data:=.seq #[.none,.none] }
abbrev ug(c d:Bool)(h:Heap)(b a:Addr):Heap:=(A1 c d h b a).push { cls:=.type "zip",data:=.fields #[.none,.bool false,.bool false,.ref (AZ c d h b a).objs.size,.ref (A0 c d h b a).objs.size] }
def Z4(l e:Bool)(a c:Addr)(xs ys:Array Value) :
  Meets (anU.«zip.__new__» ⟨[.type "zip",.ref a,.ref c],[]⟩) (λ_ R s=>i8 l s.heap a xs/\i8 e s.heap c ys/\
   R (.ok (.ret (.ref (A1 l e s.heap a c).objs.size))) { s with heap:=ug l e s.heap a c }):=by
 cases l with
 |false=>
  cases e with
  |false=>exact meets_zip_new a c xs ys|true=>
   refine .of_wp λprog w A R s h=>?_
   obtain⟨b,g,d,tk,os⟩:=s;obtain⟨i,f,h⟩:=h;have m:=sub_zip;have j:Heap.IsList (ani ⟨b,g,d,tk,os⟩) a xs:=i;have k:aoz (ani ⟨b.push { cls:=.type "list_iterator",data:=.fields #[.ref a,.int 0 0] },g,d,tk,os⟩) c ys:=ao8 f _
   wp_walk using amm j,amD k
   exact⟨_,rfl,h⟩
 |true=>
  cases e with
  |false=>
   refine .of_wp λprog w A R s h=>?_
   obtain⟨b,g,d,tk,os⟩:=s;obtain⟨i,f,h⟩:=h;have m:=sub_zip;have j:aoz (ani ⟨b,g,d,tk,os⟩) a xs:=i;have k:Heap.IsList (ani ⟨b.push { cls:=.type "tuple_iterator",data:=.fields #[.ref a,.int 0 0] },g,d,tk,os⟩) c ys:=Heap.IsList.push f _
   wp_walk using amD j,amm k
   exact⟨_,rfl,h⟩
  |true=>
   refine .of_wp λprog w A R s h=>?_
   obtain⟨b,g,d,tk,os⟩:=s;obtain⟨i,f,h⟩:=h;have m:=sub_zip;have j:aoz (ani ⟨b,g,d,tk,os⟩) a xs:=i;have k:aoz (ani ⟨b.push { cls:=.type "tuple_iterator",data:=.fields #[.ref a,.int 0 0] },g,d,tk,os⟩) c ys:=ao8 f _
   wp_walk using amD j,amD k
   exact⟨_,rfl,h⟩
def gf.new{h:Heap}(e:h.get? a=some (y0 b l)):gf b h a l 0:=by
 cases b with
 |true=>exact⟨_,e,rfl,rfl⟩|false=>exact⟨_,e,rfl,rfl⟩
section
variable{prog:akC}{w:World}{A:akL}{E:dj}{s:akj}
def S'{d f:Bool}{a e:Addr}{xs ys:Array Value}{Q:dj}(y:i8 d s.heap a xs)(u:i8 f s.heap e ys)
  (h:∀h',IsZip h' (s.heap.objs.size+4) (s.heap.objs.size+2) (s.heap.objs.size+3) .none->amx h' (s.heap.objs.size+2) (.ref s.heap.objs.size) (.ref (s.heap.objs.size+1))->
   amx h' (s.heap.objs.size+3) .none .none->gf d h' s.heap.objs.size a 0->gf f h' (s.heap.objs.size+1) e 0->
   (∀c o,s.heap.get? c=some o->h'.get? c=some o)->Q (.ref (s.heap.objs.size+4)) { s with heap:=h' }) :
  wpAny (model prog w) A (call (.type "zip") [.ref a,.ref e]) Q E s:=by
 refine callType_new F.called_zip (by decide) (F.typeCall_zip_2 _ _) (F.newCall_zip_2 _ _) (λobj=>F.args_object_init_3 obj _ _) F.entry_zip_new (Z4 d f a e xs ys) ⟨y,u,?_⟩;have j:(AY d s.heap a).objs.size=s.heap.objs.size+1:=amN ..;have i:(AZ d f s.heap a e).objs.size=s.heap.objs.size+2:=by rw[amN,j]
 have k:(A0 d f s.heap a e).objs.size=s.heap.objs.size+3:=by rw[amN,i]
 have m:(A1 d f s.heap a e).objs.size=s.heap.objs.size+4:=by rw[amN,k]
 have n:∀b l,(y0 b l).isFreed=false:=λb l=>by cases b<;>rfl
 have g:(ug d f s.heap a e).get? (A1 d f s.heap a e).objs.size=some _:=akp _ rfl;have r:(ug d f s.heap a e).get? (A0 d f s.heap a e).objs.size=some _:=akf _ (akp _ rfl);have q:(ug d f s.heap a e).get? (AZ d f s.heap a e).objs.size=some _:=akf _ (akf _ (akp _ rfl));have p:(ug d f s.heap a e).get? (AY d s.heap a).objs.size=some _:=akf _ (akf _ (akf _ (akp _ (n _ _))));have t:(ug d f s.heap a e).get? s.heap.objs.size=some _:=akf _ (akf _ (akf _ (akf _ (akp _ (n _ _)))));show _/\_;rw[i,k,m]at g;rw[j,i]at q;rw[k]at r;rw[j]at p;rw[m];exact⟨⟨_,g,rfl⟩,h _ g q r (.new t) (.new p) λc o x=>
  akf _ (akf _ (akf _ (akf _ (akf _ x))))⟩
end
def DT(K:aO)(f:fR):TI:=λU H R=>f U H λvs a=>∃d e c b,vs=[.ref c,.ref b]/\(∃xs,hR d K a c xs)/\(∃ys,hR e K a b ys)/\R (GI K d e c b) a
def adv{X:aT}{g:List Expr}{T:Nat}{Q:Pos}{p pos:Pos}(F:eb X "zip")(S:X.mg "zip"=none)(I:gS X [a,b] o)(ax:ake [a,b] X.env=[(false,eval a X.env),(false,eval b X.env)]:=by rfl)(x:ake [b] X.env=[(false,eval b X.env)]:=by rfl) :
  jT X (.Tuple g T Q) (.Call (.Name "zip" p) [a,b] [] pos) (DT X.K o):=by
 intro zn s U H R J h;refine PyProof.Rows.Call_ (nk J F S PyProof.Rows.boot_zip (alA (b0 (I pos zn s U H _ J h) λus d ⟨vs,B,f,M,br⟩=>?_) (by rw[ax,x]) (by rw[x];rfl)));obtain⟨O,P,t,m,e,⟨xs,G⟩,⟨ys,E⟩,q⟩:=br;subst e
 cases M with
 |cons r u=>
  cases u with
  |cons N u=>
   cases u;cases r;cases N;obtain⟨its,W,p1⟩:=Inv.cP f G;obtain⟨V,Y,ck⟩:=Inv.cP f E;have z:t<d.heap.objs.size:=by obtain⟨_,_,e,_⟩:=p1.obj;exact akr e
   have A:m<d.heap.objs.size:=by obtain⟨_,_,e,_⟩:=ck.obj;exact akr e
   refine S' p1 ck λh' a1 a2 eW iN jq L=>?_
   refine wpAny_pyIter_zip (s:={ d with heap:=h' }) a1 ?_;have D:ZipApart (d.heap.objs.size+4) (d.heap.objs.size+2) (d.heap.objs.size+3) d.heap.objs.size (d.heap.objs.size+1) t m:=by
    have up:∀{l:Addr}(k:Nat),l<d.heap.objs.size->l≠d.heap.objs.size+k:=λk h=>akR (akQ h (amy _ _))
    have l9:t≠d.heap.objs.size:=akR z;have w:m≠d.heap.objs.size:=akR A;have j:=λk=>up k z
    have i:=λk=>up k A
    generalize d.heap.objs.size=n at l9 w j i ⊢;constructor<;>first|exact j 4|exact j 3|exact l9|exact j 1|exact i 4|exact i 3|exact w|exact i 1|(show(_:Nat)≠_;omega)
   refine⟨d.heap.objs.size+4,[d.heap.objs.size+4,d.heap.objs.size+2,d.heap.objs.size+3,d.heap.objs.size,d.heap.objs.size+1],_,_,B,rfl,f.kept (t':=d.toks) L,afQ O P D,⟨a1,a2,⟨_,_,eW⟩,iN,jq⟩,λc y=>?_,q⟩;have le:d.heap.objs.size<=c:=by
    simp at y;rcases y with rfl|rfl|rfl|rfl|rfl
    .exact amy _ _
    .exact amy _ _
    .exact amy _ _
    .exact akk _
    .exact amy _ _
   exact f.qT le (f.cc.fresh le)
end aF
namespace aF
open PySem PySem.Spec aB
variable[aB.a5]
def R.walk:R->Option (List D)
 |.v (.t xs)=>some xs|.v (.l xs)=>some xs|.fr xs=>some xs|.bN xs=>some xs|_=>none
def Bg(b:Bool)(K:aO)(O:a8)(H:aw)(a:Addr)(ys:List V):Prop:=match b with
 |true=>dy K H a ys|false=>hP K O H a ys
def Bg.cP{O:a8}(h:Bg b K O H a ys):hR b K H a ys:=by
 cases b with
 |true=>exact h|false=>exact hP.cP h
def P6{O:a8}{r:R}{v:V}(h:ew K mg O H r v)(n:jl H₀ r v)(e:r.walk=some xs):∃b a ys,v=.ref a/\Bg b K (cD H₀ O) H a ys/\bl K mg (cD H₀ O) H xs ys:=by
 unfold R.walk at e;split at e
 .cases e;obtain⟨a,ys,q,l,r⟩:=h;exact⟨true,a,ys,q,l,r.c6 (i_ _ _)⟩
 .cases e
  obtain⟨a,ys,q,l,r⟩:=h;exact⟨false,a,ys,q,.inl ⟨.inl l.1,.inl ((i_ H₀ O).fr a l.2)⟩,r.c6 (i_ _ _)⟩
 .cases e
  obtain⟨a,ys,rfl,l,t,r⟩:=h;exact⟨false,a,ys,rfl,.inl ⟨.inl l,.inl (CX (n a rfl) t)⟩,r.c6 (i_ _ _)⟩
 .cases e
  obtain⟨a,ys,q,l,r⟩:=h;refine⟨false,a,ys,q,?_,r.c6 (i_ _ _)⟩;rcases l with⟨l,f⟩|l
  .refine .inl ⟨l,?_⟩
   rcases f with f|f
   .exact .inl ((i_ H₀ O).fr a f)
   .exact .inr (by rw[qV (by rw[f];intro z;cases z)];exact f)
  .exact .inr l
 .cases e
end aF
namespace aF
open PySem PySem.Spec aB PyProof.Rows
variable[aB.a5]
def pR(t:aM->M Bool)(el:bx)(U:aM):List (D×D)->M (List D)
 |[]=>pure []|d::ds=>do
  let b <-t ((U.set 0 (.v d.1)).set 1 (.v d.2))
  if b=true then do
   let r <-el ((U.set 0 (.v d.1)).set 1 (.v d.2))
   let x <-r.dat
   let xs <-pR t el U ds
   pure (x::xs)
  else pR t el U ds
def xi:List R->Option (List (D×D))
 |[x,y]=>match x.walk,y.walk with
  |some xs,some ys=>some (xs.zip ys)|_,_=>none
 |_=>none
@[simp] def uN(cap:List Nat)(ms:cZ)(t:aM->M Bool)(el:bx)(U:aM):M R:=do
 let rs <-ms U
 match xi rs with
 |some ds=>do
  hx (ds.length<aki)
  let xs <-pR t el (hy 2 cap U) ds
  pure (.fr xs)
 |none=>bad
def ahx(h:xi rs=some ds):∃x y xs ys,rs=[x,y]/\x.walk=some xs/\y.walk=some ys/\ds=xs.zip ys:=by
 unfold xi at h;split at h
 .rename_i x y
  split at h
  .rename_i xs ys av aE
   cases h;exact⟨x,y,xs,ys,rfl,av,aE,rfl⟩
  .cases h
 .cases h
def hR.same{b:Bool}{K:aO}{H H':aw}(s:eC H H'){a:Addr}{ys:List V}(h:hR b K H a ys):hR b K H' a ys:=by
 cases b with
 |true=>exact s.wR h|false=>exact s.seq h
omit [aB.a5]in
theorem M0(U:aM):∀ds,pR t el U ds=nh (λd=>some ((U.set 0 (.v d.1)).set 1 (.v d.2))) t el ds
 |[]=>rfl| d::ds=>by unfold pR nh;rw[M0 U ds]
def Tp{K:aO}{mg:bp}{cap:List Nat}{ms:cZ}{t:aM->M Bool}{el:bx}:∀e H Q,fN K mg (uN cap ms t el) e H Q->t2 2 cap (DT K (oU K mg ms)) (C3 K 2 (sr [0,1])) (lz K mg t) (fN K mg el) e H Q:=by
 rintro e H Q ⟨O,U,S,r,ao,st,h,q⟩;obtain⟨rs,S1,F,h⟩:=M.inv h
 cases o:xi rs with
 |none=>rw[o]at h;cases h
 |some ds=>
  rw[o]at h;obtain⟨_,aZ,G,h⟩:=M.inv h;obtain⟨a,rfl⟩:=qD G;obtain⟨xs,hs,p,h⟩:=M.inv h;cases h;obtain⟨x,y,I,AU,rfl,ex,C,rfl⟩:=ahx o;rw[M0]at p;refine⟨O,U,S,_,S1,st,F,λaG vs H1 z E f nn=>?_⟩;obtain⟨v1,bu,rfl,D,v2,bG,rfl,N,re⟩:=f;cases re;obtain⟨W,P,us,rfl,l,a1⟩:=P6 (H₀:=H) D nn.1 ex;obtain⟨X,L,c,rfl,s2,a2⟩:=P6 (H₀:=H) N nn.2.1 C;refine⟨W,X,P,L,rfl,⟨us,l.cP⟩,⟨c,s2.cP⟩,Jd (E.cD H) a (λH' s=>⟨us,c,hR.same s l.cP,hR.same s s2.cP,?_⟩) (λk d mD b H' Y ct g' i=>?_) p λb v H' g i f nn=>q b v H' (z.cD.trans g) i f (nn.back z.same)⟩
  .rw[List.length_zip,a1.len,a2.len];omega
  .cases ct
   obtain⟨av,aE⟩:=List.getElem?_zip_eq_some.mp Y;obtain⟨u,B,Z⟩:=(bl.go g' (a1.c6 (jX _))).get av;obtain⟨v,w,V⟩:=(bl.go g' (a2.c6 (jX _))).get aE;have br:=hR.same g'.same l.cP;have bP:=hR.same g'.same s2.cP;refine⟨⟨⟨us,u,br,B⟩,⟨c,v,bP,w⟩⟩,λx aK R kT J=>?_⟩;obtain⟨u',fO,T,rfl,A,rfl,yU,sF⟩:=kT;have m:=yU us br;rw[B]at m;cases m;have n:=sF c bP;rw[w]at n;cases n;have j:Go b b H' (upd H' T (.t [u,v])):=Go.hg A;exact⟨T,[u,v],rfl,dy.of d6,rfl,u,[v],rfl,v,[],rfl,rfl,J _ _ j (((i.hg A).val (Z.go j)).val (V.go j)) (((mK.refl _).set rfl).set rfl)⟩
section
variable{X:aT}{scope esc:Scope}{EN N:List Str}{cap:List Nat}{elt a dR:Expr}{ifs:List Expr}{pos fy p dK p1 ck:Pos}{x y:Str}{t:aM->M Bool}{el:bx}{ms:cZ}{k:Nat}
def Tb(S:kW esc scope EN N 2 cap)(i:eb X "zip")(u:X.mg "zip"=none)(m:Gv X [a,dR] ms)(l:N[0]? = some x)(j:N[1]? = some y)
  (e:∀C b s H,Loc (cI X scope N C b s H).env.scope x/\(cI X scope N C b s H).env.scope.names.lookup x=some .local) (f:∀C b s H,Loc (cI X scope N C b s H).env.scope y/\(cI X scope N C b s H).env.scope.names.lookup y=some .local)
  (n:∀C b s H,A4 (cI X scope N C b s H) ifs t) (q:∀C b s H,gO (cI X scope N C b s H) elt el)
  (he:X.env.scope=esc:=by rfl) (hN:X.N=EN:=by rfl) (d:X.calm=true:=by rfl) (ax:∀x,alf (.Call (.Name "zip" p) [a,dR] [] dK) X.env x=pure x:=by intro _;rfl)
  (h:ake [a,dR] X.env=[(false,eval a X.env),(false,eval dR X.env)]:=by rfl) (r:ake [dR] X.env=[(false,eval dR X.env)]:=by rfl)
  (c:∀C b s H,(ala [.Name x p1,.Name y ck] (cI X scope N C b s H).env).length=2/\(ala [.Name x p1,.Name y ck] (cI X scope N C b s H).env).findIdx? (·.1)=none/\
   (ala [.Name x p1,.Name y ck] (cI X scope N C b s H).env).map (·.2)=al8 (.Name x p1) (cI X scope N C b s H).env::(ala [.Name y ck] (cI X scope N C b s H).env).map (·.2)/\
   (ala [.Name y ck] (cI X scope N C b s H).env).map (·.2)=al8 (.Name y ck) (cI X scope N C b s H).env::(ala [] (cI X scope N C b s H).env).map (·.2):=by intros;exact⟨rfl,rfl,rfl,rfl⟩) :
  gO X (.ListComp elt [⟨.Tuple [.Name x p1,.Name y ck] k fy,.Call (.Name "zip" p) [a,dR] [] dK,ifs,0⟩] scope pos) (uN cap ms t el):=
 er (Fb (wi:=DT X.K (oU X.K X.mg ms)) (g:=C3 X.K 2 (sr [0,1])) (tt:=lz X.K X.mg t) (te:=fN X.K X.mg el) S (adv i u m h r)
  (λC b s H=>ado d (OJ S.fM l (e C b s H).1 (OJ S.fM j (f C b s H).1 adq (c C b s H).2.2.2 (.inr (f C b s H).2)) (c C b s H).2.2.1 (.inr (e C b s H).2)) (c C b s H).1 (c C b s H).2.1) n q he hN d ax) Tp
end
end aF
namespace aF
open PySem PySem.Spec aB PyProof.Rows
def SR:ak1 "max"=some (.builtin "max"):=by decide +kernel
def kmk_max_key(a v:Value):argsOk "max" ⟨[a],[(aky "key",v)]⟩:=by unfold argsOk;kernel_rfl
def l6(mf:bq)(d:D):Option (List Int):=match(mf [d]).run []with
 |.ok (.v (.t o)) []=>nums o|_=>none
def kd(mf:bq)(b:D)(a:List Int):List D->Option D
 |[]=>some b|d::ds=>match l6 mf d with
  |some eO=>if pT eO a=true then kd mf d eO ds else kd mf b a ds|none=>none
def v7(mf:bq):List D->Option D
 |d::ds=>match l6 mf d with
  |some k=>kd mf d k ds|none=>none
 |[]=>none
def yk(mf:bq)(x:R):M R:=match x.fu with
 |some ds=>match v7 mf ds with
  |some r=>if ds.length<64 then pure (.v r)else bad|none=>bad
 |none=>bad
@[simp] def x4(mf:bq)(a:bx)(U:aM):M R:=do
 let x <-a U
 yk mf x
def M'{mf:bq}{k:List Int}(h:l6 mf d=some k):∃a,(mf [d]).run []=.ok (.v (.t a)) []/\nums a=some k:=by
 unfold l6 at h;split at h
 .rename_i a e;exact⟨a,e,h⟩
 .cases h
variable[aB.a5]
section
variable{X:aT}{zn:c0}{U:aB.St}{H:aw}{s:akj}{G:aw->Prop}{mf:bq}{f S it l:Addr}{k:Nat}{O:a8}
def next_item{xs:List V}{v:V}{E:dj}{A:akL}(J:Inv X zn U H1 s)(I:dr X.K H1 l xs)(q:xs[j]? = some v)(n:gR X zn H1 it)(a:s.heap.IsListIter it l j)(cR:A.handled=none) :
  wpAny (model X.prog X.w) A (am3 (.ref it)) (λr h=>∃u,r=some u/\RelV v u/\Inv X zn U H1 h/\h.heap.IsListIter it l (j+1)) E s:=by
 obtain⟨us,t,pl,_⟩:=J.list I;have hl:s.heap.IsList l us.toArray:=pl.isList;have P:l≠it:=by
  rintro rfl;obtain⟨o,e,c,_⟩:=a;obtain⟨Q,d,c',_⟩:=hl;rw[e]at d;cases d;rw[c]at c';injection c' with z;exact absurd z (by decide)
 obtain⟨u,g,y⟩:=t.get q;have W:=aoU (prog:=X.prog) (w:=X.w) (A:=A) cR it l P us.toArray;refine W.item j s _ _ (by have:=(akd.mp g).1;simpa using this) ⟨a,hl⟩ λu' h' i x m N=>?_
 have e:some u'=some u:=by rw[<-g];simpa using x.symm
 cases e;obtain⟨B,D,R,L,F,M⟩:=n;exact⟨u,rfl,y,J.turned (t':=i) (λb o p e=>N b o (by simpa using p) e) B D L F M,m.1⟩
def abH{xs:List V}{E:dj}{A:akL}(J:Inv X zn U H1 s)(u:dr X.K H1 l xs)(m:j=xs.length)(h:gR X zn H1 it)(a:s.heap.IsListIter it l j)(cR:A.handled=none) :
  wpAny (model X.prog X.w) A (am3 (.ref it)) (λr I=>r=none/\Inv X zn U H1 I) E s:=by
 obtain⟨us,n,pl,_⟩:=J.list u;have hl:s.heap.IsList l us.toArray:=pl.isList;have F:l≠it:=by
  rintro rfl;obtain⟨o,e,c,_⟩:=a;obtain⟨L,d,c',_⟩:=hl;rw[e]at d;cases d;rw[c]at c';injection c' with z;exact absurd z (by decide)
 have W:=aoU (prog:=X.prog) (w:=X.w) (A:=A) cR it l F us.toArray;have B:j=us.toArray.size:=by rw[ako,m,n.length]
 rw[B]at a;refine W.done s _ _ ⟨a,hl⟩ λh' g D=>?_
 obtain⟨p,q,M,x,t,y⟩:=h;exact⟨rfl,J.turned (t':=g) (λb o i e=>D b o (by simpa using i) e) p q x t y⟩
def Nc{i:a8}{v:V}{A:akL}(F:nL X k f G mf)(P:cA k A.in1)(ec:kX X.prog X.w X.K X.mg X.base A.in1 X.stack s H1)(J:Inv X zn U H1 s)(fj:dg i H1)(I:G H1)(c_:Rep X.K X.mg i H1 d v)(eh:RelV v u)(hd:(mf [d]).run []=.ok (.v o) [])(B:gR X zn H1 it)(t:s.heap.IsListIter it l j) :
  wpAny (model X.prog X.w) A.in1 (call (.ref f) [u]) (λu' s2=>∃(n:a8)(a:aw)(c:V),Inv X zn U a s2/\Go i n H1 a/\dg n a/\G a/\Rep X.K X.mg n a o c/\RelV c u'/\gR X zn a it/\s2.heap.IsListIter it l j) (λ_ _=>False) s:=by
 obtain⟨y,L,C,M⟩:=t;have N:Inv X (zn++rA [it] s.heap) U H1 s:=J.pinned (λb p=>by rw[akF.mp p];exact B) λb p=>by
  rw[akF.mp p];exact⟨y,L,λv z=>by rw[M]at z;cases z⟩
 refine wpAny_call (amO (F.2.2 A.in1 s H1 u v (λc H'=>∃m,Go i m H1 H'/\dg m H'/\Rep X.K X.mg m H' o c) P ec I eh ?_) λr s2 h=>?_)
 .refine⟨i,[d],.v o,[],fj,fW.nil,⟨v,[],rfl,?_,rfl⟩,hd,λm c H' g Z W _=>⟨m,g,Z,W⟩⟩
  cases d<;>first|exact c_|exact akT c_|skip
  obtain⟨x,zs,q,l,r⟩:=c_;exact⟨x,zs,q,l.cP,r⟩
 .cases r with
  |error e=>exact akT h|ok Q=>
   cases Q with
   |ret u'=>
    obtain⟨c,a,D,T,n,E,Y,R⟩:=N.after h;have pin:=D.pin (it,y) (ak4 _ (ak4 _ (by unfold rA;simp[L])));exact⟨n,a,c,D.w7,E,Y,F.1 _ _ E.same I,R,T,⟨pin.2.1,B.2⟩,⟨y,pin.1,C,M⟩⟩
   |next=>exact akT h
   |brk=>exact akT h|cont=>exact akT h
structure Qz(X:aT)(zn:c0)(U:aB.St)(G:aw->Prop)(O:a8)(H:aw)(S it l:Addr)(j:Nat)(d:D)(fE:List Int)(a0:akj):Prop where
 ex:∃ak H' v kv,Inv X zn U H' a0/\Go O ak H H'/\dg ak H'/\G H'/\H' S=some (.l [v,kv])/\Rep X.K X.mg ak H' d v/\Rep X.K X.mg ak H' (.t (fE.map D.int)) kv/\ak S=.dq/\gR X zn H' it/\a0.heap.IsListIter it l j
def GJ(X:aT)(zn:c0)(U:aB.St)(O:a8)(H:aw)(res:D)(u:Value)(b:akj):Prop:=
 ∃a H' v,Inv X zn U H' b/\Go O a H H'/\dg a H'/\Rep X.K X.mg a H' res v/\RelV v u
def Pf{K:aO}{mg:bp}{O:a8}{H:aw}{c:List D}{b:List Int}{v:V}(r:Rep K mg O H (.t c) v)(e:nums c=some b):Rep K mg O H (.t (b.map D.int)) v:=by
 obtain⟨a,ys,rfl,cP,d⟩:=r;have:=zT d e;subst this;exact⟨a,_,rfl,cP,Pd b⟩
def Pg{K:aO}{mg:bp}{O:a8}{H:aw}{b:List Int}{v:V}(r:Rep K mg O H (.t (b.map D.int)) v):∃a,v=.ref a/\dy K H a (b.map V.int):=by
 obtain⟨a,ys,rfl,cP,g⟩:=r;have:∀(b:List Int)(ys:List V),bl K mg O H (b.map D.int) ys->ys=b.map V.int:=by
  intro b
  induction b with
  |nil=>intro ys h;exact h|cons a t c=>
   intro ys h;obtain⟨y,r,rfl,d,e⟩:=h;rw[show y=V.int a from d,c _ e];rfl
 rw[this b ys g]at cP;exact⟨a,rfl,cP⟩
def vals2{v kv:V}(h:Vals [v,kv] its):∃u a,its=[u,a]/\RelV v u/\RelV kv a:=by
 cases h with
 |cons c b=>cases b with
  |cons d e=>cases e;exact⟨_,_,rfl,c,d⟩
def II{a:aw}{its:List Value}{v kv:V}(J:Inv X zn U a s)(h:a S=some (.l zs))(i:s.heap.get? S=some (alg "list" its.toArray mZ))(g:RelV v u)(m:RelV kv C) :
  Inv X zn U (upd a S (.l [v,kv])) { s with heap:=s.heap.update S (akN λ_=>#[u,C]) }:=by
 have j:=alr s.heap S (akN λ_=>#[u,C]);obtain⟨ab,c⟩:∃ab,(s.heap.update S (akN λ_=>#[u,C])).get? S=some (alg "list" #[u,C] ab):=⟨_,amF i λ_=>#[u,C]⟩;refine J.write (x:=S) (e:=S) (t':=s.toks) (by rw[h];trivial) (.inl rfl) (λb o d e=>(j.2 b d).trans e) ⟨_,c⟩ ⟨by rw[akB];simp,[u,C],ab,.cons g (.cons m .nil),c⟩
def Ss{a:aw}{its:List Value}(J:Inv X zn U a s)(g:a S=some (.l zs))(h:s.heap.get? S=some (alg "list" its.toArray C)) :
  Inv X zn U (upd a S (.l [])) { s with heap:=s.heap.update S (akN λ_=>#[]) }:=by
 have i:=alr s.heap S (akN λ_=>(#[]:Array Value));obtain⟨ab,c⟩:∃ab,(s.heap.update S (akN λ_=>(#[]:Array Value))).get? S=some (alg "list" #[] ab):=⟨_,amF h λ_=>#[]⟩;refine J.write (x:=S) (e:=S) (t':=s.toks) (by rw[g];trivial) (.inl rfl) (λb o d e=>(i.2 b d).trans e) ⟨_,c⟩ ⟨akY _,[],ab,.nil,c⟩
def MT{h:Heap}(c:S≠it)(a:h.IsListIter it l j):(h.update S g).IsListIter it l j:=by
 obtain⟨e,d,b,i⟩:=a;exact⟨e,((alr h S g).2 it c.symm).trans d,b,i⟩
def LD(b:S≠it)(a:gR X zn H1 it):gR X zn (upd H1 S o) it:=⟨by rw[c2 b.symm];exact a.1,a.2⟩
def Z3{res:D}(gi:nL X k f G mf)(V:cA (k+1) X.A)(Mu:H S=none)(qZ:S≠it)(bA:bl X.K X.mg O H ds xs)(hl:dr X.K H l xs) :
  ∀(r:List D)(j:Nat)(d:D)(h:List Int)(q:akj),ds.drop j=r->Qz X zn U G O H S it l j d h q->j<=ds.length->kd mf d h r=some res->
   amW (model X.prog X.w) X.A (.builtin "max.loop" ⟨[.ref it,.ref f,.ref S],[]⟩) (λr q=>∃u,r=.ok (.ret u)/\GJ X zn U O H res u q) q:=by
 have vl:(toString "max"++toString ".loop":String)="max.loop":=by decide
 have cR:X.A.in1.handled=none:=V.in1.hd;have ZL:=bA.len;intro r
 induction r with
 |nil=>
  intro j d h q R B bg a;cases a;obtain⟨aG,H1,v,kv,y,b,J,pg,e,c_,wK,o,M,m⟩:=B.ex;obtain⟨gJ,its,n,c,iT⟩:=y.cc S _ e;obtain⟨u,l8,rfl,eh,Pk⟩:=vals2 c;have T:j=xs.length:=by
   have:=congrArg al0 R;rw[alj,alz]at this;omega
  refine aoI anj ?_;rw[anI alF _];show wpAny _ X.A.in1 (anz (.ref S) >>= _) _ _ _;refine akc (alE iT rfl ?_);show wpAny _ X.A.in1 (tryCatch (am3 (.ref it)) _ >>= _) _ _ _;refine akc (amQ (ak9 (abH (E:=λ_ _=>False) y (b.same.seq hl) T M m cR) (λr s1 t=>?_) λ_ _ L=>L.elim));obtain⟨rfl,x⟩:=t;obtain⟨_,kG,fw,Z,Mm⟩:=x.cc S _ e;show wpAny _ X.A.in1 (updateSeq S (λ_=>#[]) >>= _) _ _ _;refine akc ?_;refine anJ Mm rfl (hz:=by rw[ako,<-Z.length,akB];simp) (akc (amK (akm ?_)));exact⟨u,rfl,aG,_,v,Ss x e Mm,⟨t_ Mu b.same e _,b.own,b.bI⟩,J.ea e,c_.ea (by rw[o];intro z;cases z) e,eh⟩
 |cons P r aS=>
  intro j d h q R B bg a;unfold kd at a
  cases iu:l6 mf P with
  |none=>rw[iu]at a;cases a
  |some eO=>
   rw[iu]at a
   replace a:(if pT eO h=true then kd mf P eO r else kd mf d h r)=some res:=a
   obtain⟨b4,hm,aA⟩:=M' iu;obtain⟨aG,H1,v,kv,y,b,J,pg,e,c_,wK,o,M,m⟩:=B.ex;obtain⟨gJ,its,n,c,iT⟩:=y.cc S _ e;obtain⟨u,l8,rfl,eh,Pk⟩:=vals2 c;have I:ds[j]? = some P:=by
    have:=congrArg (·[0]?) R;simpa using this
   have Mh:ds.drop (j+1)=r:=by
    have:=congrArg (List.drop 1) R;simpa[anS]using this
   have T:j+1<=ds.length:=(akd.mp I).1;obtain⟨v2,X3,wJ⟩:=bA.get I;refine aoI anj ?_;rw[anI alF _];show wpAny _ X.A.in1 (anz (.ref S) >>= _) _ _ _;refine akc (alE iT rfl ?_);show wpAny _ X.A.in1 (tryCatch (am3 (.ref it)) _ >>= _) _ _ _;refine akc (amQ (ak9 (next_item (E:=λ_ _=>False) y (b.same.seq hl) X3 M m cR) (λr s1 t=>?_) λ_ _ L=>L.elim));obtain⟨jO,rfl,wL,x,Ds⟩:=t;show wpAny _ X.A.in1 (tryCatch (alm [jO] (call (.ref f) [jO])) _ >>= _) _ _ _;refine akc (amQ (alL (ak9 (Nc gi V.in1 x.uZ.in1 x J pg (wJ.go b) wL hm M Ds) (λPX s3 t=>?_) λ_ _ L=>L.elim)));obtain⟨C,c4,Nl,F,g,pB,xt,Fv,Fw,yp,yJ⟩:=t;have i:=g.same.at' _ _ e;have Q:C S=.dq:=(g.own S (by rw[e];intro z;cases z)).trans o;obtain⟨_,Yz,hI,p,vi⟩:=F.cc S _ i;have z8:=Pf Fv aA;obtain⟨eW,rfl,Y⟩:=Pg z8;obtain⟨a1,rfl,W⟩:=Pg (wK.go g);cases Fw;cases Pk;obtain⟨t3,DQ,E9,_⟩:=F.tuple Y;obtain⟨t1,fp,p1,_⟩:=F.tuple W;show wpAny _ X.A.in1 (tryCatch (alm [jO,.ref eW] (richCompare .Gt (.ref eW) (.ref a1) >>= _)) _ >>= _) _ _ _;refine akc (amQ (alL (akc ((U5 E9 p1 (intsAre_of DQ) (intsAre_of fp) V.in1.afW ?_)))));refine akc (alL (als ?_));refine akc (amK (akm ?_))
   by_cases N:pT eO h=true
   .rw[if_pos N]at a
    simp only[N,if_true];refine akc ?_;refine anJ vi rfl (hz:=by rw[ako,<-p.length,akB];simp) (akc (amK ?_));rw[vl];refine akm ⟨aoi alF _,aS (j+1) P eO _ Mh ?_ T a⟩;exact⟨C,_,v2,.ref eW,II (v:=v2) (kv:=.ref eW) F i vi wL (show RelV (.ref eW) (.ref eW)from rfl),⟨t_ Mu (b.trans g).same i _,(b.trans g).own,(b.trans g).bI⟩,pB.ea i,gi.2.1 _ _ _ _ i xt,d6,(wJ.go (b.trans g)).ea (by rw[Q];intro z;cases z) i,z8.ea (by rw[Q];intro z;cases z) i,Q,LD qZ yp,MT qZ yJ⟩
   .rw[if_neg N]at a
    simp only[N,if_false];refine akc (amK ?_);rw[vl];refine akm ⟨aoi alF _,aS (j+1) d h _ Mh ?_ T a⟩;exact⟨C,c4,v,.ref a1,F,b.trans g,pB,xt,i,c_.go g,wK.go g,Q,yp,yJ⟩
theorem Z2{E:dj}(J:Inv X zn U H s)(cV:dg O H)(M:bl X.K X.mg O H ds xs)(hl:dr X.K H l xs)(n:nL X k f G mf)(yu:G H)(t:cA (k+1) X.A)(g:v7 mf ds=some res) :
  wpAny (model X.prog X.w) X.A (call (.builtin "max") [.ref l] [(aky "key",.ref f)]) (GJ X zn U O H res) E s:=by
 have V:(toString "max"++toString ".loop":String)="max.loop":=by decide
 have cR:X.A.in1.handled=none:=t.in1.hd
 cases ds with
 |nil=>cases g
 |cons d ds=>
  replace g:(match l6 mf d with|some k=>kd mf d k ds|none=>none)=some res:=g
  cases iu:l6 mf d with
  |none=>rw[iu]at g;cases g
  |some eO=>
   rw[iu]at g;obtain⟨b4,au,aA⟩:=M' iu;obtain⟨us,bV,pl,_⟩:=J.list hl;have XE:s.heap.IsList l us.toArray:=pl.isList;refine kmk_tree PySem.F.kind_max PySem.F.plain_max PySem.F.entry_max (kmk_max_key _ _) ?_;show wpAny _ X.A.in1 (an7 "max" ["key","default"] 0 ⟨[],[(aky "key",.ref f)]⟩ >>= _) _ _ s;refine akc (wpAny_of_eq (show an7 "max" ["key","default"] 0 ⟨[],[(aky "key",.ref f)]⟩=pure [some (.ref f),none]from rfl) ?_);refine akc (akm ?_);refine akc (amm XE ?_);refine akc (wpAny_newList ?_ (akY _));rw[V];have N:Inv X zn U H { s with heap:=s.heap.push { cls:=.type "list_iterator",data:=.fields #[.ref l,.int 0 0] } }:=J.kept (t':=s.toks) λb o e=>akf _ e
   have jx:(s.heap.push { cls:=.type "list_iterator",data:=.fields #[.ref l,.int 0 0] }).get? s.heap.objs.size=some { cls:=.type "list_iterator",data:=.fields #[.ref l,.int 0 0] }:=akp _ rfl;have gJ:(s.heap.push { cls:=.type "list_iterator",data:=.fields #[.ref l,.int 0 0] }).objs.size=s.heap.objs.size+1:=size_push' ..;generalize ajs:s.heap.push { cls:=.type "list_iterator",data:=.fields #[.ref l,.int 0 0] }=C at *;have q:H C.objs.size=none:=N.cc.fresh (akk _);have p:C.objs.size≠s.heap.objs.size:=by rw[gJ];omega
   have b_:Inv X zn U (upd H C.objs.size (.l [])) { s with heap:=C.push (alg "list" #[] 0) }:=
    N.laid (t':=s.toks) (λb o e=>akf _ e) (akk _) ⟨akY _,[],0,.nil,akp _ rfl⟩
   have L:gR X zn (upd H C.objs.size (.l [])) s.heap.objs.size:=J.qT (akk _) (by rw[c2 p.symm];exact J.cc.fresh (akk _));have x:(C.push (alg "list" #[] 0)).IsListIter s.heap.objs.size l 0:=⟨_,akf _ jx,rfl,rfl⟩;have a:Go O (f_ O C.objs.size .dq) H (upd H C.objs.size (.l [])):=Go.new q;have TH:dg (f_ O C.objs.size .dq) (upd H C.objs.size (.l [])):=cV.new q;have tH:f_ O C.objs.size .dq C.objs.size=.dq:=mx;have I:upd H C.objs.size (.l []) C.objs.size=some (.l []):=d6;have iT:(C.push (alg "list" #[] 0)).get? C.objs.size=some (alg "list" #[] 0):=akp _ rfl;refine akm ⟨aoi alF _,?_⟩;generalize C.push (alg "list" #[] 0)=ah at *;generalize C.objs.size=S at *;generalize s.heap.objs.size=it at *;generalize f_ O S .dq=bo at *;generalize upd H S (.l [])=aK at *;obtain⟨v,bR,c_⟩:=M.get (i:=0) (d:=d) rfl;refine aoI anj ?_;rw[anI alF _];show wpAny _ X.A.in1 (anz (.ref S) >>= _) _ _ _;refine akc (alE iT rfl ?_);show wpAny _ X.A.in1 (tryCatch (am3 (.ref it)) _ >>= _) _ _ _;refine akc (amQ (ak9 (next_item (E:=λ_ _=>False) b_ (a.same.seq hl) bR L x cR) (λr s1 c=>?_) λ_ _ B=>B.elim));obtain⟨y,rfl,W,P,Y⟩:=c;show wpAny _ X.A.in1 (tryCatch (alm [y] (call (.ref f) [y])) _ >>= _) _ _ _;refine akc (amQ (alL (ak9 (Nc n t.in1 P.uZ.in1 P TH (n.1 _ _ a.same yu) (c_.go a) W au L Y) (λPX s3 c=>?_) λ_ _ B=>B.elim)));obtain⟨Q,c4,Nl,R,m,pB,xt,Z,Fw,yp,yJ⟩:=c;have h:=m.same.at' _ _ I;have D:Q S=.dq:=(m.own S (by rw[I];intro z;cases z)).trans tH;obtain⟨_,Yz,hI,j,T⟩:=R.cc S _ h;have z8:=Pf Z aA;show wpAny _ X.A.in1 (updateSeq S (λ_=>#[y,PX]) >>= _) _ _ _;refine akc ?_;refine anJ T rfl (hz:=by rw[ako,<-j.length,akB];simp) ?_;rw[V];refine akm ⟨aoi alF _,amO (Z3 (zn:=zn) (U:=U) n t q p M hl ds 1 d eO _ rfl ?_ (by simp) g) λr a0 c=>?_⟩
   .exact⟨Q,_,v,Nl,II R h T W Fw,⟨t_ q (a.trans m).same h _,(a.trans m).own,(a.trans m).bI⟩,pB.ea h,n.2.1 _ _ _ _ h xt,d6,(c_.go (a.trans m)).ea (by rw[D];intro z;cases z) h,z8.ea (by rw[D];intro z;cases z) h,D,LD p yp,MT p yJ⟩
   .obtain⟨u,rfl,c⟩:=c
    exact c
end
section
variable{X:aT}{k:Nat}{e:Expr}{cO:bx}{p pos kp:Pos}{jd:Expr}{mf:bq}{G:Addr->aw->Prop}
def Tc(L:eb X "max")(hm:X.mg "max"=none)(I:cA (k+1) X.A)(T:gO X e cO)
  (ek:∀(zn:c0)(s:akj)(U:aB.St)(O:a8)(H:aw),Inv X zn U H s->dg O H->
   wpAny (model X.prog X.w) X.A (eval jd X.env) (λu F=>∃(f:Addr)(H':aw)(G:aw->Prop),u=.ref f/\Inv X zn U H' F/\Go O O H H'/\dg O H'/\G H'/\nL X k f G mf) X.dP s)
  (he:akJ pos (ake [e] X.env)=(false,eval e X.env)::akJ pos (ake [] X.env):=by rfl)
  (ax:ake [e] X.env=(false,eval e X.env)::ake [] X.env:=by rfl)
  (hY:(akJ pos (ake [e] X.env)).any (·.1)=false:=by rfl) :
  gO X (.Call (.Name "max" p) [e] [⟨some (aky "key"),jd,kp⟩] pos) (x4 mf cO):=by
 rintro zn s U H Q J ⟨O,B,S,r,P,st,h,q⟩;obtain⟨x,S1,N,h⟩:=M.inv h;obtain⟨ds,res,n',E,k7,rfl,rfl⟩:∃ds res,x.fu=some ds/\v7 mf ds=some res/\ds.length<64/\r=.v res/\S1=P:=by
  unfold yk at h;split at h
  .rename_i ds av
   split at h
   .rename_i res aE
    by_cases c:ds.length<64
    .rw[if_pos c]at h
     cases h;exact⟨ds,res,av,aE,c,rfl,rfl⟩
    .rw[if_neg c]at h;cases h
   .cases h
  .cases h
 refine alB (nk J L hm SR ?_);refine callWith_kw ?_ he hY rfl rfl;refine b0 ((wA T z2 ax) pos zn s U H (λvs b=>∃v a,vs=[v]/\Go O a H b/\cK X.K X.mg a B S1 U b/\ew X.K X.mg a b x v) J ⟨O,B,S,x,S1,st,N,λa v b t d n nn=>⟨v,a,rfl,t,d,n⟩⟩) λus s1 i=>?_
 obtain⟨vs,b,Z,o,v,a,ev,t,d,n⟩:=i;subst ev;obtain⟨l,ys,rfl,hl,W⟩:=R.ov n n';obtain⟨u,rfl,eh⟩:=vals1 o;cases eh;refine wpAny_evalAll_cons (akc (b0 (ek zn s1 U a b Z d.cv) λu s2 V=>akc (ank (akm ?_))));obtain⟨f,aK,G,rfl,Y,g,C,D,gi⟩:=V;refine wpAny_evalAll_nil ?_;show wpAny _ _ (call (.builtin "max") [.ref l] [(aky "key",.ref f)]) _ _ _;refine b0 (Z2 Y C (W.go g) (g.same.seq hl) gi D I E) λu s3 i=>?_
 obtain⟨e3,y,v,dI,z,pB,j,m⟩:=i;exact⟨v,y,dI,m,q e3 _ y (t.trans (g.trans z)) (d.go (g.trans z) pB) j trivial⟩
def Td{c P:Addr}{q p1:Str}{params:am5}{body:Expr}{scope:Scope}{y:Pos}{N:List Str}{m:bx}(i:eb X "max")(x:X.mg "max"=none)(h:cA (k+3) X.A)(L:pj X.K c P q)(B:kl X.base X.mg)(M:X.env.code=.ref c)
  (g:X.env.qual++aky "<lambda>"=q) (d:gQ N [p1] scope)
  (D:∀(c:Addr)(b a u:Value),ams (W.kla_fn (aky "<lambda>") q params body scope [] b (.ref c) a) ⟨[u],[]⟩=pure [(p1,u)])
  (j:∀(f c:Addr)(A:akL)(s:akj)(H:aw),cA k (A.deeper (amP q scope s.heap.objs.size f (.ref c)))->gO (gU eA X.prog X.w X.K X.mg X.base N q scope f (.ref c) A X.stack s H i3).gA body m)
  (l:gO X e cO) (I:aoq params X.env=([],[]):=by rfl) (E:amE scope X.env=pure []:=by rfl)
  (he:akJ pos (ake [e] X.env)=(false,eval e X.env)::akJ pos (ake [] X.env):=by rfl)
  (ax:ake [e] X.env=(false,eval e X.env)::ake [] X.env:=by rfl)
  (t:(akJ pos (ake [e] X.env)).any (·.1)=false:=by rfl) :
  gO X (.Call (.Name "max" p) [e] [⟨some (aky "key"),.Lambda params body scope y,kp⟩] pos) (x4 (fnOf 1 N.length (a4 m)) cO):=
 Tc (k:=k+1) i x (h.mono (by omega)) l (λzn s U O H J n=>b0 (Nt J n L B M g I E) λu Q ⟨f,c',b,a,H',F,r,g',d',z⟩=>
  ⟨f,H',_,F,r,g',d',z,Nu d (D c' b a) (j f c')⟩) he ax t
end
end aF
namespace aF
open PySem PySem.Spec aB PyProof.Rows
variable[aB.a5]
section
variable{X:aT}{scope esc:Scope}{EN N:List Str}{cap:List Nat}{elt a dR:Expr}{ifs:List Expr}{pos fy p dK p1 ck:Pos}{x y:Str}{t:aM->M Bool}{el:bx}{ms:cZ}{k:Nat}
def agi(S:kW esc scope EN N 2 cap)(d:eb X "zip")(m:X.mg "zip"=none)(g:gv X [a,dR] ms)(f:N[0]? = some x)(e:N[1]? = some y)
  (n:∀C b s H,Loc (cI X scope N C b s H).env.scope x/\(cI X scope N C b s H).env.scope.names.lookup x=some .local) (r:∀C b s H,Loc (cI X scope N C b s H).env.scope y/\(cI X scope N C b s H).env.scope.names.lookup y=some .local)
  (h:∀C b s H,qv (cI X scope N C b s H) ifs t) (i:∀C b s H,ba (cI X scope N C b s H) elt el)
  (he:X.env.scope=esc:=by rfl) (hN:X.N=EN:=by rfl) (l:X.calm=true:=by rfl) (ax:∀x,alf (.Call (.Name "zip" p) [a,dR] [] dK) X.env x=pure x:=by intro _;rfl)
  (c:ake [a,dR] X.env=[(false,eval a X.env),(false,eval dR X.env)]:=by rfl) (j:ake [dR] X.env=[(false,eval dR X.env)]:=by rfl)
  (q:∀C b s H,(ala [.Name x p1,.Name y ck] (cI X scope N C b s H).env).length=2/\(ala [.Name x p1,.Name y ck] (cI X scope N C b s H).env).findIdx? (·.1)=none/\
   (ala [.Name x p1,.Name y ck] (cI X scope N C b s H).env).map (·.2)=al8 (.Name x p1) (cI X scope N C b s H).env::(ala [.Name y ck] (cI X scope N C b s H).env).map (·.2)/\
   (ala [.Name y ck] (cI X scope N C b s H).env).map (·.2)=al8 (.Name y ck) (cI X scope N C b s H).env::(ala [] (cI X scope N C b s H).env).map (·.2):=by intros;exact⟨rfl,rfl,rfl,rfl⟩) :
  ba X (.ListComp elt [⟨.Tuple [.Name x p1,.Name y ck] k fy,.Call (.Name "zip" p) [a,dR] [] dK,ifs,0⟩] scope pos) (uN cap ms t el):=
 ⟨Tb S d m g.un f e n r (λC b s H=>(h C b s H).un) (λC b s H=>(i C b s H).un) he hN l ax c j q⟩
end
section
variable{X:aT}{k:Nat}{e:Expr}{cO:bx}{p pos kp:Pos}
def agm{c P:Addr}{q p1:Str}{params:am5}{body:Expr}{scope:Scope}{r:Pos}{N:List Str}{m:bx}(g:eb X "max")(n:X.mg "max"=none)(a:cA (k+3) X.A)(L:pj X.K c P q)(B:kl X.base X.mg)(z:X.env.code=.ref c)
  (d:X.env.qual++aky "<lambda>"=q) (b:gQ N [p1] scope)
  (t:∀(c:Addr)(D j u:Value),ams (W.kla_fn (aky "<lambda>") q params body scope [] D (.ref c) j) ⟨[u],[]⟩=pure [(p1,u)])
  (h:∀(f c:Addr)(A:akL)(s:akj)(H:aw),cA k (A.deeper (amP q scope s.heap.objs.size f (.ref c)))->ba (gU eA X.prog X.w X.K X.mg X.base N q scope f (.ref c) A X.stack s H i3).gA body m)
  (i:ba X e cO) (y:aoq params X.env=([],[]):=by rfl) (x:amE scope X.env=pure []:=by rfl)
  (he:akJ pos (ake [e] X.env)=(false,eval e X.env)::akJ pos (ake [] X.env):=by rfl)
  (ax:ake [e] X.env=(false,eval e X.env)::ake [] X.env:=by rfl)
  (l:(akJ pos (ake [e] X.env)).any (·.1)=false:=by rfl) :
  ba X (.Call (.Name "max" p) [e] [⟨some (aky "key"),.Lambda params body scope r,kp⟩] pos) (x4 (fnOf 1 N.length (a4 m)) cO):=
 ⟨Td g n a L B z d b t (λf c A s H a=>(h f c A s H a).un) i.un y x he ax l⟩
end
omit [aB.a5]in
section
open c5
variable{prog:akC}{w:World}{A:akL}{E:dj}{s:akj}
omit [aB.a5]in
theorem UL{t bh:Addr}{a:Array Value}{c d:Value}{lo hi:Option Int}{Q:dj}(b:IsTup s.heap t a)(ax:s.heap.IsSliceOf bh c d .none)(pl:anc c lo)(f:anc d hi)
  (hw:cw a.size 0 lo=0/\cw a.size a.size hi=a.size)
  (h:Q (.ref t) s):wpAny (model prog w) A (anu (.ref t) (.ref bh)) Q E s:=by
 obtain⟨os,g,i,j⟩:=id ax;have e:s.TypeIs (.ref bh) "slice":=⟨os,g,i⟩;unfold anu
 try with_reducible refine alL ?_
 first|refine akc (akm ?_)|skip
 refine akc (wpAny_sequenceKey b.typeIs (by decide) ?_);refine akc (alP (name:=aky "__getitem__") b.typeIs aln
  (amt aln b.typeIs entry_tuple_getitem ?_ (args_tuple_getitem _ _)))
 show wpAny _ _ (aod (.ref t) >>= _) _ _ s;refine akc (tupleItemsOf_ b ?_);refine akc (wpAny_typeOf e ?_);rw[if_pos (by decide)];refine akc (Pu ax pl f ?_);rw[hw.1,hw.2];show wpAny _ _ (if((((0:Nat):Int))==0&&(1:Int)==1&&(a.size-0)==a.size)=true then _ else _) _ _ s;rw[if_pos (by simp)];refine akc (m:=Builtin.Tuple.tupleIsExact _) (akc (wpAny_typeOf b.typeIs (akm ?_)));rw[if_pos (by decide)];refine akc (aop ?_)
 first
  |exact akc (akm (akm ⟨_,rfl,akm h⟩))
  |exact akc (akm ⟨_,rfl,akm h⟩)
  |exact akm ⟨_,rfl,akm h⟩
omit [aB.a5]in
omit [aB.a5]in
omit [aB.a5]in
end
def ad8(K:aO):V->Option Int->Option Int->aw->cU->Prop:=λx lo hi H Q=>∃a xs,x=.ref a/\dy K H a xs/\(c5.cw xs.length 0 lo=0/\c5.cw xs.length xs.length hi=xs.length)/\Q (.ref a) H
omit [aB.a5]in
theorem aeG:nP X (ad8 X.K):=by
 intro zn s U H x v g i lo hi bh Q J d ax pl f h;obtain⟨a,xs,rfl,e,hw,q⟩:=h;cases d;obtain⟨its,r,c,hz⟩:=J.tuple e;have b:its.toArray.size=xs.length:=by rw[ako];exact r.length.symm
 refine⟨"tuple",_,aln.lookup,c.typeIs,?_⟩;exact UL c ax pl f (by rw[b];exact hw) ⟨.ref a,H,J,rfl,q⟩
def EY(x:R)(lo hi:Option Int):M R:=
 match x with
 |.v (.t xs)=>pure (.v (.t (cutD xs lo hi)))|_=>bad
@[simp] def Cb(a:bx)(lo hi:lG)(U:aM):M R:=do
 let x <-a U
 let l <-lo U
 let h <-hi U
 EY x l h
def Tu{α:Type}{xs:List α}{lo hi:Option Int}(h:c5.cw xs.length 0 lo=0/\c5.cw xs.length xs.length hi=xs.length):cutD xs lo hi=xs:=by
 unfold cutD;rw[h.1,h.2,anV,Nat.sub_zero,alD (akk _)]
section
variable{X:aT}{e st:Expr}{m:bx}{lo hi:Option Expr}{lj p0:lG}{pos ck p:Pos}
theorem agu(he:ba X e m)(hl:pv X lo lj)(I:pv X hi p0):ba X (.Subscript e (.Slice lo hi none ck) pos) (Cb m lj p0):=⟨er (Fc (aeG.or Pt) he.un hl.un I.un) λV H Q B=>by
 obtain⟨O,U,S,r,T,st,h,q⟩:=B;obtain⟨x,S1,D,k⟩:=M.inv h;clear h;obtain⟨l,i,E,j⟩:=M.inv k;clear k;obtain⟨u,L,F,h⟩:=M.inv j;clear j;refine⟨O,U,S,x,S1,st,D,λz Y P K A y bw=>?_⟩;refine⟨z,U,S1,l,i,A,E,λG R t bL=>?_⟩;refine⟨G,U,i,u,L,bL,F,λn W w s=>?_⟩;have g:=(K.trans t).trans w;have N:=y.go (t.trans w);unfold EY at h;split at h
 .rename_i xs
  cases h;obtain⟨a,ys,rfl,f,b⟩:=N
  by_cases c:c5.cw xs.length 0 l=0/\c5.cw xs.length xs.length u=xs.length
  .refine .inl ⟨a,ys,rfl,f,by rw[b.len];exact c,?_⟩
   rw[Tu c]at q;exact q n _ _ g s ⟨a,ys,rfl,f,b⟩ trivial
  .exact .inr ⟨a,ys,rfl,f,by rw[b.len];exact c,λp d=>q n _ _ (g.trans (Go.hg d)) (s.hg d) ⟨p,_,rfl,dy.of d6,(b.cut l u).go (Go.hg d)⟩ trivial⟩
 .cases h⟩
end
omit [aB.a5]in
@[simp] theorem ai6{l h:Option Int}:EY (.v (.t xs)) l h=pure (.v (.t (cutD xs l h))):=rfl
end aF
namespace aF
open PySem PySem.Spec aB
variable[aB.a5]
section
variable{X:aT}{o e f value b:Expr}{az:List Expr}{c:Str}{ns:List Str}{mo:bx}{ms:cZ}{mv:eV}{pos pos' apos dK:Pos}{g:List D->List R->M (R×List D)}{r:V->List V->aw->cU->Prop}{name:Str}{id:String}
theorem Qo(T:mI X.K X.mg c ns){f:Str}(hf:f∈ns)(G:ba X o mo)(V:fX X value mv)(ax:alW value (some (.Attribute o f pos')) pos.line X.env=pure false:=by rfl):gg X (.Assign [.Attribute o f pos'] value pos) (dT c f mo mv):=⟨gL (adG G.un V.un ax) λD R H M=>by
 obtain⟨O,U,S,aI,ao,st,h,q⟩:=M;obtain⟨r,S1,P,s⟩:=N.inv h;clear h;obtain⟨d,aZ,Q,p⟩:=N.inv s;clear s;obtain⟨x,hs,t,A⟩:=N.inv p;clear p;obtain⟨bc,r1,u,h⟩:=N.inv A;clear A;refine⟨O,U,S,r,S1,st,P,λL v H1 Z m Y nn=>?_⟩;obtain⟨c_,rfl⟩:=pC (H₀:=H) Y nn Q;obtain rfl:=(mo U).e_ _ _ _ t;refine⟨cD H L,U,_,x,_,(m.cD H).s3,t,λW f' aK i bL F bw=>?_⟩;have B:=(m.cD H).go i bL.cv;obtain⟨n,b,rfl,rfl,I,sn,J⟩:=wk bL F u;obtain rfl:=(hJ (.v (.ref n))).e_ _ _ _ u;split at h
 .rename_i c' aU
  split at h
  .rename_i yE
   obtain⟨rfl,E⟩:=yE;cases h;obtain⟨C,a,j,y,w,l⟩:=J;obtain⟨kV,av,aE,_,eJ⟩:=T.ex;cases av.symm.trans w.1;refine⟨b,C,a,j,rfl,y,aE,eJ f hf,by rw[l.len];exact E,?_⟩;obtain⟨o2,my⟩:=B.write (u':=.ins C a (h7 f v j)) (o:=.bc c' (h6 f d aU)) I y (by rintro(⟨_,z⟩|⟨_,_,z⟩)<;>cases z) (by intro _ z;cases z) (by intro _ z;cases z) λk=>
    ⟨C,a,_,d6,w,(OT (f:=f) (v:=v) j).symm▸fC.h6 f (k _ _ (Rep.go i c_)) ⟨l.1,l.2.imp k⟩⟩
   exact q W R _ ((Z.cD.trans i.de).trans o2).ed my
  .cases h
 .cases h⟩
theorem Qp(slot:PySem.Slot "list" name id)(ob:typeOf (.builtin id)=pure (.type "method_descriptor"))(Z:uv X id r)(Y:rQ X.K X.mg r g)(F:ba X o mo)(d:gv X (e::az) ms)
  (J:alU o name X.env (eval o X.env)=eval o X.env:=by rfl)
  (q5:((akJ dK (ake (e::az) X.env)).all (λx=>!x.1)&&(alV dK (alp [] X.env)).all (λx=>x.1.isSome)
&&decide ((e::az).length+([]:List ana).length+(if([]:List ana).isEmpty then 0 else 1)<30))=true:=by rfl)
  (lZ:(apos.endLine==dK.line)=true:=by rfl) (ax:ake (e::az) X.env=(false,eval e X.env)::ake az X.env:=by rfl) (W:(akJ dK (ake az X.env)).any (·.1)=false:=by rfl)
  (C:alW (.Call (.Attribute o name apos) (e::az) [] dK) none pos.line X.env=pure false:=by rfl):gg X (.Expr (.Call (.Attribute o name apos) (e::az) [] dK) pos) (nH g mo ms):=
 ⟨gL (Ff (E' aoE slot ob Z F.un d.un J q5 lZ ax W) C) λD P H M=>by
  obtain⟨O,U,S,aI,ao,st,h,q⟩:=M;obtain⟨x,S1,s,d⟩:=N.inv h;clear h;obtain⟨rs,aZ,t,p⟩:=N.inv d;clear d;obtain⟨bc,r1,w,h⟩:=N.inv p;clear p;obtain rfl:=(mo U).e_ _ _ _ s;obtain rfl:=(ms U).e_ _ _ _ t;refine⟨O,U,_,x,_,st.s3,s,λI f' i A m E bw=>?_⟩;obtain⟨n,b,rfl,rfl,G,sn,V⟩:=wk m E w;obtain rfl:=(hJ (.v (.ref n))).e_ _ _ _ w;split at h
  .rename_i xs
   obtain⟨⟨bG,ys⟩,uA,T,h⟩:=N.inv h;cases h;obtain⟨zs,y,Q⟩:=V;refine⟨.inl ⟨rfl,_,dr.of y⟩,I,U,_,rs,_,m,t,λu vs L a bL R nn=>?_⟩;have yO:u.bI[n]? = some b:=by rw[a.bI];exact G
   have j:=a.same.at' _ _ y;refine Y u L i b xs zs rs vs _ _ _ ys _ j (Q.go a) R nn T λv ws az rw _=>?_
   subst az;have B:=(st.go (A.trans a) bL.cv).cD i;obtain⟨o2,my⟩:=B.write (u':=.l ws) (o:=.l ys) yO j (by rintro(⟨_,z⟩|⟨_,_,z⟩)<;>cases z) (by intro _ z;cases z) (by intro _ z;cases z) λk=>⟨_,d6,rw.imp k⟩
   exact q _ P _ ((A.trans a.cD).de.trans o2).ed my
  .cases h⟩
end
def Zf{P:akC}{w:World}{K:aO}{mg:bp}{base:Heap}{f:Addr}{c:alo}{k:Nat}{mf:d2}(F:e2 P w K mg base eA k f c ["script"] (hM K mg mf))
  (h:∀ns:List Int,ns.length<=63->∃b,(mf [.l (ns.map D.int)]).run []=.ok (.v (.ay true)) b):e2 P w K mg base eA k f c ["script"] (wY K):=by
 refine F.imp λvs H Q E g=>?_
 obtain⟨a,ns,e,n,d,cC,q⟩:=g;subst e;obtain⟨b,h'⟩:=h ns d;refine⟨⟨λ_=>.free,[]⟩,[.l (ns.map D.int)],_,[],b,⟨λa i=>absurd rfl i,cC,anY,λa m=>by cases m⟩,fW.nil,rfl,⟨_,_,rfl,⟨a,_,rfl,n.imp (λz=>⟨z,by simp⟩) id,Pd ns⟩,rfl⟩,h',λp v H' _ _ _ _ j _=>?_⟩;cases(show v=.ay true from j);exact q H'
section
variable{K:aO}{mg:bp}{O:a8}{H H':aw}{S:bJ}{U:aM}{aq:St}{p:Addr}{o:gd}
def dx.adopt(st:dx K mg O U S aq H)(E:p∉O.bI)(nl:∀i,O p≠.loc i)(same:∀b,b≠p->H' b=H b)(I:H' p≠none)(kp:H' p=H p\/∀u,H p=some u->¬Fix u/\∀ys,u≠.l ys)(k:O p=.free\/O p=.out->∀u,H p=some u->(∀ys,u≠.l ys)/\¬Fix u)(b1:TabsOk H->TabsOk H')
  (bc:(∀d v,Rep K mg O H d v->Rep K mg (hh O p) H' d v)->nM K mg (hh O p) H' p o):dx K mg (hh O p) U (S++[o]) aq H'/\(hh O p).bI[S.length]? = some p:=by
 have j:=st.s3.cv;have A:(hh O p).bI[S.length]? = some p:=by show(O.bI++[p])[S.length]? = _;rw[<-st.full,akz (akk _),amw];rfl
 have hD:ff O (hh O p) H H':=⟨λb u e h _=>by
  by_cases c:b=p
  .subst c
   rcases kp with kp|kp
   .rw[kp];exact e
   .obtain⟨eo,dW⟩:=kp u e
    exact h.elim (λz=>absurd z.2.2.choose_spec (dW _)) λz=>absurd z eo
  .rw[same b c];exact e,λb ys e f=>by
   rw[oD (by rintro rfl;exact(k (.inl f) _ e).1 ys rfl)];exact f,am6 _ _⟩
 have f:∀d v,Rep K mg O H d v->Rep K mg (hh O p) H' d v:=λ_ _ z=>Rep.hD hD j.cf z
 have c_:∀{b:Addr}{a:List V},hr H b (.l a)->(O b=.free\/O b=.out)->b≠p:=λ{b a} h D=>by
  rintro rfl;rcases h with h|⟨x,h⟩
  .exact(k D _ h).1 a rfl
  .exact(k D _ h).2 (.inr ⟨_,_,rfl⟩)
 have F:∀{b:Addr}{a:List V},b≠p->hr H b (.l a)->hr H' b (.l a):=λ{b a} nb h=>by unfold hr;rw[same b nb];exact h
 refine⟨⟨⟨⟨λb B=>?_,b1 j.tabs,N6 j E⟩,st.s3.len,λi s e=>?_,λn L e=>?_⟩,?_,λi t e=>?_⟩,A⟩
 .by_cases c:b=p
  .rw[c];exact I
  .rw[oD c]at B;rw[same b c];exact j.has b B
 .have lo:=st.s3.loc i s e
  cases s with
  |e=>exact trivial|v d=>obtain⟨v,q,r⟩:=lo;exact⟨v,q,f _ _ r⟩
  |dB M t=>
         obtain⟨b,a,q,G,g,r⟩:=lo;have nb:b≠p:=by rintro rfl;exact nl i G
         exact⟨b,a,q,(oD nb).trans G,by rw[same b nb];exact g,r.imp f⟩
  |bN t=>obtain⟨b,a,q,g,r⟩:=lo;exact⟨b,a,q,g.imp (λz=>⟨F (c_ z.1 z.2) z.1,by rw[oD (c_ z.1 z.2)];exact z.2⟩) id,r.imp f⟩
 .by_cases y:n<S.length
  .rw[akD y]at e
   obtain⟨b,av,aE⟩:=st.s3.gn n L e;have nb:b≠p:=by rintro rfl;exact E (akM av)
   exact⟨b,by show(O.bI++[p])[n]? = _;rw[akD (by rw[st.full];exact y)];exact av,aE.all f λ_ l _=>by rw[same b nb];exact l⟩
  .rw[akz (by omega)]at e
   obtain rfl:n=S.length:=by
    have:=(akd.mp e).1;simp at this;omega
   rw[amw]at e;cases e;exact⟨p,A,bc f⟩
 .show(O.bI++[p]).length=_
  rw[akg,akg,st.full];rfl
 .obtain⟨b,a,q,g,r⟩:=st.qf i t e
  exact⟨b,a,q,g.imp (λz=>⟨F (c_ z.1 z.2.1) z.1,by rw[oD (c_ z.1 z.2.1)];exact z.2.1,λm=>(alc.mp m).elim z.2.2 λw=>c_ z.1 z.2.1 (akF.mp w)⟩) id,r.imp f⟩
theorem eu.adopt{d:a8}{H₀:aw}(g:eu d O H₀ H)(c:H₀ p=none)(same:∀b,b≠p->H' b=H b)(b1:TabsOk H->TabsOk H'):eu d (hh O p) H₀ H':=by
 have nb:∀{b:Addr},H₀ b≠none->b≠p:=λh=>by rintro rfl;exact h c
 exact⟨λb o e h n=>by rw[same b (nb (h_ e))];exact g.cells b o e h n,λb a=>(oD (nb a)).trans (g.own b a),λb a=>by rw[same b (nb a)];exact g.has b a,
  λb ps e=>by rw[same b (nb (h_ e))];exact g.cC b ps e,λt=>b1 (g.b1 t),g.bI.trans (am6 _ _),λb m=>(alc.mp m).elim (g.new b) λz=>.inr (by rw[akF.mp z];exact c)⟩
end
section
variable{X:aT}{e:Expr}{m:eV}
def ahd(he:fX X e m):fX X e (lB m):=⟨er he.un λE H Q j=>by
 obtain⟨O,U,S,r,D,st,h,q⟩:=j;obtain⟨x,S1,k,b⟩:=N.inv h;clear h;refine⟨O,U,S,x,S1,st,k,λA v c w d u nn=>?_⟩;split at b
 .rename_i xs
  obtain⟨F,B,n,h⟩:=N.inv b;clear b;cases n;cases h;obtain⟨a,ys,rfl,l,t,s⟩:=u;obtain⟨y,g⟩:=d.adopt (H':=c) (p:=a) (o:=.l xs) (d.s3.cv.cf.no t (by intro z;cases z)) (λi z=>by rw[t]at z;cases z) (λ_ _=>rfl) (h_ l) (.inl rfl) (λz=>by rw[t]at z;rcases z with z|z<;>cases z) id λf=>⟨ys,l,s.imp f⟩
  exact q _ _ c (w.adopt (nn a rfl) (λ_ _=>rfl) id) y ⟨a,rfl,g⟩ trivial
 .cases b⟩
end
structure A6(K:aO)(x qual:Str)(st:Stmt)(f:Addr)(fd:alo):Prop where
 ex:∃(dE:Value)(c9:Option Addr)(qH du doc pm:Value)(an:Option Addr)(bQ cm:Value)(f6:Array (Option Value)),
  fd=al9 x qual (iP st) (fJ st) (dd st) qH du doc pm an bQ cm/\K.lookup f=some ⟨dE,c9,.func fd,f6⟩/\anR K bQ qual=true
 kp:amc K (.ref f)=true
def A6.ok{P:akC}{w:World}{K:aO}{mg:bp}{base:Heap}{x qual:Str}{st:Stmt}{f:Addr}{b:alo}{N ps:List Str}{k:Nat}{sp:en}(F:A6 K x qual st f b)(S:gQ N ps (dd st))(len:∀vs H Q E,sp vs H Q E->vs.length=ps.length)
  (j:∀(a:Value)(A:akL)(outer:List Env)(s:akj)(H:aw)(vs:List V)(Q:cU)(E:gw),cA k (A.deeper (alk qual (dd st) s.heap.objs.size f a))->sp vs H Q E->
   ∃t,ij (gU eA P w K mg base N qual (dd st) f a A outer s H E).gA (fJ st) t/\t { bw:=λ_ H'=>Q .aJ H',cn:=Q } (start N vs) H):e2 P w K mg base eA (k+1) f b ps sp:=by
 obtain⟨dE,m,r,du,d,p,l,a,cm,n,rfl,i,e⟩:=F.ex;refine CU i e S len λA outer s H vs Q E c g=>?_
 obtain⟨t,h,q⟩:=j a A outer s H vs Q E c g;exact⟨t,h.gA,q⟩
structure A5(K:aO)(mg:bp)(c m qual:Str)(st:Stmt)(ps:List Str):Prop where
 ex:∃C f fd,mg c=some (.ref C)/\i2 K C/\Meth K C m f/\A6 K m qual st f fd/\Binds K fd ps []/\Binds K fd ps [.none]
structure A7(P:akC)(w:World)(K:aO)(mg:bp)(base:Heap)(c m:Str)(ps:List Str)(k:Nat)(sp:en):Prop where
 all:kn P w K mg base c m ps k sp
 ex:∃C f fd,mg c=some (.ref C)/\i2 K C/\Meth K C m f/\e2 P w K mg base eA k f fd ps sp/\Binds K fd ps [.none]
def Vn{P:akC}{w:World}{K:aO}{mg:bp}{base:Heap}{c m qual:Str}{st:Stmt}{ps N:List Str}{k:Nat}{d:bX}{n nl:Nat}(gP:A5 K mg c m qual st ps)(i:gQ N ps (dd st))(j:ps.length=n)(hl:N.length=nl)
  (p:∀(f:Addr)(a:Value)(A:akL)(outer:List Env)(s:akj)(H:aw)(E:gw),cA k (A.deeper (alk qual (dd st) s.heap.objs.size f a))->
   ip (gU eA P w K mg base N qual (dd st) f a A outer s H E).gA (fJ st) d):A7 P w K mg base c m ps (k+1) (hM K mg (fnX n nl d)):=by
 obtain⟨C,f,g,e,cl,me,F,x,b⟩:=gP.ex;subst j hl;have ok:=F.ok (P:=P) (w:=w) (mg:=mg) (base:=base) (sp:=hM K mg (fnX ps.length N.length d)) i (λvs H Q E ⟨O,ds,r,S,z,B,dX,y,t,h,q⟩=>t.r.len.trans (CR h)) λa A outer s H vs Q E l u=>⟨_,(p f a A outer s H E l).un,IU u⟩
 exact⟨⟨C,f,g,e,cl,me,ok,x⟩,⟨C,f,g,e,cl,me,ok,b⟩⟩
omit [aB.a5]in
theorem I_{K:aO}{h:Heap}{mg:bp}{c:Str}{C:Addr}{aU:List Str}(X:K.In h)(G:h.Ns akP mg)(a:ang K akP c=some (some (.ref C)))
  (kL:aoo K C Str.empty=true) (hd:aoK K C=true) (po:W.plainOver K C=true) (mr:amj K (.ref C) "__setattr__"=some (some (.builtin "object.__setattr__"))) (mk:W.makesIn K C=true) (vz:amc K (.ref C)=true)
  (na:∀f∈aU,amj K (.ref C) f=some none):mI K mg c aU:=⟨C,anT X G a,⟨kL,hd,po,mr⟩,⟨mk,vz⟩,na⟩
omit [aB.a5]in
theorem K0{K:aO}{h:Heap}{mg:bp}{c m qual:Str}{C f:Addr}{aU ps:List Str}{st:Stmt}{t b:Option Addr}{bh:Array (Option Value)}{dE du u g cd cm:Value}(X:K.In h)(G:h.Ns akP mg)(T:mI K mg c aU)(a:ang K akP c=some (some (.ref C)))
  (e:amj K (.ref C) m=some (some (.ref f))) (i:W.isFn K (.ref f)=true) (l:K.lookup f=some ⟨dE,t,.func (al9 m qual (iP st) (fJ st) (dd st) .none du u g b cd cm),bh⟩) (p:anR K cd qual=true) (k:amc K (.ref f)=true)
  (q:∀(du d g:Value)(b:Option Addr)(s cm:Value)(us:List Value),us.length=ps.length->ams (al9 m qual (iP st) (fJ st) (dd st) .none du d g b s cm) ⟨us,[]⟩=pure (ps.zip us)):xo K mg c m qual st ps:=by
 obtain⟨w,j,r,_⟩:=T.ex;have n:=anT X G a;rw[j]at n;cases n;exact⟨_,f,_,j,r,⟨e,i,k⟩,yt (st:=st) l p k,(yt (st:=st) l p k).binds q⟩
omit [aB.a5]in
theorem K1{K:aO}{h:Heap}{mg:bp}{c m qual:Str}{C f T:Addr}{aU ps:List Str}{st:Stmt}{B b u:Option Addr}{bh w:Array (Option Value)}{dE du p d cd cm r:Value}{j eT:Nat}(X:K.In h)(G:h.Ns akP mg)(D:mI K mg c aU)(a:ang K akP c=some (some (.ref C)))
  (e:amj K (.ref C) m=some (some (.ref f))) (i:W.isFn K (.ref f)=true) (l:K.lookup f=some ⟨dE,B,.func (al9 m qual (iP st) (fJ st) (dd st) (.ref T) du p d b cd cm),bh⟩) (t:K.lookup T=some ⟨r,u,.seq #[.none] eT,w⟩) (I:anR K cd qual=true) (k:amc K (.ref f)=true) (A:ps.length=j+1)
  (E:∀(du g d:Value)(b:Option Addr)(x cm:Value)(us:List Value),us.length=j+1->∃n,ams (al9 m qual (iP st) (fJ st) (dd st) (.ref T) du g d b x cm) ⟨us,[]⟩=anz (.ref T) >>= n/\n (some #[.none])=pure (ps.zip us))
  (H:∀(du g d:Value)(b:Option Addr)(x cm:Value)(us:List Value),us.length=j->∃n,ams (al9 m qual (iP st) (fJ st) (dd st) (.ref T) du g d b x cm) ⟨us,[]⟩=anz (.ref T) >>= n/\n (some #[.none])=pure (ps.zip (us++[.none]))):A5 K mg c m qual st ps:=by
 obtain⟨L,y,F,_⟩:=D.ex;have z:=anT X G a;rw[y]at z;cases z;refine⟨_,f,_,y,F,⟨e,i,k⟩,⟨⟨dE,B,_,du,p,d,b,cd,cm,bh,rfl,l,I⟩,k⟩,λs us q hl=>?_,λs us q hl=>?_⟩
 .rw[alx]at hl ⊢
  obtain⟨n,av,aE⟩:=E du p d b cd cm us (hl.trans A);exact aoZ rfl (q _ _ t) rfl av aE
 .rw[akg,A]at hl
  obtain⟨n,av,aE⟩:=H du p d b cd cm us (by simpa using hl);exact aoZ rfl (q _ _ t) rfl av aE
end aF
namespace aF
open PySem PySem.Spec aB
def uf(c:aM->N Bool)(b:bX):Nat->bX
 |0=>λ_=>h5
 |n+1=>λU=>do
  let t <-c U
  if t=true then do
   let a <-b U
   match a with
   |.bw U'=>uf c b n U'|.cm U'=>uf c b n U'|.bk U'=>pure (.bw U')|.cn r=>pure (.cn r)
  else pure (.bw U)
def AM(c:aM->N Bool)(b:bX):bX:=uf c b o3
def AL(mo mk:bx)(mv:eV):bX:=λU=>do
 let r <-mv U
 let d <-r.dat.up
 let x <-(mo U).up
 let k <-(mk U).up
 let o <-(hJ x).up
 match o,k with
 |.l xs,.v (.int i)=>(if 0<=i/\i<xs.length then(do
  FJ x (.l (xs.set i.toNat d))
  pure (.bw U))else h5)
 |_,_=>h5
def AS(el:eV)(U:aM):List D->N (List D)
 |[]=>pure []|d::ds=>do
  let r <-el (U.set 0 (.v d))
  match r with
  |.v x=>do
   let xs <-AS el U ds
   pure (x::xs)
  |_=>h5
def xb(n:Nat)(cap:List Nat)(it:fP)(el:eV):eV:=λU=>do
 let ds <-(it U).up
 if ds.length<aki then(do
  let xs <-AS el (hy n cap U) ds
  pure (.fr xs))else h5
variable[aB.a5]
section
variable{K:aO}{mg:bp}{O ak aG:a8}{H H' H1:aw}{S ao:bJ}{U:aM}{aq:St}{t:aM->N Bool}{b:bX}{l:Addr}{zs ws:List V}
theorem agB:∀D aq H,o_ K mg (AM t b) D aq H->F1 (Ql K mg t) (o_ K mg b) D aq H:=by
 rintro D aq H ⟨O,U,S,s,ao,st,h,q⟩;refine⟨λm p H'=>∃ak U' k,dx K mg ak U' k p H'/\gp O ak H H'/\(uf t b m U').run k=.ok s ao,⟨o3,O,U,S,st,(d7.refl _ _).ed,h⟩,?_⟩;rintro m p H' ⟨ak,U',k,B,g',h⟩
 cases m with
 |zero=>cases h
 |succ n=>
  obtain⟨tt,S1,x,h⟩:=N.inv h;refine⟨ak,U',k,tt,S1,B,x,λaG H1 g u=>?_⟩;have g:=g'.trans g.ed
  cases tt with
  |false=>
   rw[if_neg akl]at h;cases h;exact og (q aG p H1 g u)
  |true=>
   rw[if_pos rfl]at h;obtain⟨w,f,y,h⟩:=N.inv h;refine oh ⟨λj d=>∃c e f,dx K mg c e f j d/\gp O c H d/\(uf t b n e).run f=.ok s ao,?_,aG,U',S1,w,f,u,y,?_⟩
   .rintro j d ⟨c,e,f,a⟩
    exact⟨n,ano _,c,e,f,a⟩
   .cases w with
    |bw e=>exact λc j d i bL=>⟨c,e,f,bL,g.trans i,h⟩
    |cm e=>exact λc j d i bL=>⟨c,e,f,bL,g.trans i,h⟩
    |bk e=>cases h;exact λc j d i bL=>q c j d (g.trans i) bL
    |cn r=>cases h;exact λc v d i A aE E z=>q c v d (g.trans i) A aE E z
def dx.t9(st:dx K mg O U S aq H)(c:O l=.dq)(hl:H l=some (.l zs)):dx K mg O U S aq (upd H l (.l ws)):=
 ⟨st.s3.t9 c hl,st.full,λi xs e=>by
  obtain⟨a,ys,av,w,r⟩:=st.qf i xs e;refine⟨a,ys,av,w.imp (λz=>⟨?_,z.2⟩) id,r.ea (by rw[c];intro z;cases z) hl⟩;have ne:a≠l:=by
   rintro rfl;rcases z.2.1 with f|f<;>rw[f]at c<;>cases c
  rcases z.1 with h|⟨o,h⟩
  .exact .inl (by rw[c2 ne];exact h)
  .exact .inr ⟨o,by rw[c2 ne];exact h⟩⟩
theorem dx.d4(st:dx K mg O U S aq H)(n:Nat)(cap:List Nat):dx K mg (d4 O) (hy n cap U) S (fY n cap aq) H:=⟨st.s3.d4 n cap,st.full,λi xs e=>by
 unfold hy at e;unfold fY
 by_cases hi:i<n
 .rw[akD (by simpa using hi),alO,if_pos hi]at e
  cases e
 .rw[akz (by simpa using hi),ak8,akA]at e
  rw[akz (by simpa using hi),ak8,akA]
  cases J:cap[i-n]? with
  |none=>rw[J]at e;cases e
  |some k=>
   rw[J]at e;have c:qG U[k]?=.bN xs:=akI e;show ∃a ys,(some (aq[k]?.join)).join=_/\_
   cases C:U[k]? with
   |none=>rw[C]at c;cases c
   |some f=>
    rw[C]at c
    cases f with
    |e=>cases c
    |v d=>cases c
    |bN zs=>
     cases c;obtain⟨a,ys,q,w,r⟩:=st.qf k _ C;exact⟨a,ys,q,w.imp (λz=>⟨z.1,k2 O a,z.2.2⟩) id,r.c6 (jX O)⟩
    |dB p zs=>
     cases c;obtain⟨a,ys,q,o,l,r⟩:=st.s3.loc k _ C;exact⟨a,ys,q,.inl ⟨.inl l,k2 O a,st.s3.cv.cf.no o (by intro z;cases z)⟩,r.c6 (jX O)⟩⟩
def t7(H1:aw)(aG ak:a8):a8:=⟨λb=>match H1 b with|none=>ak b|some _=>aG b,ak.bI⟩
omit [aB.a5]in
theorem F8{b:Addr}(a:H1 b≠none):t7 H1 aG ak b=aG b:=by
 show(match H1 b with|none=>ak b|some _=>aG b)=aG b
 cases e:H1 b with
 |none=>exact absurd e a|some _=>rfl
omit [aB.a5]in
theorem AA{b:Addr}(a:H1 b=none):t7 H1 aG ak b=ak b:=by
 show(match H1 b with|none=>ak b|some _=>aG b)=ak b;rw[a]
theorem Az(g:eu (d4 aG) ak H1 H'):eu aG (t7 H1 aG ak) H1 H':=⟨λb o e h n=>g.cells b o e h n,λ_ a=>F8 a,g.has,g.cC,g.b1,g.bI,g.new⟩
theorem PZ(g:eu (d4 aG) ak H1 H'):lF ak (t7 H1 aG ak):=⟨λb c=>by
 by_cases a:H1 b=none
 .rw[AA a];exact c
 .rw[F8 a];exact nS.mp ((g.own b a).symm.trans c),rfl⟩
theorem afV(c:dx K mg aG U S aq H1)(g:eu (d4 aG) ak H1 H')(d:dg ak H')(dX:fW K mg ak H' ao)(f:ak.bI.length=ao.length):dx K mg (t7 H1 aG ak) U ao aq H':=
 c.de (Az g) ⟨λb e=>by
  by_cases a:H1 b=none
  .rw[AA a]at e;exact d.has b e
  .exact g.has b a,d.tabs,d.cf.1,λb m=>by
  by_cases a:H1 b=none
  .rw[AA a];exact d.cf.2 b m
  .rw[F8 a]
   rcases g.new b m with z|z
   .exact c.s3.cv.cf.2 b z
   .exact absurd z a⟩ (dX.all (λ_ _ z=>Rep.c6 (PZ g) z) rfl λ_ _ _ l _=>l) f
theorem eu.t9(g:eu aG ak H1 H')(c:H1 l=none)(hl:H' l=some (.l zs)):eu aG ak H1 (upd H' l (.l ws)):=by
 have ne:∀b,H1 b≠none->b≠l:=λb a z=>a (z▸c)
 refine⟨λb o e h n=>?_,g.own,λb a=>?_,λb ps e=>?_,λt=>(g.b1 t).put _ (λps z=>by rw[hl]at z;cases z) (λq z=>by rw[hl]at z;cases z),g.bI,g.new⟩
 .rw[c2 (ne b (h_ e))];exact g.cells b o e h n
 .rw[c2 (ne b a)];exact g.has b a
 .rw[c2 (ne b (h_ e))];exact g.cC b ps e
variable{n:Nat}{cap:List Nat}{it:fP}{el:eV}
inductive QF(K:aO)(mg:bp)(n:Nat)(cap:List Nat)(el:eV)(aG:a8)(U:aM)(ao:bJ)(aq:St)(H1:aw)(A:Addr)(ds xs:List aF.D)(k:Nat)(zs:List V)(H':aw):Prop
 |mk (ak:a8) (e6:bJ) (acc o9:List aF.D) (cp:dx K mg ak (hy n cap U) e6 (fY n cap aq) H') (g':eu (d4 aG) ak H1 H') (oT:ak A=.dq) (dz:H' A=some (.l zs)) (hz:zs.length<=k)
   (kj:bl K mg ak H' acc zs) (h:(AS el (hy n cap U) (ds.drop k)).run e6=.ok o9 ao) (ex:acc++o9=xs)
theorem To(o:0<n):∀aq H Q,xf K mg (xb n cap it el) aq H Q->t2 n cap (F7 K mg it) (kz 0) F0 (xf K mg el) aq H Q:=by
 rintro aq H Q ⟨O,U,S,r,ao,st,h,q⟩;obtain⟨ds,S1,J,h⟩:=N.inv h
 by_cases c:ds.length<aki
 case neg=>rw[if_neg c]at h;cases h
 rw[if_pos c]at h;obtain⟨xs,hs,bD,h⟩:=N.inv h;cases h;refine⟨O,U,S,ds,S1,st,J,λaG H1 cu ys V i its E D g=>?_⟩;have ajz:=E.len;have iB:dx K mg (f_ (aF.d4 aG) D .dq) (hy n cap U) S1 (fY n cap aq) (upd H1 D (.l [])):=(i.d4 n cap).go (Go.new g) ((i.s3.d4 n cap).new g).cv;refine⟨λk m zs H'=>m=ys.length-k/\k<=ys.length/\QF K mg n cap el aG U ao aq H1 D ds xs k zs H',
  ⟨_,rfl,akY _,_,S1,[],xs,iB,(Go.new g).de,mx,d6,akk _,rfl,bD,rfl⟩,?_⟩
 rintro k m zs H' ⟨rfl,au,ak,e6,acc,o9,f,g',M,F,hz,Y,h,ex⟩;have ed:=(Az g').ed
 cases e:ds.drop k with
 |nil=>
  have hl:ys.length<=k:=by
   have:=congrArg al0 e;rw[alj,alz]at this;omega
  rw[e]at h;cases h;rw[alx]at ex;subst ex;refine .inl ⟨(its _ H' ed k).2 hl,?_⟩;refine q (t7 H1 aG ak) (.ref D) H' (V.de.trans (Az g')) (afV i g' f.s3.cv f.s3.gn f.full) ⟨D,zs,rfl,F,(AA g).trans M,Y.c6 (PZ g')⟩ λa dh=>?_
  cases dh;exact V.same.free g
 |cons d hA=>
  obtain⟨y,I,b7,bC⟩:=(E.de (Az g') i.s3.cv.cf).get' e;have T:k<ys.length:=(akd.mp I).1;obtain⟨go,mB⟩:=(its _ H' ed k).1 T;have B:Rep K mg ak H' d y:=(((E.c6 (jX aG)).de g' (i.s3.d4 n cap).cv.cf).get' e).elim λag1 z=>by
   obtain⟨W,ei,_⟩:=z;rw[I]at W;cases W;exact ei
  rw[e]at h;obtain⟨r,w,ah,h⟩:=N.inv h;refine .inr ⟨go,λx C kT=>?_⟩;obtain⟨aE,R⟩:=mB x C kT;subst aE;rw[I]at R;cases R;refine⟨(mK.refl _).set (by cases n with|zero=>exact absurd o (ak6 _)|succ j=>rfl),?_⟩;dsimp only[F0];rw[if_pos rfl];refine⟨ak,_,e6,r,w,f.set (s:=.v d) (λxs z=>by cases z) ⟨y,rfl,B⟩,ah,λG v X p L bt nn=>?_⟩
  cases r with
  |v x=>
   obtain⟨Z,QW,fZ,h⟩:=N.inv h;cases h;have A:D∉ak.bI:=f.s3.cv.cf.no M (by intro z;cases z);have u:X D=some (.l zs):=p.cells _ _ F (.inl A);have P:G D=.dq:=(p.own D (h_ F)).trans M;have fm:=g'.trans p;have tW:dx K mg G (hy n cap U) w (fY n cap aq) X:=f.de p L.s3.cv L.s3.gn L.full;have cf:=f.s3.cv.cf;exact⟨u,by omega,ys.length-(k+1),by omega,rfl,T,G,w,acc++[x],Z,tW.t9 P u,fm.t9 g u,P,d6,
    by rw[akg,alv];omega,((Y.de p cf).append (.one bt)).ea (by rw[P];intro z;cases z) u,by rw[bC];exact fZ,by rw[amL];exact ex⟩
  |_=>cases h
end
section
variable{X:aT}{o i value c:Expr}{body:List Stmt}{mo mk:bx}{mv:eV}{t:aM->N Bool}{b:bX}{pos pos' apos:Pos}
def aho(a:an2 (model X.prog X.w) X.A X.env X.dP)(e:uD X c t)(d:ip X body b):gg X (.While c body [] pos) (AM t b):=⟨gL (OQ a e.un d.un) agB⟩
theorem ahk(L:ba X o mo)(V:ba X i mk)(Y:fX X value mv)(ax:an9 [.Subscript o i pos'] value pos.line X.env=pure false:=by rfl)(hw:aoa [.Subscript o i pos'] value X.env=pure none:=by rfl)
  (g:(ala [.Subscript o i pos'] X.env).map (·.2)=[al8 (.Subscript o i pos') X.env]:=by rfl)
  (a:∀v,al8 (.Subscript o i pos') X.env v=(do
   let bM <-alm [v] (eval o X.env)
   let j <-alm [v,bM] (eval i X.env)
   ama pos'
   alm [v,bM,j] (setItem bM j v)
   release [v,bM,j] []):=by intro _;rfl):gg X (.Assign [.Subscript o i pos'] value pos) (AL mo mk mv):=⟨gL (ON Y.un (OI L.un V.un set_list a) ax hw g) λD T H Q=>by
 obtain⟨O,U,S,aI,ao,st,h,q⟩:=Q;obtain⟨r,S1,g,a⟩:=N.inv h;clear h;obtain⟨d,aZ,R,p⟩:=N.inv a;clear a;obtain⟨x,hs,u,G⟩:=N.inv p;clear p;obtain⟨y,uA,B,hd⟩:=N.inv G;clear G;obtain⟨bc,r1,w,h⟩:=N.inv hd;clear hd;refine⟨O,U,S,r,S1,st,g,λP v H1 g1 m C nn=>?_⟩;obtain⟨c_,rfl⟩:=pC (H₀:=H) C nn R;obtain rfl:=(mo U).e_ _ _ _ u;obtain rfl:=(mk U).e_ _ _ _ B;refine⟨cD H P,U,_,x,_,(m.cD H).s3,u,λZ f' aK g2 bL K bw=>?_⟩;refine⟨Z,U,_,y,_,bL,B,λJ ua c4 F E W nu=>?_⟩;have e:=g2.trans F;have f:=(m.cD H).go e E.cv;obtain⟨n,b,rfl,rfl,M,sn,h8⟩:=wk E (K.go F) w;obtain rfl:=(hJ (.v (.ref n))).e_ _ _ _ w;split at h
 .rename_i xs ef
  by_cases c:0<=ef/\ef<xs.length
  .rw[if_pos c]at h
   cases h;obtain⟨I,A,s⟩:=h8;cases(show ua=.int ef from W);refine⟨b,I,ef,ef.toNat,rfl,rfl,A,?_,?_⟩
   .unfold ng
    rw[if_pos c.1,if_pos (by rw[s.len];exact c.2)]
   obtain⟨o2,my⟩:=f.write (u':=.l (I.set ef.toNat v)) (o:=.l (xs.set ef.toNat d)) M A (by rintro(⟨_,z⟩|⟨_,_,z⟩)<;>cases z) (by intro _ z;cases z) (by intro _ z;cases z) λk=>
    ⟨_,d6,bl.set (k _ _ (Rep.go e c_)) ef.toNat (s.imp k)⟩
   exact q J T _ ((g1.cD.trans e.de).trans o2).ed my
  .rw[if_neg c]at h;cases h
 .cases h⟩
theorem ahc{c m:Str}{ps:List Str}{k:Nat}{e:Expr}{mf:d2}{me:bx}{pl:Sem Bool}(h:A7 X.prog X.w X.K X.mg X.base c m ps k (hM X.K X.mg mf))(r:cA k X.A)(he:ba X o mo)(s:ba X e me)
  (l:ake [e] X.env=(false,eval e X.env)::ake [] X.env:=by rfl) (I:(akJ pos (ake [] X.env)).any (·.1)=false:=by rfl)
  (y:eval (.Call (.Attribute o m apos) [e] [] pos) X.env=(do
   let bM <-eval o X.env
   ama apos.atName
   let(f,first) <-alm [bM] (ame bM m pl)
   amG pos f first (akJ pos (ake [e] X.env)) (alV pos (alp [] X.env))):=by rfl):fX X (.Call (.Attribute o m apos) [e] [] pos) (dZ c m mf mo (eF (aa me (aa (af .aJ) aj)))):=by
 obtain⟨C,f,V,N,cl,oB,F,b⟩:=h.ex;refine⟨er (OD (dvs:=[.aJ]) (ds:=[.none]) he.un cl oB F r b (.cons rfl .nil) rx (wA s.un z2 l) l I y) λT H Q p=>rI _ _ _ _ (λv P z=>?_) (EJ _ _ _ p)⟩;obtain⟨a,W,D,aU,L,n,G,hl,O,U,S,rs,R,st,h,q⟩:=z;rw[N]at n;cases n;obtain⟨x,S1,d,h⟩:=M.inv h;cases h;refine⟨a,D,aU,L,G,hl,O,U,S,x,_,st.s3,d,λu j H' g E B nn=>?_⟩;obtain rfl:=(me U).e_ _ _ _ d;exact q u [j,.aJ] H' g.de (st.go g E.cv) ⟨j,_,rfl,B,.aJ,[],rfl,rfl,rfl⟩ ⟨nn,trivial,trivial⟩
end
section
variable{X:aT}{scope esc:Scope}{EN N:List Str}{n:Nat}{cap:List Nat}{elt iter:Expr}{pos fy:Pos}{x:Str}{it:fP}{el:eV}
def ag9(S:kW esc scope EN N n cap)(c:0<n)(hi:xJ X (.Name x fy) iter it)(d:N[0]? = some x)(b:∀C a s H,Loc (cI X scope N C a s H).env.scope x/\(cI X scope N C a s H).env.scope.names.lookup x=some .local)
  (e:∀C a s H,fX (cI X scope N C a s H) elt el)
  (he:X.env.scope=esc:=by rfl) (hN:X.N=EN:=by rfl) (f:X.calm=true:=by rfl) (ax:∀x,alf iter X.env x=pure x:=by intro _;rfl):fX X (.ListComp elt [⟨.Name x fy,iter,[],0⟩] scope pos) (xb n cap it el):=
 ⟨er (Fb S hi.un (λC a s H=>tJ S.fM d (b C a s H).1 (.inr (b C a s H).2)) (λ_ _ _ _=>OH) (λC a s H=>(e C a s H).un) he hN f ax) (To c)⟩
end
end aF
namespace aF
open PySem PySem.Spec aB PyProof.Rows
variable[aB.a5]
def p_(a:Int)(n:Nat):List V:=(akG n).map λ(i:Nat)=>V.int (a+(i:Int))
def z9(a:Int)(n:Nat):List D:=(akG n).map λ(i:Nat)=>D.int (a+(i:Int))
omit [aB.a5]in
theorem afZ{xs:List V}{us:List Value}(hl:xs.length=us.length)(h:∀(i:Nat)(x:V)(u:Value),xs[i]? = some x->us[i]? = some u->RelV x u):Vals xs us:=by
 induction xs generalizing us with
 |nil=>
  cases us with
  |nil=>exact .nil|cons u us=>cases hl
 |cons x xs a=>
  cases us with
  |nil=>cases hl
  |cons u us=>exact .cons (h 0 x u rfl rfl) (a (Nat.succ.inj hl) λi y w b c=>h (i+1) y w (by simpa using b) (by simpa using c))
omit [aB.a5]in
theorem aei{a:Int}:∀{n:Nat}{vs:List Value},vs.length=n->(∀(j:Nat)(v:Value),vs[j]? = some v->∃t,v=.int (a+j*1) t)->Vals (p_ a n) vs:=by
 intro n vs hl h;refine afZ (by unfold p_;rw[akh,alu,hl]) λi x u av aE=>?_
 unfold p_ at av;rw[akA]at av;have hi:i<n:=by rw[<-hl];exact(akd.mp aE).1
 rw[alR hi]at av;cases av;obtain⟨t,rfl⟩:=h i u aE;exact⟨t,by rw[Int.mul_one]⟩
omit [aB.a5]in
theorem aeh{K:aO}{mg:bp}{O:a8}{H:aw}{a:Int}(n:Nat):bl K mg O H (z9 a n) (p_ a n):=by
 unfold z9 p_
 induction(akG n)with
 |nil=>rfl|cons i r b=>exact⟨_,_,rfl,rfl,b⟩
section
variable{X:aT}{a b:Expr}{p e0 pos pos':Pos}
omit [aB.a5]in
theorem ac9{u:fR}(O:X.calm=true)(D:eb X "list")(P:X.mg "list"=none)(A:eb X "range")(T:X.mg "range"=none)(E:gS X [a,b] u)
  (ax:ake [a,b] X.env=[(false,eval a X.env),(false,eval b X.env)]:=by rfl) (x:ake [b] X.env=[(false,eval b X.env)]:=by rfl)
  (z:ake [.Call (.Name "range" e0) [a,b] [] pos'] X.env=(false,eval (.Call (.Name "range" e0) [a,b] [] pos') X.env)::ake [] X.env:=by rfl) :
  b2 X (.Call (.Name "list" p) [.Call (.Name "range" e0) [a,b] [] pos'] [] pos) (λU H Q=>u U H λvs d=>∃i j:Int,vs=[.int i,.int j]/\(-(2 ^ 62)<=i/\i<2 ^ 62/\-(2 ^ 62)<=j/\j<2 ^ 62)/\(j-i).toNat<=2 ^ 24/\(j-i).toNat<=aki/\∀l,d l=none->Q (.ref l) (upd d l (.l (p_ i (j-i).toNat)))):=by
 intro zn s U H Q J h;refine alB (nk J D P B9 ?_ (by decide) (by decide));refine alA ?_ z rfl;rw[z];show wpAny _ _ (spliced ((false,eval (.Call (.Name "range" e0) [a,b] [] pos') X.env)::akJ pos (ake [] X.env))) _ _ s;refine an4 (Call_ (nk J A T boot_range (alA (b0 (E pos' zn s U H _ J h) λus f ⟨vs,d,I,K,br⟩=>?_) (by rw[ax,x]) (by rw[x];rfl))));obtain⟨i,j,e,⟨br,bP,M,R⟩,B,S,q⟩:=br;subst e
 cases K with
 |cons r m=>
  cases m with
  |cons L m=>
   cases m;obtain⟨t,rfl⟩:=r;obtain⟨t',rfl⟩:=L;refine call_range_2 ?_;refine aoj ?_;have g:Inv X zn U d { f with heap:=f.heap.push { cls:=.type "range",data:=.fields #[.int i t,.int j t',.int 1 f.toks] },toks:=f.toks+1 }:=I.kept λb o e=>akf _ e
   refine PySem.call_list_range (n:=(j-i).toNat) (g.ok.hd O) (IsRange.new ..) (small_one br bP M R) (by rw[rangeSize_one];split<;>omega) B λh' tk acc c F N y=>?_
   refine⟨.ref _,_,g.laid (t':=tk) F (akk _) (show iL X.prog X.w _ h' _ (.l (p_ i (j-i).toNat))from⟨by unfold p_;rw[akh,alu];exact S,acc.toList,c,aei (by rw[ak0];exact y.1) (λk v G=>y.2 k v (by rw[<-G,anw])),?_⟩),rfl,q _ (g.cc.fresh (akk _))⟩;rw[anF];exact N
end
def sW:List R->M R
 |[.v (.int i),.v (.int j)]=>if(-(2 ^ 62)<=i/\i<2 ^ 62/\-(2 ^ 62)<=j/\j<2 ^ 62)/\(j-i).toNat<=2 ^ 24/\(j-i).toNat<=aki then pure (.fr (z9 i (j-i).toNat))else bad|_=>bad
@[simp] def uO(ms:cZ)(U:aM):M R:=do
 let rs <-ms U
 sW rs
section
variable{X:aT}{a b:Expr}{p e0 pos pos':Pos}{ms:cZ}
def agj(z:X.calm=true)(k:eb X "list")(A:X.mg "list"=none)(f:eb X "range")(F:X.mg "range"=none)(t:gv X [a,b] ms)
  (ax:ake [a,b] X.env=[(false,eval a X.env),(false,eval b X.env)]:=by rfl) (y:ake [b] X.env=[(false,eval b X.env)]:=by rfl)
  (B:ake [.Call (.Name "range" e0) [a,b] [] pos'] X.env=(false,eval (.Call (.Name "range" e0) [a,b] [] pos') X.env)::ake [] X.env:=by rfl) :
  ba X (.Call (.Name "list" p) [.Call (.Name "range" e0) [a,b] [] pos'] [] pos) (uO ms):=
 ⟨er (ac9 z k A f F t.un ax y B) λK H Q n=>by
  obtain⟨O,U,S,r,I,st,h,q⟩:=n;obtain⟨rs,S1,s,d⟩:=M.inv h;clear h;unfold sW at d;split at d
  .rename_i i j
   by_cases c:(-(2 ^ 62)<=i/\i<2 ^ 62/\-(2 ^ 62)<=j/\j<2 ^ 62)/\(j-i).toNat<=2 ^ 24/\(j-i).toNat<=aki
   .rw[if_pos c]at d
    cases d;refine⟨O,U,S,_,_,st,s,λg vs G e m w nn=>?_⟩;obtain⟨D,L,rfl,av,E,u,rfl,aE,cJ⟩:=w;cases(show u=[]from cJ);cases(show D=.int i from av);cases(show E=.int j from aE);refine⟨i,j,rfl,c.1,c.2.1,c.2.2,λl hl=>q (f_ g l .dq) _ _ (e.trans (Go.new hl)) (m.new hl) ⟨l,_,rfl,d6,mx,aeh _⟩ λb x=>?_⟩;cases x;exact e.same.free hl
   .rw[if_neg c]at d;cases d
  .cases d⟩
end
omit [aB.a5]in
@[simp] theorem La{i j:Int}:sW [.v (.int i),.v (.int j)]=if(-(2 ^ 62)<=i/\i<2 ^ 62/\-(2 ^ 62)<=j/\j<2 ^ 62)/\(j-i).toNat<=2 ^ 24/\(j-i).toNat<=aki then pure (.fr (z9 i (j-i).toNat))else bad:=rfl
end aF
namespace aF
open PySem PySem.Spec aB PyProof.Rows
def T9{l b:Addr}{xs ys:Array Value}{n m:Nat}{bh:Array (Option Value)}(t:¬(!xs.isEmpty&&al2 (xs.size+ys.size))=true)(e:xs.size<=aki)(f:xs.size+ys.size<=aki+1) :
  Meets (anU.«list.extend» ⟨[.ref l,.ref b],[]⟩) λ_ R s=>s.heap.get? l=some ⟨.type "list",none,.seq xs n,#[]⟩/\s.heap.get? b=some ⟨.type "list",none,.seq ys m,bh⟩/\
   R (.ok (.ret .none)) { s with heap:=s.heap.update l (akN λx=>x++ys),toks:=s.toks }:=
 .of_wp λprog w A R s h=>by
  obtain⟨i,g,d,tk,os⟩:=s;obtain⟨hl,c,h⟩:=h;have j:=AutoSeq1.idx_int;have k:=aoy;have q:=AutoSeq1.sub_list_list;have p:=AutoSeq1.sub_tuple_list;have r:=AutoSeq1.sub_list_tuple;have a:(xs++ys).size<=aki+1:=by rw[Array.size_append];exact f
  wp_walk using(anJ hl rfl (hz:=e) (_hz':=a)),aoA hl,aoA c
  exact⟨_,rfl,h⟩
def O5(K:aO):V->List V->aw->cU->Prop:=λx vs H Q=>∃l b xs a,x=.ref l/\vs=[.ref b]/\H l=some (.l xs)/\dr K H b a/\xs.length+a.length<=aki/\Q .aJ (upd H l (.l (xs++a)))
def Z9:uv X "list.extend" (O5 X.K):=by
 intro zn s U H x vs v us Q J g j h;obtain⟨l,b,xs,B,rfl,rfl,d,p,hz,q⟩:=h;cases g;obtain⟨u,rfl,k⟩:=j.one;cases k;obtain⟨z,its,n,r,hl,e⟩:=J.sX d;obtain⟨a,c,⟨⟨dE,w,i,y⟩,A,aE,bb,ab,fD⟩,_⟩:=J.list p;cases bb;cases ab;cases fD;have t:=c.length;have m:its.toArray.size+a.toArray.size<=aki:=by rw[ako,ako];omega
 have f:¬(!its.toArray.isEmpty&&al2 (its.toArray.size+a.toArray.size))=true:=by
  rw[N9 m,Bool.and_false];exact akl
 refine call_meets F.slot_list_extend ⟨_,e,rfl⟩ F.entry_list_extend (F.args_list_extend_2 _ _) (T9 f (by rw[ako];omega) (by omega)) ⟨e,aE,?_⟩;refine⟨.aJ,_,J.Em (its':=its++a) d e (by simp) (r.append c) ?_,rfl,q⟩;rw[akg];omega
variable[aB.a5]
def w5(xs:List D):List R->M (R×List D)
 |[r]=>match r.fu with
  |some ys=>do
   hx (xs.length+ys.length<=aki)
   pure (.v .aJ,xs++ys)
  |none=>bad
 |_=>bad
def ZS{K:aO}{mg:bp}:rQ K mg (O5 K) w5:=λO H H₀ l xs m rs vs S s t ys Q hl a f n h q=>by
 unfold w5 at h;split at h
 .rename_i r
  obtain⟨v,rfl,j⟩:=kM f;split at h
  .rename_i us e
   obtain⟨_,p,g,h⟩:=M.inv h;obtain⟨c,rfl⟩:=qD g;cases h;obtain⟨b,k,rfl,i,d⟩:=R.ov j e;exact⟨l,b,m,k,rfl,rfl,hl,i,by rw[a.len,d.len];exact c,q .aJ _ rfl ((a.append d).c6 (i_ _ _)) ⟨.aJ,rfl,rfl⟩⟩
  .cases h
 .cases h
end aF
namespace aF
open PySem PySem.Spec aB PyProof.Rows
section
variable{X:aT}
def ch(c:Nat):Str:=⟨#[c]⟩
def rS(z:Str):ie:=⟨λi _=>i<z.cps.size,λi H x H'=>H'=H/\∃c,z.cps[i]? = some c/\x=.str (ch c),λi _=>z.cps.size<=i⟩
theorem PT{P:akC}{w:World}{K:aO}{cg:Expr}(z:Str)(t:Tok)(it:Addr):Turn P w K cg (rS z) [it] it (λi h=>(h.IsStrIter it "str_ascii_iterator" z t i)\/h.IsStrIter it "str_iterator" z t i) where
 mem:=by simp
 obj:=λi h st b a=>by
  have e:b=it:=by simpa using a
  subst e;rcases st with⟨o,e,c,d⟩|⟨o,e,c,d⟩<;>exact⟨o,e,λv z=>by rw[d]at z;cases z⟩
 keep:=λi h h' st k=>by
  rcases st with⟨o,e,c,d⟩|⟨o,e,c,d⟩
  .exact .inl ⟨o,k it (by simp) o e,c,d⟩
  .exact .inr ⟨o,k it (by simp) o e,c,d⟩
 item:=by
  intro X y hw A B i zn s U H E J r st f;subst y hw A;have f:i<z.cps.size:=f;obtain⟨l,m,F,p,n,q⟩:=r it (by simp);have g:z.cps[i]? = some z.cps[i]:=by simp[f]
  rcases st with st|st
  .refine wpAny_pyNext_ascii_item st g λh' j D=>?_
   have u:Inv X zn U H { s with heap:=h',toks:=s.toks+1 }:=J.turned (t':=s.toks+1) (λb o a e=>(D.2 b a).trans e) l m p n q;obtain⟨o,e,c,d⟩:=id j;exact⟨_,rfl,u6 (s:={ s with heap:=h',toks:=s.toks+1 }) e c d (by decide) ⟨.str (ch z.cps[i]),H,u,⟨_,rfl⟩,⟨rfl,_,g,rfl⟩,.inl j,λb a=>(r b a).1⟩⟩
  .refine wpAny_pyNext_wide_item st g λh' j D=>?_
   have u:Inv X zn U H { s with heap:=h',toks:=s.toks+1 }:=J.turned (t':=s.toks+1) (λb o a e=>(D.2 b a).trans e) l m p n q;obtain⟨o,e,c,d⟩:=id j;exact⟨_,rfl,u6 (s:={ s with heap:=h',toks:=s.toks+1 }) e c d (by decide) ⟨.str (ch z.cps[i]),H,u,⟨_,rfl⟩,⟨rfl,_,g,rfl⟩,.inr j,λb a=>(r b a).1⟩⟩
 done:=by
  intro X y hw A B i zn s U H E J r st f;subst y hw A;have f:z.cps.size<=i:=f;obtain⟨l,m,F,p,n,q⟩:=r it (by simp);have g:z.cps[i]? = none:=by simp[f]
  rcases st with st|st
  .exact wpAny_pyNext_ascii_end (J.ok.hd B) st g λh' x=>⟨rfl,J.turned (t':=s.toks) (λb o a e=>x b o a e) l m p n q⟩
  .exact wpAny_pyNext_wide_end (J.ok.hd B) st g λh' x=>⟨rfl,J.turned (t':=s.toks) (λb o a e=>x b o a e) l m p n q⟩
 self:=λ_ _ _ _ _ st h=>by
  rcases st with st|st
  .exact wpAny_pyIter_striter_ascii st h
  .exact wpAny_pyIter_striter_wide st h
def adu{cg l:Expr}(hl:b2 X l jh):jT X cg l (λU H R=>jh U H λx c=>∃z,x=.str z/\R (rS z) c):=by
 intro zn s U H R J h;refine b0 (hl zn s U H _ J h) λv a f=>?_
 obtain⟨x,c,d,i,br⟩:=f;obtain⟨z,e,q⟩:=br;subst e;obtain⟨t,rfl⟩:=i;have fin:∀b∈[a.heap.objs.size],gR X zn c b:=λb g=>by
  have e:b=a.heap.objs.size:=by simpa using g
  subst e;exact d.qT (akk _) (d.cc.fresh (akk _))
 cases C:z.cps.all (· < 128)with
 |true=>
  refine wpAny_pyIter_ascii C ?_;exact⟨a.heap.objs.size,[a.heap.objs.size],_,_,c,rfl,d.kept (t':=a.toks) λb o e=>akf _ e,PT z t _,.inl ⟨_,akp _ rfl,rfl,rfl⟩,fin,q⟩
 |false=>
  refine wpAny_pyIter_wide C ?_;exact⟨a.heap.objs.size,[a.heap.objs.size],_,_,c,rfl,d.kept (t':=a.toks) λb o e=>akf _ e,PT z t _,.inr ⟨_,akp _ rfl,rfl,rfl⟩,fin,q⟩
end
def x'(z:Str):List D:=z.cps.toList.map λc=>D.str (ch c)
def nW(z:Str):List V:=z.cps.toList.map λc=>V.str (ch c)
def YA(z:Str)(H:aw)(i:Nat):(i<(nW z).length->(rS z).go i H/\∀x H',(rS z).o' i H x H'->H'=H/\(nW z)[i]? = some x)/\((nW z).length<=i->(rS z).stop i H):=by
 have hl:(nW z).length=z.cps.size:=by unfold nW;rw[akh,ak0]
 rw[hl];refine⟨λhi=>⟨hi,λx H' ⟨e,c,a,b⟩=>⟨e,?_⟩⟩,λhi=>hi⟩;subst b;unfold nW;rw[akA,anw,a];rfl
variable[aB.a5]
def Tg{K:aO}{mg:bp}{O:a8}{H:aw}(z:Str):bl K mg O H (x' z) (nW z):=by
 unfold x' nW
 induction z.cps.toList with
 |nil=>rfl|cons c r a=>exact⟨_,_,rfl,rfl,a⟩
@[simp] def MJ(m:bx)(U:aM):M (List D):=do
 let r <-m U
 match r with
 |.v (.str z)=>pure (x' z)|_=>bad
section
variable{X:aT}{cg l:Expr}{m:bx}
def af7(hl:ba X l m):qw X cg l (MJ m):=⟨oK (adu hl.un) λn H R e=>by
 obtain⟨O,U,S,xs,k,st,h,q⟩:=e;obtain⟨r,S1,f,h⟩:=M.inv h;split at h
 .rename_i z
  cases h;refine⟨O,U,S,_,_,st,f,λb v a j d g nn=>⟨z,g,?_⟩⟩;exact q b a (rS z) (nW z) j d (λc _ i=>YA z c i) (Tg z)
 .cases h⟩
end
section
variable{K:aO}{mg:bp}
def t6(i j:Str):Bool:=!(amA j i 0 j.length 1).isEmpty
def rr(neg:Bool):R->R->M R
 |.v (.str i),.v (.str j)=>pure (.v (.ay (neg ^^ t6 i j)))|_,_=>bad
def G7:ej K mg (λx y H Q=>∃i j,x=.str i/\y=.str j/\Q (.ay (!(amA j i 0 j.length 1).isEmpty)) H) (rr false):=λO U S e H x y c f g d Q st b a h q=>by
 unfold rr at h;split at h
 .rename_i i j
  cases h;refine⟨i,j,b,a,?_⟩;have:(!(amA j i 0 j.length 1).isEmpty)=(false ^^ t6 i j):=by unfold t6;simp
  rw[this];exact q O _ H (Go.refl _ _) st rfl trivial
 .cases h
end
end aF
namespace aF
open PySem PySem.Spec aB PyProof.Rows
def xy(K:aO)(mg:bp)[aB.a5](d:D)(u:Value):Prop:=∃v,RelV v u/\∀O H,Rep K mg O H d v
structure KTab(P:akC)(w:World)(K:aO)(mg:bp)[aB.a5](x:Str)(ps:List (Str×D)):Prop where
 ex:∃(a:Addr)(az:Array anx)(n:Nat),(mg x=some (.ref a)/\(a==sysModules)=false)/\alT a K=some { cls:=.type "dict",data:=.dict az n }/\KeysOf (anm P w) az/\
  ∀k,match ps.lookup k with
   |some d=>∃u,an3 ali az k=some u/\xy K mg d u|none=>an3 ali az k=none
variable[aB.a5]
def A_(K:aO)(mg:bp):List (Str×D)->List anx->Prop
 |[],o=>o=[]|p::ps,o=>∃e r,o=e::r/\(∃t,e.key=.str p.1 t)/\xy K mg p.2 e.val/\A_ K mg ps r
theorem M7{K:aO}{mg:bp}{k:Str}:∀{ps:List (Str×D)}{o:List anx},A_ K mg ps o->match ps.lookup k with
   |some d=>∃u,(o.find? λe=>ali k e.key).map (·.val)=some u/\xy K mg d u|none=>(o.find? λe=>ali k e.key).map (·.val)=none
 |[],o,h=>by cases h;rfl
 |p::ps,o,h=>by
  obtain⟨e,r,rfl,⟨t,i⟩,b,f⟩:=h;have g:=M7 (k:=k) f;obtain⟨a,j⟩:=p;rw[akv,List.find?_cons,i]
  by_cases c:k=a
  .subst c
   have av:(k==k)=true:=by simp
   have aE:ali k (.str k t)=true:=by show(k==k)=true;simp
   rw[av,aE];exact⟨_,rfl,b⟩
  .have av:(k==a)=false:=by simpa using c
   have aE:ali k (.str a t)=false:=by
    show(a==k)=false;simp only[beq_eq_false_iff_ne,ne_eq];exact λz=>c z.symm
   rw[av,aE];exact g
def Y_{P:akC}{w:World}{K:aO}{h:Heap}{mg:bp}{x:Str}{d:Addr}{b:Array anx}{n:Nat}{ps:List (Str×D)}(X:K.In h)(G:h.Ns akP mg)
  (a:ang K akP x=some (some (.ref d))) (ax:(d==sysModules)=false) (l:alT d K=some { cls:=.type "dict",data:=.dict b n }) (k:∀e∈b.toList,∃s,ali s e.key=true/\e.hash=hashStr w s)
  (f:A_ K mg ps b.toList):KTab P w K mg x ps:=by
 refine⟨d,b,n,⟨anT X G a,ax⟩,l,λe he=>?_,λk=>?_⟩
 .obtain⟨s,c,g⟩:=k e (by simpa using he)
  exact⟨s,c,g⟩
 .have z:=M7 (k:=k) f
  have:∀k:Str,an3 ali b k=(b.toList.find? λe=>ali k e.key).map (·.val):=λk=>by
   unfold an3;obtain⟨l⟩:=b;rw[List.find?_toArray]
  rw[this];exact z
def Ba:List Str->List Value->Prop
 |[],us=>us=[]|x::xs,us=>∃t r,us=.str x t::r/\Ba xs r
theorem Nk:∀{xs:List Str}{us:List Value},Ba xs us->Vals (xs.map V.str) us
 |[],us,h=>by cases h;exact .nil
 |x::xs,us,h=>by obtain⟨t,r,rfl,q⟩:=h;exact .cons ⟨t,rfl⟩ (Nk q)
def ou{K:aO}{mg:bp}{xs:List Str}{a:Addr}{its:Array Value}{n:Nat}{c:Option Addr}{d:Array (Option Value)}(l:alT a K=some ⟨.type "tuple",c,.seq its n,d⟩)(hz:its.size<=aki)(h:Ba xs its.toList) :
  xy K mg (.t (xs.map D.str)) (.ref a):=by
 refine⟨.ref a,rfl,λO H=>⟨a,xs.map V.str,rfl,.inr ⟨_,its,n,l,rfl,rfl,hz,Nk h⟩,?_⟩⟩
 induction xs with
 |nil=>rfl| cons x r b=>exact⟨_,_,rfl,rfl,by
   clear b h
   induction r with
   |nil=>rfl| cons y q b=>exact⟨_,_,rfl,rfl,b⟩⟩
@[simp] def ahI(neg:Bool)(ps:List (Str×D))(mk:bx)(U:aM):M R:=do
 let k <-mk U
 match k with
 |.v (.str z)=>pure (.v (.ay (neg ^^ (ps.lookup z).isSome)))|_=>bad
section
omit [aB.a5]
@[simp] theorem aiW:rr b (.v (.str i)) (.v (.str j))=pure (.v (.ay (b ^^ t6 i j))):=rfl
end
end aF
namespace aF
open PySem PySem.Spec aB PyProof.Rows
section
variable{X:aT}
def Z':uw X "str.find" (λx xs H Q=>∃y z,x=.str y/\xs=[.str z]/\Q (.int (anZ y z)) H):=by
 rintro zn s U H x xs v us Q J a rs ⟨y,z,ex,b,q⟩;subst ex b;obtain⟨t,rfl⟩:=a;obtain⟨u,rfl,t',rfl⟩:=vals1 rs;exact SC.find ⟨.int _,H,J.tok _,⟨_,rfl⟩,q⟩
end
variable[aB.a5]
@[simp] def Ca(f:R->List R->M R)(a:bx)(ms:cZ)(U:aM):M R:=do
 let x <-a U
 let rs <-ms U
 f x rs
def Gr(K:aO)(mg:bp)(r:V->List V->aw->cU->Prop)(f:R->List R->M R):Prop:=
 ∀O U S J H x xs o rs bz C (Q:cU),cK K mg O U S J H->ew K mg O H o x->i6 K mg O H rs xs->(f o rs).run S=.ok bz C->uy K mg O U C J H bz Q->r x xs H Q
def GL(f:R->List R->M R):Prop:=∀a rs S c b,(f a rs).run S=.ok c b->∃z,a=.v (.str z)
section
variable{X:aT}{o e:Expr}{az:List Expr}{a:bx}{ms:cZ}{name:Str}{apos dK:Pos}{id:String}{r:V->List V->aw->cU->Prop}{f:R->List R->M R}
def agv(slot:PySem.Slot "str" name id)(W:typeOf (.builtin id)=pure (.type "method_descriptor"))(R:uw X id r)(P:Gr X.K X.mg r f)(os:GL f)(n:ba X o a)(D:gv X (e::az) ms)
  (T:alU o name X.env (eval o X.env)=eval o X.env:=by rfl)
  (Y:((akJ dK (ake (e::az) X.env)).all (λx=>!x.1)&&(alV dK (alp [] X.env)).all (λx=>x.1.isSome)
&&decide ((e::az).length+([]:List ana).length+(if([]:List ana).isEmpty then 0 else 1)<30))=true:=by rfl)
  (V:(apos.endLine==dK.line)=true:=by rfl) (ax:ake (e::az) X.env=(false,eval e X.env)::ake az X.env:=by rfl) (N:(akJ dK (ake az X.env)).any (·.1)=false:=by rfl) :
  ba X (.Call (.Attribute o name apos) (e::az) [] dK) (Ca f a ms):=⟨er (E' PySem.F.plainAttrs_str slot W R n.un D.un T Y V ax N) λB H Q t=>by
 obtain⟨O,U,S,G,A,st,h,q⟩:=t;obtain⟨x,S1,u,h⟩:=M.inv h;obtain⟨rs,c,w,h⟩:=M.inv h;refine⟨O,U,S,x,S1,st,u,λp L Z i s m bw=>?_⟩;obtain⟨z,rfl⟩:=os _ _ _ _ _ h;cases(show L=.str z from m);refine⟨rfl,p,U,S1,rs,c,s,w,λd vs b j bL E nn=>?_⟩;exact P d U c B b _ vs _ rs G A Q bL (show ew X.K X.mg d b (.v (.str z)) (.str z)from rfl) E h λy v H' g I l k=>q y v H' ((i.trans j).trans g) I l (k.back (i.trans j).same)⟩
end
def qS(x:R)(rs:List R):M R:=match x,rs with
 |.v (.str y),[.v (.str z)]=>pure (.v (.int (anZ y z)))|_,_=>bad
def acn:GL qS:=λa rs S c b h=>by
 unfold qS at h;split at h
 .exact⟨_,rfl⟩
 .cases h
section
variable{K:aO}{mg:bp}
def Sz:Gr K mg (λx xs H Q=>∃y z,x=.str y/\xs=[.str z]/\Q (.int (anZ y z)) H) qS:=λO U S f H x xs d rs g e Q st b a h q=>by
 unfold qS at h;split at h
 .rename_i y z
  cases h;obtain⟨v,rfl,c⟩:=kM a;exact⟨y,z,b,by rw[show v=V.str z from c],q O _ H (Go.refl _ _) st rfl trivial⟩
 .cases h
end
omit [aB.a5]in
@[simp] theorem ail{y z:Str}:qS (.v (.str y)) [.v (.str z)]=pure (.v (.int (anZ y z))):=rfl
section
variable{X:aT}{cg a b:Expr}{ms:cZ}{p pos:Pos}
def ahg(k:eb X "range")(x:X.mg "range"=none)(n:gv X [a,b] ms)(ax:ake [a,b] X.env=[(false,eval a X.env),(false,eval b X.env)]:=by rfl)(w:ake [b] X.env=[(false,eval b X.env)]:=by rfl):xJ X cg (.Call (.Name "range" p) [a,b] [] pos) (DR ms):=⟨oK (adt k x n.un ax w) λz H R m=>by
 obtain⟨O,U,S,xs,y,st,h,q⟩:=m;obtain rfl:=(DR ms U).e_ _ _ _ h;obtain⟨rs,S1,d,h⟩:=M.inv h;obtain rfl:=(ms U).e_ _ _ _ d;split at h
 .rename_i i j
  by_cases c:-(2 ^ 62)<=i/\i<2 ^ 62/\-(2 ^ 62)<=j/\j<2 ^ 62
  .rw[if_pos c]at h
   cases h;refine⟨O,U,S1,_,S1,st.s3,d,λg vs f e l s nn=>?_⟩;obtain⟨v,u,rfl,r,t⟩:=Fu s;cases(show v=.int i from r);cases(show u=.int j from t);exact⟨i,j,rfl,c,q g f (mL i (j-i).toNat) (mn i (j-i).toNat) e (st.go e l.cv) (MV _ _) (FA _ _)⟩
  .rw[if_neg c]at h;cases h
 .cases h⟩
end
end aF
namespace aF
open PySem PySem.Spec aB PyProof.Rows
variable[aB.a5]
@[simp] def Cd(ps:List (Str×D))(mk:bx)(U:aM):M R:=do
 let k <-mk U
 match k with
 |.v (.str z)=>pure (.v ((ps.lookup z).getD .aJ))|_=>bad
section
variable{X:aT}{x:Str}{ps:List (Str×D)}{e:Expr}{p apos dK:Pos}{mk:bx}
def agw(T:KTab X.prog X.w X.K X.mg x ps)(G:eb X x)(he:ba X e mk)(m:gc X (.Name x p) "get" apos e dK:=by exact⟨rfl,rfl,rfl,rfl⟩)(W:(x==("__debug__":Str))=false:=by decide) :
  ba X (.Call (.Attribute (.Name x p) "get" apos) [e] [] dK) (Cd ps mk):=⟨by
 rintro zn s U H Q J ⟨O,U',S,r,L,st,h,q⟩;obtain⟨y,S1,I,h⟩:=M.inv h;split at h
 .rename_i z
  cases h;obtain⟨a,D,n,⟨o,E⟩,hl,N,Z⟩:=T.ex;refine wpAny_Call_method m.base m.Ub m.line PySem.F.plainAttrs_dict aoR PySem.F.type_dict_get (sU J G o ?_ W);have i:=J.f3 a _ hl;refine⟨⟨_,i,rfl⟩,λb e=>by cases e;exact⟨_,i,rfl⟩,?_⟩;rw[m.trees];refine ane rfl (Calls.evalArgs_plain (an4 (b0 (he.un zn s U H (λv l=>v=.str z/\∃c,Go O c H l/\cK X.K X.mg c U' L U l) J ⟨O,U',S,_,_,st,I,λc v l j g V nn=>⟨V,c,j,g⟩⟩) λC s2 ⟨y,f,B,P,Y,c,j,g⟩=>aoj ?_)));subst Y;obtain⟨t,rfl⟩:=P;have i:=B.f3 a _ hl;have mo:s2.heap.MapOf (anm X.prog X.w) a (an3 ali D):=⟨_,D,n,i,⟨rfl,rfl,rfl⟩,rfl,N,λ_=>rfl⟩;refine call_meetsIn aoR mo.typeIs PySem.F.entry_dict_get (PySem.F.args_dict_get_2 _ _) (meets_dict_get (anm X.prog X.w) a (k:=z) ?_ E) ⟨_,mo,?_⟩
  .show(z==z)=true
   simp
  .have:=Z z
   cases av:ps.lookup z with
   |none=>
    rw[av]at this q;rw[this];exact⟨.aJ,f,B.tok _,rfl,q c _ f j g rfl trivial⟩
   |some d=>
    rw[av]at this q;obtain⟨u,aE,v,R,A⟩:=this;rw[aE];exact⟨v,f,B.tok _,R,q c _ f j g (A c f) trivial⟩
 .cases h⟩
end
end aF
namespace aF
open PySem PySem.Spec aB
section
variable{P:List Value->Prop}
def P0(h:P []):∀us:List Value,us.length=0->P us:=λus e=>by rw[anN e];exact h
def rJ(h:∀a,∀us:List Value,us.length=n->P (a::us)):∀us:List Value,us.length=n+1->P us:=λus e=>by
 cases us with
 |nil=>cases e
 |cons a r=>exact h a r (Nat.succ.inj e)
def o1(h:∀a,P [a]):∀us:List Value,us.length=1->P us:=rJ λa=>P0 (h a)
def qd(h:∀a b,P [a,b]):∀us:List Value,us.length=2->P us:=rJ λa=>o1 (h a)
def qe(h:∀a b c,P [a,b,c]):∀us:List Value,us.length=3->P us:=rJ λa=>qd (h a)
def AB(h:∀a b c d,P [a,b,c,d]):∀us:List Value,us.length=4->P us:=rJ λa=>qe (h a)
def AD(h:∀a b c d e,P [a,b,c,d,e]):∀us:List Value,us.length=5->P us:=rJ λa=>AB (h a)
def AE(h:∀a b c d e f,P [a,b,c,d,e,f]):∀us:List Value,us.length=6->P us:=rJ λa=>AD (h a)
def F9(h:∀a b c d e f g,P [a,b,c,d,e,f,g]):∀us:List Value,us.length=7->P us:=rJ λa=>AE (h a)
end
def LB(N P:List Str)(a:Scope):Bool:=decide (a.kind=.function)&&!a.isCoroutine&&!a.isGenerator&&decide N.Nodup&&decide (N.take P.length=P)
&&P.all (λx=>decide (a.names.lookup x=some .local)||decide (a.names.lookup x=some .cell))&&a.names.all λy=>decide (y.2≠.free)
def sk{N P:List Str}(h:LB N P sc=true):gQ N P sc:=by
 simp only[LB,akH,Bool.not_eq_true',decide_eq_true_eq,akV,aoJ]at h;exact⟨h.1.1.1.1.1.1,h.1.1.1.1.1.2,h.1.1.1.1.2,h.1.1.1.2,h.1.1.2,h.1.2,h.2⟩
def Jf(EN xs:List Str)(cap:List Nat):List Str:=xs++cap.filterMap λk=>EN[k]?
def Jg(esc scope:Scope)(EN N:List Str)(n:Nat)(cap:List Nat):Bool:=decide (scope.kind=.function)&&scope.names.all (λy=>decide (y.2≠.cell))&&scope.names.all (λy=>decide (y.2=.local->scope.names.lookup y.1=some .local))
&&scope.names.all (λy=>decide (y.2=.free->esc.names.lookup y.1=some .cell\/esc.names.lookup y.1=some .free))&&decide N.Nodup&&decide (N.length=n+cap.length)
&&(akG cap.length).all λj=>decide (N[n+j]? = EN[cap.getD j 0]?)&&(match N[n+j]? with|some x=>decide (scope.names.lookup x=some .free)|none=>true)
def uU{EN xs:List Str}(h:Jg esc scope EN (Jf EN xs cap) xs.length cap=true):kW esc scope EN (Jf EN xs cap) xs.length cap:=by
 simp only[Jg,akH,decide_eq_true_eq,akV]at h;obtain⟨⟨⟨⟨⟨⟨d,e⟩,g⟩,k⟩,l⟩,m⟩,c⟩:=h;refine⟨d,e,g,k,l,m,λj i=>?_⟩;obtain⟨a,b⟩:=c j (akZ.mpr i);refine⟨a,λx f=>?_⟩;rw[f]at b;exact of_decide_eq_true b
def p4{N:List Str}(h:decide N.Nodup=true):N.Nodup:=of_decide_eq_true h
def zK{p:Nat->Prop}(b:p 0)(a:∀n,p (n+1)):∀n,p n:=λn=>by cases n with|zero=>exact b|succ n=>exact a n
variable[aB.a5]
end aF
namespace aF
open PySem PySem.Spec aB
variable[aB.a5]
structure cz(K:aO)(mg:bp)(x:Str)(st:Stmt)(ps N:List Str):Prop where
 d:gP K mg x st ps
 s:gQ N ps (dd st)
structure eB(K:aO)(mg:bp)(c m qual:Str)(st:Stmt)(ps N:List Str):Prop where
 d:xo K mg c m qual st ps
 s:gQ N ps (dd st)
structure xp(K:aO)(mg:bp)(c m qual:Str)(st:Stmt)(ps N:List Str):Prop where
 d:A5 K mg c m qual st ps
 s:gQ N ps (dd st)
section
variable(P:akC)(w:World)(base:Heap){K:aO}{mg:bp}{x c m qual:Str}{st:Stmt}{ps N:List Str}
abbrev cX(_:cz K mg x st ps N)(j k:Nat)(f:bq):Prop:=k<=j->eU P w K mg base x ps k (e1 K mg f)
abbrev A8(_:cz K mg x st ps N)(j k:Nat)(f:d2):Prop:=k<=j->eU P w K mg base x ps k (hM K mg f)
abbrev i4(_:eB K mg c m qual st ps N)(j k:Nat)(f:bq):Prop:=k<=j->kn P w K mg base c m ps k (e1 K mg f)
abbrev ic(_:eB K mg c m qual st ps N)(j k:Nat)(f:d2):Prop:=k<=j->kn P w K mg base c m ps k (hM K mg f)
abbrev A9(_:xp K mg c m qual st ps N)(j k:Nat)(f:d2):Prop:=k<=j->A7 P w K mg base c m ps k (hM K mg f)
end
section
variable{P:akC}{w:World}{base:Heap}{K:aO}{mg:bp}{x c m qual:Str}{st:Stmt}{ps N:List Str}{j k:Nat}{f:bq}{g:d2}{b:aN}{e:bX}
abbrev uj(P:akC)(w:World)(K:aO)(mg:bp)(base:Heap)(N:List Str)(q:Str)(st:Stmt)(j k:Nat)(T:aT->List Stmt->Prop):Prop:=
 k+1<=j->∀(f:Addr)(a:Value)(A:akL)(outer:List Env)(s:akj)(H:aw)(E:gw),cA k (A.deeper (alk q (dd st) s.heap.objs.size f a))->T (gU eA P w K mg base N q (dd st) f a A outer s H E).gA (fJ st)
def c1(d:cz K mg x st ps N)(n:f=fnOf ps.length N.length b)(i:uj P w K mg base N x st j k (ht · · b)):cX P w base d j (k+1) f:=λh=>by
 subst n;exact vd d.d d.s rfl rfl λf l A outer s H E a=>(i h f l A outer s H E a).un
def LN(d:cz K mg x st ps N)(i:g=fnX ps.length N.length e)(a:uj P w K mg base N x st j k (ip · · e)):A8 P w base d j (k+1) g:=λh=>by
 subst i;exact Vq d.d d.s rfl rfl (a h)
def jv(d:eB K mg c m qual st ps N)(n:f=fnOf ps.length N.length b)(i:uj P w K mg base N qual st j k (ht · · b)):i4 P w base d j (k+1) f:=λh=>by
 subst n;exact Vp d.d d.s rfl rfl λf l A outer s H E a=>(i h f l A outer s H E a).un
def iR(d:eB K mg c m qual st ps N)(i:g=fnX ps.length N.length e)(a:uj P w K mg base N qual st j k (ip · · e)):ic P w base d j (k+1) g:=λh=>by
 subst i;exact Vo d.d d.s rfl rfl (a h)
def LK(d:xp K mg c m qual st ps N)(i:g=fnX ps.length N.length e)(a:uj P w K mg base N qual st j k (ip · · e)):A9 P w base d j (k+1) g:=λh=>by
 subst i;exact Vn d.d d.s rfl rfl (a h)
end
end aF
set_option maxHeartbeats 0
namespace dV
open PySem PySem.Spec aB aF
def top(i:Nat):Stmt:=PySem.Challenge.pw_oneslate_k41_a_letter_brought.main.body.getD i (.Pass ⟨0,0,0,0⟩)
abbrev Pq:Stmt:=top 8
abbrev FF:Stmt:=top 56
abbrev FG:Stmt:=top 58
abbrev FH:Stmt:=top 86
abbrev wQ:Stmt:=top 105
def aew:gQ ["script","askers","house","names","k","ahead","many","letter","books","told","behind","due","one"] ["script"] (dd wQ):=sk (by kernel_rfl)
abbrev zR:List Str:=["me","epoch","hall","opening","over_known","greatest_round","last_stamp","wishes","deed","standing","last_outcome","grants","kept_mask","told_slate"]
abbrev zS:List Str:=["askers","books","letters","rows"]
abbrev y8:List (Str×D):=[("put",.t [(.str "name"),(.str "number")]),("add",.t [(.str "name"),(.str "number")]),("swap",.t [(.str "name"),(.str "number"),(.str "number")]),("take",.t [(.str "fence")]),("renew",.t [(.str "fence")]),("free",.t [(.str "fence")]),("sure",.t [(.str "fence"),(.str "name"),(.str "number")]),("move",.t [(.str "hall")]),("end",.t [])]
abbrev hj:List (Str×Str):=[("put","do_put"),("add","do_add"),("swap","do_swap"),("take","do_take"),("renew","do_renew"),("free","do_free"),("sure","do_sure"),("move","do_move"),("end","do_end")]
def xB[aB.a5](K:aO)(mg:bp)(x:Str)(st:Stmt):Prop:=∃c e4,pj K c e4 (sS x)/\∀(f:Addr)(dE:Value)(e:Option Addr)(du a g:Value)(d:Option Addr)(b cm:Value)(o:Array (Option Value)),mg x=some (.ref f)->K.lookup f=some ⟨dE,e,.func (al9 x x (iP st) (fJ st) (dd st) .none du a g d b cm),o⟩->b=.ref c
structure Txt[aB.a5](P:akC)(w:World)(K:aO)(mg:bp)(base:Heap):Prop where
 Kp:cz K mg "is_whole" (top 2) o0 o0
 J':cz K mg "has_keeper" (top 3) ["mask","keeper"] ["mask","keeper"]
 KG:cz K mg "mask_of" (top 4) ["keepers"] ["keepers","mask","keeper"]
 Kq:cz K mg "keepers_of" (top 5) ["mask"] ["mask"]
 KH:cz K mg "masks_within" (top 6) ["mask"] ["mask","masks","keeper"]
 Cq:cz K mg "highest" (top 8) ["grants","opening"] ["grants","opening","grant"]
 JR:cz K mg "all_alike" (top 9) ["grants"] ["grants"]
 J_:cz K mg "granters" (top 10) ["grants"] ["grants"]
 Kh:cz K mg "is_keeper" (top 24) o0 o0
 Kl:cz K mg "is_pair" (top 25) o0 o0
 Kd:cz K mg "is_choice" (top 26) o0 ["thing","many"]
 Cr:cz K mg "is_built" (top 27) ["thing","deep"] ["thing","deep"]
 Cu:cz K mg "namings" (top 28) ["rule"] ["rule","keepers","part"]
 Kn:cz K mg "is_rule" (top 29) o0 o0
 KL:cz K mg "named" (top 30) ["rule"] ["rule"]
 Cp:cz K mg "fills" (top 31) ["rule","mask"] ["rule","mask"]
 Ki:cz K mg "is_least" (top 32) ["mask","filling"] ["mask","filling"]
 KC:cz K mg "least_masks" (top 33) ["rule"] ["rule","filling"]
 J7:cz K mg "first_apart" (top 35) ["mask","others"] ["mask","others","other"]
 KR:cz K mg "parting" (top 36) ["asking","keeping"] ["asking","keeping","others","mask","other"]
 Kg:cz K mg "is_hall" (top 37) o0 o0
 KI:cz K mg "members_mask" (top 38) ["hall"] ["hall"]
 KJ:cz K mg "members_of" (top 39) ["hall"] ["hall"]
 Kj:cz K mg "is_name" (top 44) o0 o0
 Kk:cz K mg "is_number" (top 45) o0 o0
 Kf:cz K mg "is_fence" (top 46) o0 o0
 J8:cz K mg "form_of" (top 47) ["word"] ["word"]
 Km:cz K mg "is_part" (top 48) ["kind","thing"] ["kind","thing"]
 Ke:cz K mg "is_deed" (top 49) o0 ["thing","form"]
 JU:cz K mg "blank" (top 51) [] []
 KA:cz K mg "lease_of" (top 52) M2 M2
 KS:cz K mg "shut_of" (top 53) M2 M2
 Ko:cz K mg "is_shut" (top 54) M2 M2
 JV:cz K mg "cell_of" (top 55) ["slate","name"] ["slate","name","cell"]
 Cv:cz K mg "with_cell" (top 56) ["slate","name","n"] ["slate","name","n","cells"]
 J5:cz K mg "doing_of" (top 57) ["slate","asker"] ["slate","asker","doing"]
 Cw:cz K mg "with_doing" (top 58) ["slate","asker","number","answer"] ["slate","asker","number","answer","doings"]
 KV:cz K mg "with_lease" (top 59) v4 v4
 KW:cz K mg "with_shut" (top 60) ["slate","shut"] ["slate","shut"]
 KO:cz K mg "opened" (top 61) M2 M2
 J0:cz K mg "do_put" (top 63) T0 T0
 JW:cz K mg "do_add" (top 64) T0 ["slate","asker","deed","total"]
 J3:cz K mg "do_swap" (top 65) T0 T0
 KD:cz K mg "lent" (top 66) v4 v4
 KN:cz K mg "not_lent" (top 67) M2 ["slate","lease"]
 J4:cz K mg "do_take" (top 68) T0 T0
 J1:cz K mg "do_renew" (top 69) T0 T0
 JY:cz K mg "do_free" (top 70) T0 T0
 J2:cz K mg "do_sure" (top 71) T0 T0
 JZ:cz K mg "do_move" (top 72) T0 T0
 JX:cz K mg "do_end" (top 73) T0 T0
 KP:cz K mg "outcome_of" (top 75) T0 ["slate","asker","deed","doer"]
 J6:cz K mg "done_on" (top 76) ["slate","asker","number","deed"] ["slate","asker","number","deed","made"]
 JT:cz K mg "ask_letter" (top 78) ["asker","keeper","epoch","stamp"] ["asker","keeper","epoch","stamp"]
 KU:cz K mg "tell_letter" (top 79) u8 u8
 JS:cz K mg "answer_to" (top 80) ["letter","word","load"] ["letter","word","load"]
 J9:cz K mg "goes_to_keeper" (top 81) ["letter"] ["letter"]
 Jj:eB K mg "Asker" "__init__" "Asker.__init__" (inClass (top 83) 0) ["self","me","hall"] ["self","me","hall"]
 Jl:xp K mg "Asker" "begin" "Asker.begin" (inClass (top 83) 1) ["self","deed"] ["self","deed"]
 Jm:eB K mg "Asker" "bell" "Asker.bell" (inClass (top 83) 2) v0 v0
 Jr:eB K mg "Asker" "hear" "Asker.hear" (inClass (top 83) 3) P3 P3
 Jy:eB K mg "Asker" "outcome" "Asker.outcome" (inClass (top 83) 4) v0 v0
 Jx:eB K mg "Asker" "number" "Asker.number" (inClass (top 83) 5) v0 v0
 JB:eB K mg "Asker" "stand" "Asker.stand" (inClass (top 83) 6) v0 v0
 Jz:eB K mg "Asker" "place" "Asker.place" (inClass (top 83) 8) v0 v0
 Jv:eB K mg "Asker" "knows_over" "Asker.knows_over" (inClass (top 83) 9) v0 v0
 Ju:eB K mg "Asker" "is_for_now" "Asker.is_for_now" (inClass (top 83) 10) P3 P3
 Jk:eB K mg "Asker" "ask_members" "Asker.ask_members" (inClass (top 83) 11) v0 v0
 Js:eB K mg "Asker" "hear_grant" "Asker.hear_grant" (inClass (top 83) 12) P3 P3
 Jp:eB K mg "Asker" "go_on" "Asker.go_on" (inClass (top 83) 13) ["self","pair"] ["self","pair","load"]
 JA:eB K mg "Asker" "sees_at_once" "Asker.sees_at_once" (inClass (top 83) 14) ["self","slate"] ["self","slate"]
 Jt:eB K mg "Asker" "hear_kept" "Asker.hear_kept" (inClass (top 83) 15) P3 ["self","letter","shut"]
 Jn:eB K mg "Asker" "end_where_told" "Asker.end_where_told" (inClass (top 83) 16) v0 ["self","slate","doing"]
 Jw:eB K mg "Asker" "learn_over" "Asker.learn_over" (inClass (top 83) 17) v0 v0
 Jq:eB K mg "Asker" "go_over" "Asker.go_over" (inClass (top 83) 18) ["self","hall"] ["self","hall"]
 Jo:eB K mg "Asker" "end_wish" "Asker.end_wish" (inClass (top 83) 19) ["self","outcome"] ["self","outcome"]
 KQ:cz K mg "page_of" (top 85) ["book","epoch"] ["book","epoch","page"]
 Cx:cz K mg "with_page" (top 86) ["book","epoch","promised","kept","slate"] ["book","epoch","promised","kept","slate","pages"]
 Kr:cz K mg "late" (top 87) ["book","letter","promised"] ["book","letter","promised"]
 Kb:cz K mg "heard_ask" (top 88) v6 ["book","letter","stamp","page"]
 Kc:cz K mg "heard_tell" (top 89) v6 ["book","letter","stamp","promised"]
 Ka:cz K mg "heard" (top 90) v6 v6
 JC:eB K mg "House" "__init__" "House.__init__" (inClass (top 94) 0) ["self","hall","askers"] ["self","hall","askers"]
 JE:xp K mg "House" "begin" "House.begin" (inClass (top 94) 1) ["self","asker","deed"] ["self","asker","deed","one","letters"]
 JF:eB K mg "House" "bell" "House.bell" (inClass (top 94) 2) W1 W1
 JH:eB K mg "House" "bring" "House.bring" (inClass (top 94) 3) ["self","k"] ["self","k","letter"]
 JO:eB K mg "House" "record" "House.record" (inClass (top 94) 4) v0 v0
 JM:eB K mg "House" "many" "House.many" (inClass (top 94) 6) v0 v0
 JL:eB K mg "House" "letter" "House.letter" (inClass (top 94) 7) ["self","k"] ["self","k"]
 JG:eB K mg "House" "book" "House.book" (inClass (top 94) 8) ["self","keeper"] ["self","keeper"]
 JP:eB K mg "House" "stand" "House.stand" (inClass (top 94) 10) W1 W1
 JN:eB K mg "House" "place" "House.place" (inClass (top 94) 11) W1 W1
 JK:eB K mg "House" "knows_over" "House.knows_over" (inClass (top 94) 12) W1 W1
 JD:eB K mg "House" "asker_of" "House.asker_of" (inClass (top 94) 13) W1 W1
 JQ:eB K mg "House" "write" "House.write" (inClass (top 94) 14) ["self","letters"] ["self","letters","first"]
 JJ:eB K mg "House" "bring_to_keeper" "House.bring_to_keeper" (inClass (top 94) 15) P3 ["self","letter","told"]
 JI:eB K mg "House" "bring_to_asker" "House.bring_to_asker" (inClass (top 94) 16) P3 ["self","letter","one","before","letters"]
 Kt:cz K mg "_law_cell_at" (top 96) ["script","k"] ["script","k"]
 Ct:cz K mg "_law_alike" (top 97) ["found","due"] ["found","due","k"]
 Kw:cz K mg "_law_flat" (top 98) ["cell"] ["cell","many","some","asks"]
 Kx:cz K mg "_law_hall" (top 99) ["cell"] ["cell","some","rule","rows","tops"]
 Ky:cz K mg "_law_name" (top 100) ["cell"] ["cell","size","name"]
 Kz:cz K mg "_law_names" (top 101) ["cell"] ["cell","letters","base","at","other","third"]
 Ku:cz K mg "_law_deed" (top 102) ["names","mixed","cell"] ["names","mixed","cell","name","n","fence","way"]
 Ks:cz K mg "_law_burst" (top 103) ["house","start","living","most"] ["house","start","living","most","k","letter","keeper"]
 Kv:cz K mg "_law_event" (top 104) ["house","names","askers","cell","k"] ["house","names","askers","cell","k","mixed","other","asker","start","j","deed","living"]
 Cs:gP K mg "law" wQ ["script"]
 nU:mI K mg "Asker" zR
 nV:mI K mg "House" zS
 UC:∃u,mg "LAST_KEEPER"=some u/\RelV (.int 5) u
 UI:∃u,mg "MOST_PARTS"=some u/\RelV (.int 6) u
 UH:∃u,mg "MOST_NAMED"=some u/\RelV (.int 12) u
 UE:∃u,mg "MOST_DEEP"=some u/\RelV (.int 4) u
 UJ:∃u,mg "SMALL_LETTERS"=some u/\RelV (.str "abcdefghijklmnopqrstuvwxyz") u
 UG:∃u,mg "MOST_LETTERS"=some u/\RelV (.int 8) u
 UD:∃u,mg "MOST_ASKERS"=some u/\RelV (.int 6) u
 UB:∃u,mg "KEEPERS"=some u/\RelV (.int 6) u
 An:uq P w K mg "DOERS" hj
 D1:KTab P w K mg "FORMS" y8
 D_:xB K mg "highest" Pq
 Ed:xB K mg "with_cell" FF
 Ee:xB K mg "with_doing" FG
 Ef:xB K mg "with_page" FH
 bm:kl base mg
 B:Gs mg
 kt:xA K
section
variable[aB.a5]{P:akC}{w:World}{K:aO}{mg:bp}{base:Heap}
def R9:aN:=
  (a4 (jY (cF gV (aa (I 0) (aa (af (.ty "int")) aj))) (uP (cF gV (aa (I 0) (aa (af (.ty "bool")) aj))))))
def l':bq:=fnOf 1 1 R9
def HC:aN:=
  (a4 (ab oEq (ab rp (ab tC (I 0) (I 1)) (af (.int 1))) (af (.int 1))))
def pY:bq:=fnOf 2 2 HC
def Eb:aN:=
  (b' 1 (ab tx (I 1) (ab EW (af (.int 1)) (I 2))))
def Ic:aN:=
  (a4 (I 1))
def Ib:aN:=
  bO (jZ 2 (sG (I 0)) Eb) Ic
def Ia:aN:=
  bO (b' 1 (af (.int 0))) Ib
def lh:bq:=fnOf 1 3 Ia
def HX:aN:=
  (a4 (eX 1 [0] (h2 (aa (bb oBits (I 0)) aj)) (aL (bf pY (aa (I 1) (aa (I 0) aj)))) (I 0)))
def tg:bq:=fnOf 1 1 HX
def Ec:aN:=
  (b' 1 (ab wj (I 1) (eX 1 [2] (nf (I 1)) fx (ab eE (I 0) (bf lh (aa (eD (aa (I 1) aj)) aj))))))
def Ih:aN:=
  (a4 (I 1))
def Ig:aN:=
  bO (jZ 2 (sG (bf tg (aa (I 0) aj))) Ec) Ih
def Ie:aN:=
  bO (b' 1 (eD (aa (af (.int 0)) aj))) Ig
def zy:bq:=fnOf 1 3 Ie
def HG:aN:=
  (a4 (bU (aa (ab aH (I 2) (af (.int 1))) (aa (ab aH (I 2) (af (.int 2))) aj))))
def HF:aN:=
  bO (b3 (aL (ab oEq (ab aH (I 2) (af (.int 1))) (bU (aa (af (.int 0)) (aa (af (.int 0)) aj))))) (a4 (bU (aa (ab aH (I 2) (af (.int 1))) (aa (I 1) aj)))) bT) HG
def BP:aN:=
  bO (b' 2 (x4 (fnOf 1 1 (a4 (ab aH (I 0) (af (.int 1))))) (I 0))) HF
def zt:bq:=fnOf 2 3 BP
def Wc(T:Txt P w K mg base):eU P w K mg base "highest" ["grants","opening"] 4 (e1 K mg zt):=by
 show eU P w K mg base _ _ _ (e1 K mg (fnOf 2 3 BP));obtain⟨c,e4,L,e⟩:=T.D_;refine yD (k:=3) T.Cq.d e T.Cq.s rfl rfl λf A outer s H E a=>?_
 have b:=a.units;refine ht.un ?_;refine nF ?_ (nF ?_ (qj ?_))
 .exact(Gf (i:=2) T.Cq.s.fM rfl (.inl rfl) (agm (k:=0) (N:=["one"]) (p1:="one") rfl T.B.max (a.mono (by omega)) L T.bm rfl rfl ⟨rfl,rfl,rfl,by decide +kernel,rfl,by decide +kernel,by decide +kernel⟩ (λ_ _ _ _=>rfl) (λ_ _ _ _ _ _=>(hk ha g6 (dO 0) gD)) (dO 0)))
 .exact(Ge (iZ (E5 b) By (hk ha g6 (dO 2) gD) (o5 (eQ gD (eQ gD iY)))) (qj (rN (o5 (eQ (hk ha g6 (dO 2) gD) (eQ (dO 1) iY))))) Gg)
 .exact(rN (o5 (eQ (hk ha g6 (dO 2) gD) (eQ (hk ha g6 (dO 2) gD) iY))))
def Hm:aN:=
  (a4 (cF n4 (aa (eX 1 [0] (nf (I 0)) fx (ab oEq (ab aH (I 0) (af (.int 1))) (ab aH (ab aH (I 1) (af (.int 0))) (af (.int 1))))) aj)))
def vL:bq:=fnOf 1 1 Hm
def HB:aN:=
  (a4 (bf lh (aa (eX 1 [] (nf (I 0)) fx (ab aH (I 0) (af (.int 0)))) aj)))
def oy:bq:=fnOf 1 1 HB
def HQ:aN:=
  (a4 (jY (bf l' (aa (I 0) aj)) (fD oLe oLe (af (.int 0)) (I 0) (af (.int 5)))))
def vS:bq:=fnOf 1 1 HQ
def R8:aN:=
  (a4 (jY (cF gV (aa (I 0) (aa (af (.ty "tuple")) aj))) (ab oEq (cF gW (aa (I 0) aj)) (af (.int 2)))))
def zv:bq:=fnOf 1 1 R8
def HI:aN:=
  (a4 (jY (ab oLe (I 1) (af (.int 6))) (fD oLe oLe (af (.int 1)) (ab aH (I 0) (af (.int 0))) (I 1))))
def R7:aN:=
  bO (b3 (e' (d_ (aL (bf zv (aa (I 0) aj)))) (e' (d_ (aL (bf l' (aa (ab aH (I 0) (af (.int 0))) aj)))) (d_ (aL (cF gV (aa (ab aH (I 0) (af (.int 1))) (aa (af (.ty "tuple")) aj))))))) (a4 (af (.ay false))) bT) (bO (b' 1 (cF gW (aa (ab aH (I 0) (af (.int 1))) aj))) HI)
def Ey:bq:=fnOf 1 2 R7
def R6(self:bq):aN:=
  (a4 (cF n4 (aa (eX 1 [1] (la (ab aH (I 0) (af (.int 1)))) fx (bf self (aa (I 0) (aa (ab lp (I 1) (af (.int 1))) aj)))) aj)))
def R5(self:bq):aN:=
  bO (b3 (e' (aL (ab oEq (I 1) (af (.int 0)))) (d_ (aL (bf Ey (aa (I 0) aj))))) (a4 (af (.ay false))) bT) (R6 self)
def HH(self:bq):aN:=
  bO (b3 (aL (bf vS (aa (I 0) aj))) (a4 (af (.ay true))) bT) (R5 self)
def ri:Nat->bq
 |0=>λ_=>bad
 |n+1=>fnOf 2 2 (HH (ri n))
def vA(self:bq):aN:=
  (qA 1 w6 (aa (bf self (aa (I 2) aj)) aj))
def Io(self:bq):aN:=
  (x6 1)
def Im(self:bq):aN:=
  bO (jZ 2 (la (ab aH (I 0) (af (.int 1)))) (vA self)) (Io self)
def Il(self:bq):aN:=
  bO (lQ 1 (eD aj)) (Im self)
def xV(self:bq):aN:=
  bO (b3 (aL (bf l' (aa (I 0) aj))) (a4 (eD (aa (I 0) aj))) bT) (Il self)
def mb:Nat->bq
 |0=>λ_=>bad
 |n+1=>fnOf 1 3 (xV (mb n))
def HV:aN:=
  (a4 (jY (bf (ri 12) (aa (I 0) (aa (af (.int 4)) aj))) (ab oLe (cF gW (aa (bf (mb 12) (aa (I 0) aj)) aj)) (af (.int 12)))))
def vW:bq:=fnOf 1 1 HV
def Ik:aN:=
  (a4 (bf lh (aa (bf (mb 12) (aa (I 0) aj)) aj)))
def ti:bq:=fnOf 1 1 Ik
def Hw(self:bq):aN:=
  (a4 (ab tB (cF gW (aa (eX 1 [1] (la (ab aH (I 0) (af (.int 1)))) (aL (bf self (aa (I 0) (aa (I 1) aj)))) (I 0)) aj)) (ab aH (I 0) (af (.int 0)))))
def xS(self:bq):aN:=
  bO (b3 (aL (bf l' (aa (I 0) aj))) (a4 (bf pY (aa (I 1) (aa (I 0) aj)))) bT) (Hw self)
def je:Nat->bq
 |0=>λ_=>bad
 |n+1=>fnOf 2 2 (xS (je n))
def HR:aN:=
  (a4 (uP (cF u3 (aa (eX 1 [0,1] (nf (bf tg (aa (I 0) aj))) fx (ab (kK false) (ab lp (I 1) (bf lh (aa (eD (aa (I 0) aj)) aj))) (I 2))) aj))))
def vT:bq:=fnOf 2 2 HR
def H9:aN:=
  (a4 (eX 1 [1] (nf (I 1)) (aL (bf vT (aa (I 0) (aa (I 1) aj)))) (I 0)))
def H8:aN:=
  bO (b' 1 (eX 1 [0] (nf (bf zy (aa (bf ti (aa (I 0) aj)) aj))) (aL (bf (je 12) (aa (I 1) (aa (I 0) aj)))) (I 0))) H9
def vY:bq:=fnOf 1 2 H8
def y':aN:=
  (b3 (aL (ab oEq (ab rp (I 0) (I 2)) (af (.int 0)))) (a4 (I 2)) bT)
def Hy:aN:=
  (a4 (af (.aJ)))
def Hx:aN:=
  bO (jZ 2 (sG (I 1)) y') Hy
def vR:bq:=fnOf 2 3 Hx
def zc:aN:=
  (bO (b' 4 (bf vR (aa (I 3) (aa (I 2) aj))))
  (b3 (aL (ab iX (I 4) (af (.aJ)))) (a4 (bU (aa (I 3) (aa (I 4) aj)))) bT))
def Iy:aN:=
  (a4 (af (.aJ)))
def Iw:aN:=
  bO (jZ 3 (sG (bf vY (aa (I 0) aj))) zc) Iy
def Iv:aN:=
  bO (b' 2 (bf vY (aa (I 1) aj))) Iw
def zA:bq:=fnOf 2 5 Iv
def HP:aN:=
  (a4 (ab jI (bf zA (aa (ab aH (I 0) (af (.int 0))) (aa (ab aH (I 0) (af (.int 1))) aj))) (af (.aJ))))
def HO:aN:=
  bO (b3 (e' (d_ (aL (bf zv (aa (I 0) aj)))) (e' (d_ (aL (bf vW (aa (ab aH (I 0) (af (.int 0))) aj)))) (d_ (aL (bf vW (aa (ab aH (I 0) (af (.int 1))) aj)))))) (a4 (af (.ay false))) bT) HP
def pZ:bq:=fnOf 1 1 HO
def Ii:aN:=
  (a4 (ab tx (bf ti (aa (ab aH (I 0) (af (.int 0))) aj)) (bf ti (aa (ab aH (I 0) (af (.int 1))) aj))))
def zz:bq:=fnOf 1 1 Ii
def Ij:aN:=
  (a4 (bf tg (aa (bf zz (aa (I 0) aj)) aj)))
def ma:bq:=fnOf 1 1 Ij
def HT:aN:=
  (a4 (cF n4 (aa (eX 1 [] (MJ (I 0)) fx (ab (rr false) (I 0) (af (.str "abcdefghijklmnopqrstuvwxyz")))) aj)))
def HS:aN:=
  bO (b3 (e' (d_ (aL (cF gV (aa (I 0) (aa (af (.ty "str")) aj))))) (d_ (aL (fD oLe oLe (af (.int 1)) (cF m7 (aa (I 0) aj)) (af (.int 8)))))) (a4 (af (.ay false))) bT) HT
def vU:bq:=fnOf 1 1 HS
def HU:aN:=
  (a4 (jY (bf l' (aa (I 0) aj)) (ab oLt (cF u2 (aa (I 0) aj)) (ab oG (af (.int 10)) (af (.int 60))))))
def vV:bq:=fnOf 1 1 HU
def HN:aN:=
  (a4 (jY (bf vV (aa (I 0) aj)) (ab tB (I 0) (af (.int 0)))))
def zu:bq:=fnOf 1 1 HN
def Hz:aN:=
  (a4 (Cd y8 (I 0)))
def Ex:bq:=fnOf 1 1 Hz
def uJ:aN:=
  (a4 (bf pZ (aa (I 1) aj)))
def uI:aN:=
  bO (b3 (aL (ab oEq (I 0) (af (.str "fence")))) (a4 (bf zu (aa (I 1) aj))) bT) uJ
def uH:aN:=
  bO (b3 (aL (ab oEq (I 0) (af (.str "number")))) (a4 (bf vV (aa (I 1) aj))) bT) uI
def uG:aN:=
  bO (b3 (aL (ab oEq (I 0) (af (.str "name")))) (a4 (bf vU (aa (I 1) aj))) bT) uH
def oz:bq:=fnOf 2 2 uG
def HM:aN:=
  (a4 (cF n4 (aa (uN [] (aa (I 1) (aa (Cb (I 0) (ks (af (.int 1))) j0) aj)) fx (bf oz (aa (I 0) (aa (I 1) aj)))) aj)))
def HL:aN:=
  bO (b3 (e' (aL (ab jI (I 1) (af (.aJ)))) (aL (ab dA (cF gW (aa (I 0) aj)) (ab eE (cF gW (aa (I 1) aj)) (af (.int 1)))))) (a4 (af (.ay false))) bT) HM
def HK:aN:=
  bO (b' 1 (bf Ex (aa (ab aH (I 0) (af (.int 0))) aj))) HL
def HJ:aN:=
  bO (b3 (e' (d_ (aL (cF gV (aa (I 0) (aa (af (.ty "tuple")) aj))))) (e' (aL (ab oEq (cF gW (aa (I 0) aj)) (af (.int 0)))) (d_ (aL (cF gV (aa (ab aH (I 0) (af (.int 0))) (aa (af (.ty "str")) aj))))))) (a4 (af (.ay false))) bT) HK
def nr:bq:=fnOf 1 2 HJ
def R1:aN:=
  (a4 (bU (aa (bU aj) (aa (bU aj) (aa (bU (aa (af (.int 0)) (aa (af (.aJ)) aj))) (aa (af (.aJ)) aj))))))
def NL:bq:=fnOf 0 0 R1
def mW:aN:=
  (a4 (ab aH (I 0) (af (.int 2))))
def jH:bq:=fnOf 1 1 mW
def B0:aN:=
  (a4 (ab aH (I 0) (af (.int 3))))
def oA:bq:=fnOf 1 1 B0
def HW:aN:=
  (a4 (ab iX (bf oA (aa (I 0) aj)) (af (.aJ))))
def l_:bq:=fnOf 1 1 HW
def y9:aN:=
  (b3 (aL (ab oEq (ab aH (I 2) (af (.int 0))) (I 1))) (a4 (ab aH (I 2) (af (.int 1)))) bT)
def Ho:aN:=
  (a4 (af (.int 0)))
def Hn:aN:=
  bO (jZ 2 (la (ab aH (I 0) (af (.int 0)))) y9) Ho
def s':bq:=fnOf 2 3 Hn
def IA:aN:=
  (a4 (bU (aa (cF pJ (aa (px l7 (fnOf 1 1 (a4 (ab aH (I 0) (af (.int 0))))) (I 3)) aj)) (aa (ab aH (I 0) (af (.int 1))) (aa (ab aH (I 0) (af (.int 2))) (aa (ab aH (I 0) (af (.int 3))) aj))))))
def Iz:aN:=
  bO (b3 (aL (ab dA (I 2) (af (.int 0)))) (qA 3 kQ (aa (bU (aa (I 1) (aa (I 2) aj))) aj)) bT) IA
def B1:aN:=
  bO (lQ 3 (eX 1 [1] (la (ab aH (I 0) (af (.int 0)))) (aL (ab dA (ab aH (I 0) (af (.int 0))) (I 1))) (I 0))) Iz
def rj:bq:=fnOf 3 4 B1
def WV(T:Txt P w K mg base):eU P w K mg base "with_cell" ["slate","name","n"] 4 (e1 K mg rj):=by
 show eU P w K mg base _ _ _ (e1 K mg (fnOf 3 4 B1));obtain⟨c,e4,L,e⟩:=T.Ed;refine yD (k:=3) T.Cv.d e T.Cv.s rfl rfl λf A outer s H E a=>?_
 have b:=a.units;refine ht.un ?_;refine nF ?_ (nF ?_ (qj ?_))
 .exact(AK (i:=3) (esc:=(dd FF)) (EN:=["slate","name","n","cells"]) (N:=["cell","name"]) (n:=1) (cap:=[1]) ⟨rfl,by decide +kernel,by decide +kernel,by decide +kernel,by decide +kernel,rfl,by decide +kernel⟩ T.Cv.s.fM rfl rfl (by decide) (AF (hk ha g6 (dO 0) gD)) rfl (λ_ _ _ _=>⟨al3 rfl,rfl⟩) (λ_ _ _ _=>(AG (iZ (tG b) r5 (hk ha g6 (dO 0) gD) (dO 1)))) (λ_ _ _ _=>(dO 0)))
 .exact(Ge (iZ (tG b) r5 (dO 2) gD) (qj (xa (i:=3) al4 al5 tq vE (eQ (o5 (eQ (dO 1) (eQ (dO 2) iY))) iY) rfl (.inl rfl))) Gg)
 .exact(rN (o5 (eQ (w_ x7 y3 rfl T.B.tuple' uL (eQ (F' (k:=0) (N:=["cell"]) (p1:="cell") Y6 rfl T.B.sorted (a.mono (by omega)) L T.bm rfl rfl ⟨rfl,rfl,rfl,by decide +kernel,rfl,by decide +kernel,by decide +kernel⟩ (λ_ _ _ _=>rfl) (λ_ _ _ _ _ _=>(hk ha g6 (dO 0) gD)) (dO 3)) iY)) (eQ (hk ha g6 (dO 0) gD) (eQ (hk ha g6 (dO 0) gD) (eQ (hk ha g6 (dO 0) gD) iY))))))
def y_:aN:=
  (b3 (aL (ab oEq (ab aH (I 2) (af (.int 0))) (I 1))) (a4 (I 2)) bT)
def Hv:aN:=
  (a4 (bU (aa (I 1) (aa (af (.int 0)) (aa (af (.aJ)) aj)))))
def Hu:aN:=
  bO (jZ 2 (la (ab aH (I 0) (af (.int 1)))) y_) Hv
def pX:bq:=fnOf 2 3 Hu
def IC:aN:=
  (a4 (bU (aa (ab aH (I 0) (af (.int 0))) (aa (cF pJ (aa (px ft (fnOf 1 1 (a4 (ab aH (I 0) (af (.int 0))))) (I 4)) aj)) (aa (ab aH (I 0) (af (.int 2))) (aa (ab aH (I 0) (af (.int 3))) aj))))))
def IB:aN:=
  bO (qA 4 kQ (aa (bU (aa (I 1) (aa (I 2) (aa (I 3) aj)))) aj)) IC
def B2:aN:=
  bO (lQ 4 (eX 1 [1] (la (ab aH (I 0) (af (.int 1)))) (aL (ab dA (ab aH (I 0) (af (.int 0))) (I 1))) (I 0))) IB
def zB:bq:=fnOf 4 5 B2
def WW(T:Txt P w K mg base):eU P w K mg base "with_doing" ["slate","asker","number","answer"] 4 (e1 K mg zB):=by
 show eU P w K mg base _ _ _ (e1 K mg (fnOf 4 5 B2));obtain⟨c,e4,L,e⟩:=T.Ee;refine yD (k:=3) T.Cw.d e T.Cw.s rfl rfl λf A outer s H E a=>?_
 have b:=a.units;refine ht.un ?_;refine nF ?_ (nF ?_ (qj ?_))
 .exact(AK (i:=4) (esc:=(dd FG)) (EN:=["slate","asker","number","answer","doings"]) (N:=["doing","asker"]) (n:=1) (cap:=[1]) ⟨rfl,by decide +kernel,by decide +kernel,by decide +kernel,by decide +kernel,rfl,by decide +kernel⟩ T.Cw.s.fM rfl rfl (by decide) (AF (hk ha g6 (dO 0) gD)) rfl (λ_ _ _ _=>⟨al3 rfl,rfl⟩) (λ_ _ _ _=>(AG (iZ (tG b) r5 (hk ha g6 (dO 0) gD) (dO 1)))) (λ_ _ _ _=>(dO 0)))
 .exact(xa (i:=4) al4 al5 tq vE (eQ (o5 (eQ (dO 1) (eQ (dO 2) (eQ (dO 3) iY)))) iY) rfl (.inl rfl))
 .exact(rN (o5 (eQ (hk ha g6 (dO 0) gD) (eQ (w_ x7 y3 rfl T.B.tuple' uL (eQ (F' (k:=0) (N:=["doing"]) (p1:="doing") Nj rfl T.B.sorted (a.mono (by omega)) L T.bm rfl rfl ⟨rfl,rfl,rfl,by decide +kernel,rfl,by decide +kernel,by decide +kernel⟩ (λ_ _ _ _=>rfl) (λ_ _ _ _ _ _=>(hk ha g6 (dO 0) gD)) (dO 4)) iY)) (eQ (hk ha g6 (dO 0) gD) (eQ (hk ha g6 (dO 0) gD) iY))))))
def ID:aN:=
  (a4 (bU (aa (ab aH (I 0) (af (.int 0))) (aa (ab aH (I 0) (af (.int 1))) (aa (bU (aa (I 1) (aa (I 2) aj))) (aa (ab aH (I 0) (af (.int 3))) aj))))))
def zC:bq:=fnOf 3 3 ID
def IG:aN:=
  (a4 (bU (aa (ab aH (I 0) (af (.int 0))) (aa (ab aH (I 0) (af (.int 1))) (aa (ab aH (I 0) (af (.int 2))) (aa (I 1) aj))))))
def tm:bq:=fnOf 2 2 IG
def Ir:aN:=
  (a4 (bf tm (aa (I 0) (aa (af (.aJ)) aj))))
def tl:bq:=fnOf 1 1 Ir
def Ht:aN:=
  (a4 (bU (aa (bf rj (aa (I 0) (aa (ab aH (I 2) (af (.int 1))) (aa (ab aH (I 2) (af (.int 2))) aj)))) (aa (bf s' (aa (I 0) (aa (ab aH (I 2) (af (.int 1))) aj))) aj))))
def vQ:bq:=fnOf 3 3 Ht
def Hq:aN:=
  (a4 (bU (aa (bf rj (aa (I 0) (aa (ab aH (I 2) (af (.int 1))) (aa (I 3) aj)))) (aa (I 3) aj))))
def Hp:aN:=
  bO (b' 3 (ab eE (bf s' (aa (I 0) (aa (ab aH (I 2) (af (.int 1))) aj))) (ab aH (I 2) (af (.int 2))))) Hq
def vN:bq:=fnOf 3 4 Hp
def BJ:aN:=
  (a4 (bU (aa (bf rj (aa (I 0) (aa (ab aH (I 2) (af (.int 1))) (aa (ab aH (I 2) (af (.int 3))) aj)))) (aa (af (.int 1)) aj))))
def BI:aN:=
  bO (b3 (aL (ab dA (bf s' (aa (I 0) (aa (ab aH (I 2) (af (.int 1))) aj))) (ab aH (I 2) (af (.int 2))))) (a4 (bU (aa (I 0) (aa (af (.int 0)) aj)))) bT) BJ
def td:bq:=fnOf 3 3 BI
def H_:aN:=
  (a4 (bU (aa (bf zC (aa (I 0) (aa (ab eE (I 1) (af (.int 1))) (aa (I 2) aj)))) (aa (bU (aa (af (.int 1)) (aa (ab eE (I 1) (af (.int 1))) (aa (I 2) aj)))) aj))))
def th:bq:=fnOf 3 3 H_
def Iq:aN:=
  (a4 (bU (aa (I 0) (aa (bU (aa (af (.int 0)) (aa (ab aH (I 1) (af (.int 0))) (aa (ab aH (I 1) (af (.int 1))) aj)))) aj))))
def Ip:aN:=
  bO (b' 1 (bf jH (aa (I 0) aj))) Iq
def tj:bq:=fnOf 1 2 Ip
def BL:aN:=
  (a4 (bf th (aa (I 0) (aa (ab aH (I 2) (af (.int 1))) (aa (I 1) aj)))))
def BK:aN:=
  bO (b3 (aL (ab dA (ab aH (bf jH (aa (I 0) aj)) (af (.int 0))) (ab aH (I 2) (af (.int 1))))) (a4 (bf tj (aa (I 0) aj))) bT) BL
def tf:bq:=fnOf 3 3 BK
def BF:aN:=
  (a4 (bf th (aa (I 0) (aa (ab aH (I 2) (af (.int 1))) (aa (I 1) aj)))))
def BE:aN:=
  bO (b3 (aL (ab dA (bf jH (aa (I 0) aj)) (bU (aa (ab aH (I 2) (af (.int 1))) (aa (I 1) aj))))) (a4 (bf tj (aa (I 0) aj))) bT) BF
def tb:bq:=fnOf 3 3 BE
def BD:aN:=
  (a4 (bf th (aa (I 0) (aa (ab aH (I 2) (af (.int 1))) (aa (af (.aJ)) aj)))))
def BC:aN:=
  bO (b3 (aL (ab dA (bf jH (aa (I 0) aj)) (bU (aa (ab aH (I 2) (af (.int 1))) (aa (I 1) aj))))) (a4 (bf tj (aa (I 0) aj))) bT) BD
def ta:bq:=fnOf 3 3 BC
def BH:aN:=
  (a4 (bU (aa (bf rj (aa (I 0) (aa (ab aH (I 2) (af (.int 2))) (aa (ab aH (I 2) (af (.int 3))) aj)))) (aa (af (.int 1)) aj))))
def BG:aN:=
  bO (b3 (aL (ab dA (bf jH (aa (I 0) aj)) (bU (aa (ab aH (I 2) (af (.int 1))) (aa (I 1) aj))))) (a4 (bU (aa (I 0) (aa (af (.int 0)) aj)))) bT) BH
def tc:bq:=fnOf 3 3 BG
def Hs:aN:=
  (a4 (bU (aa (bf tm (aa (I 0) (aa (ab aH (I 2) (af (.int 1))) aj))) (aa (af (.int 1)) aj))))
def vP:bq:=fnOf 3 3 Hs
def Hr:aN:=
  (a4 (bU (aa (bf tm (aa (I 0) (aa (af (.str "over")) aj))) (aa (af (.int 1)) aj))))
def vO:bq:=fnOf 3 3 Hr
abbrev hU:List (Str×bq):=[("do_put",vQ),("do_add",vN),("do_swap",td),("do_take",tf),("do_renew",tb),("do_free",ta),("do_sure",tc),("do_move",vP),("do_end",vO)]
def mY:aN:=
  (a4 (B' 3 hU (aa (I 0) (aa (I 1) (aa (I 2) aj)))))
def mX:aN:=
  bO (b' 3 (Cc hj (ab aH (I 2) (af (.int 0))))) mY
def e8:bq:=fnOf 3 4 mX
def BO:aN:=
  (a4 (bf zB (aa (ab aH (I 4) (af (.int 0))) (aa (I 1) (aa (I 2) (aa (ab aH (I 4) (af (.int 1))) aj))))))
def BN:aN:=
  bO (b' 4 (bf e8 (aa (I 0) (aa (I 1) (aa (I 3) aj))))) BO
def BM:aN:=
  bO (b3 (e' (aL (ab jI (I 3) (af (.aJ)))) (e' (aL (bf l_ (aa (I 0) aj))) (aL (ab tB (ab aH (bf pX (aa (I 0) (aa (I 1) aj))) (af (.int 1))) (I 2))))) (a4 (I 0)) bT) BN
def nq:bq:=fnOf 4 5 BM
def R0:aN:=
  (a4 (bU (aa (af (.str "ask")) (aa (I 0) (aa (I 1) (aa (I 2) (aa (I 3) (aa (bU aj) aj))))))))
def NK:bq:=fnOf 4 4 R0
def Sm:aN:=
  (a4 (bU (aa (af (.str "tell")) (aa (I 0) (aa (I 1) (aa (I 2) (aa (I 3) (aa (I 4) aj))))))))
def NO:bq:=fnOf 5 5 Sm
def RZ:aN:=
  (a4 (bU (aa (I 1) (aa (ab aH (I 0) (af (.int 2))) (aa (ab aH (I 0) (af (.int 1))) (aa (ab aH (I 0) (af (.int 3))) (aa (ab aH (I 0) (af (.int 4))) (aa (I 2) aj))))))))
def vM:bq:=fnOf 3 3 RZ
def HA:aN:=
  (a4 (ab (kK false) (ab aH (I 0) (af (.int 0))) (bU (aa (af (.str "ask")) (aa (af (.str "tell")) aj)))))
def ox:bq:=fnOf 1 1 HA
def G_:bX:=
  bB (dT "Asker" "me" (I 0) (dJ (I 1))) (bB (dT "Asker" "epoch" (I 0) (dJ (af (.int 0)))) (bB (dT "Asker" "hall" (I 0) (dJ (I 2))) (bB (dT "Asker" "opening" (I 0) (dJ (bf NL aj))) (bB (dT "Asker" "over_known" (I 0) (dJ (af (.ay false)))) (bB (dT "Asker" "greatest_round" (I 0) (dJ (af (.int 0)))) (bB (dT "Asker" "last_stamp" (I 0) (dJ (bU (aa (af (.int 0)) (aa (af (.int 0)) aj))))) (bB (dT "Asker" "wishes" (I 0) (dJ (af (.int 0)))) (bB (dT "Asker" "deed" (I 0) (dJ (af (.aJ)))) (bB (dT "Asker" "standing" (I 0) (dJ (af (.str "calm")))) (bB (dT "Asker" "last_outcome" (I 0) (dJ (af (.aJ)))) (bB (dT "Asker" "grants" (I 0) (lB (dJ (eD aj)))) (bB (dT "Asker" "kept_mask" (I 0) (dJ (af (.int 0)))) (dT "Asker" "told_slate" (I 0) (dJ (af (.aJ))))))))))))))))
def sZ:d2:=fnX 3 3 G_
def RA:bX:=
  bB (dT "Asker" "greatest_round" (I 0) (dJ (ab eE (bb (bY "Asker" "greatest_round") (I 0)) (af (.int 1))))) (bB (dT "Asker" "last_stamp" (I 0) (dJ (bU (aa (bb (bY "Asker" "greatest_round") (I 0)) (aa (bb (bY "Asker" "me") (I 0)) aj))))) (bB (dT "Asker" "standing" (I 0) (dJ (af (.str "asking")))) (bB (dT "Asker" "grants" (I 0) (lB (dJ (eD aj)))) (b5 (a4 (eX 1 [0] (nf (bf ma (aa (bb (bY "Asker" "hall") (I 0)) aj))) fx (bf NK (aa (bb (bY "Asker" "me") (I 1)) (aa (I 0) (aa (bb (bY "Asker" "epoch") (I 1)) (aa (bb (bY "Asker" "last_stamp") (I 1)) aj)))))))))))
def vF:d2:=fnX 1 1 RA
def G':bX:=
  bB (b5 (b3 (gN (aL (ab iX (I 1) (af (.aJ)))) (d_ (aL (bf nr (aa (I 1) aj))))) nT bT)) (bB (b5 (b3 (aL (bb (bY "Asker" "over_known") (I 0))) nT bT)) (bB (b5 (b3 (aL (ab dA (bb (bY "Asker" "standing") (I 0)) (af (.str "calm")))) nT bT)) (bB (dT "Asker" "wishes" (I 0) (dJ (ab eE (bb (bY "Asker" "wishes") (I 0)) (af (.int 1))))) (bB (dT "Asker" "deed" (I 0) (dJ (I 1))) (bB (dT "Asker" "last_outcome" (I 0) (dJ (af (.aJ)))) (jP (dZ "Asker" "ask_members" vF (I 0) qk)))))))
def zk:d2:=fnX 2 2 G'
def RB:bX:=
  bB (b5 (b3 (aL (ab oEq (bb (bY "Asker" "standing") (I 0)) (af (.str "calm")))) (a4 (eD aj)) bT)) (jP (dZ "Asker" "ask_members" vF (I 0) qk))
def s6:d2:=fnX 1 1 RB
def RF:aN:=
  bO (b3 (e' (aL (ab dA (ab aH (I 1) (af (.int 3))) (bb (bY "Asker" "epoch") (I 0)))) (aL (ab dA (ab aH (I 1) (af (.int 4))) (bb (bY "Asker" "last_stamp") (I 0))))) (a4 (af (.ay false))) bT) (a4 (ab (kK false) (ab aH (I 1) (af (.int 1))) (bf ma (aa (bb (bY "Asker" "hall") (I 0)) aj))))
def zl:bq:=fnOf 2 2 RF
def Hh:aN:=
  bO (b3 (e' (aL (bf l_ (aa (I 1) aj))) (d_ (aL (bf vL (aa (g7 (bb (bY "Asker" "grants") (I 0))) aj))))) (a4 (af (.ay false))) bT) (a4 (bf (je 12) (aa (ab aH (bb (bY "Asker" "hall") (I 0)) (af (.int 1))) (aa (bf oy (aa (g7 (bb (bY "Asker" "grants") (I 0))) aj)) aj))))
def vG:bq:=fnOf 2 2 Hh
def Hc:bX:=
  bB (dT "Asker" "standing" (I 0) (dJ (af (.str "calm")))) (dT "Asker" "last_outcome" (I 0) (dJ (I 1)))
def pV:d2:=fnX 2 2 Hc
def RC:bX:=
  bB (fz (fH (gN (aL (ab jI (bb (bY "Asker" "deed") (I 0)) (af (.aJ)))) (aL (dk "Asker" "sees_at_once" vG (I 0) (aa (ab aH (I 1) (af (.int 1))) aj))))) (bB (hn (dZ "Asker" "end_wish" pV (I 0) (eF (aa (bU (aa (af (.str "saw")) (aa (bU (aa (bb (bY "Asker" "epoch") (I 0)) (aa (ab aH (I 1) (af (.int 0))) (aa (ab aH (I 1) (af (.int 1))) aj)))) aj))) aj))))
  (b5 (a4 (eD aj)))) (b5 bT)) (bB (dT "Asker" "standing" (I 0) (dJ (af (.str "telling")))) (bB (dT "Asker" "kept_mask" (I 0) (dJ (af (.int 0)))) (bB (dT "Asker" "told_slate" (I 0) (dJ (bf nq (aa (ab aH (I 1) (af (.int 1))) (aa (bb (bY "Asker" "me") (I 0)) (aa (bb (bY "Asker" "wishes") (I 0)) (aa (bb (bY "Asker" "deed") (I 0)) aj))))))) (bB (b5 (b' 2 (bU (aa (ab aH (I 1) (af (.int 0))) (aa (bb (bY "Asker" "wishes") (I 0)) (aa (bb (bY "Asker" "deed") (I 0)) (aa (bb (bY "Asker" "told_slate") (I 0)) aj))))))) (b5 (a4 (eX 1 [0,2] (nf (bf ma (aa (bb (bY "Asker" "hall") (I 0)) aj))) fx (bf NO (aa (bb (bY "Asker" "me") (I 1)) (aa (I 0) (aa (bb (bY "Asker" "epoch") (I 1)) (aa (bb (bY "Asker" "last_stamp") (I 1)) (aa (I 2) aj)))))))))))))
def s7:d2:=fnX 2 3 RC
def RE:bX:=
  bB (b5 (b3 (aL (bf pY (aa (bf oy (aa (g7 (bb (bY "Asker" "grants") (I 0))) aj)) (aa (ab aH (I 1) (af (.int 1))) aj)))) (a4 (eD aj)) bT)) (bB (nH kQ (bb (bY "Asker" "grants") (I 0)) (aa (bU (aa (ab aH (I 1) (af (.int 1))) (aa (ab aH (ab aH (I 1) (af (.int 5))) (af (.int 0))) (aa (ab aH (ab aH (I 1) (af (.int 5))) (af (.int 1))) aj)))) aj)) (bB (b5 (b3 (d_ (aL (bf (je 12) (aa (ab aH (bb (bY "Asker" "hall") (I 0)) (af (.int 0))) (aa (bf oy (aa (g7 (bb (bY "Asker" "grants") (I 0))) aj)) aj))))) (a4 (eD aj)) bT)) (jP (dZ "Asker" "go_on" s7 (I 0) (eF (aa (bf zt (aa (g7 (bb (bY "Asker" "grants") (I 0))) (aa (bb (bY "Asker" "opening") (I 0)) aj))) aj))))))
def s8:d2:=fnX 2 2 RE
def Hb:bX:=
  (fz (fH (aL (ab iX (bb (bY "Asker" "deed") (I 0)) (af (.aJ))))) (bB (b5 (b' 2 (bf pX (aa (I 1) (aa (bb (bY "Asker" "me") (I 0)) aj)))))
  (fz (fH (aL (ab oEq (ab aH (I 2) (af (.int 1))) (bb (bY "Asker" "wishes") (I 0))))) (hn (dZ "Asker" "end_wish" pV (I 0) (eF (aa (bU (aa (af (.str "did")) (aa (ab aH (I 2) (af (.int 2))) aj))) aj)))) (b5 bT))) (fz (fH (d_ (aL (bf l_ (aa (I 1) aj))))) (hn (dZ "Asker" "end_wish" pV (I 0) (eF (aa (bU (aa (af (.str "saw")) (aa (bU (aa (bb (bY "Asker" "epoch") (I 0)) (aa (bb (bY "Asker" "last_stamp") (I 0)) (aa (I 1) aj)))) aj))) aj)))) (fz (fH (aL (ab oEq (bf oA (aa (I 1) aj)) (af (.str "over"))))) (hn (dZ "Asker" "end_wish" pV (I 0) (eF (aa (bU (aa (af (.str "saw")) (aa (bU (aa (bb (bY "Asker" "epoch") (I 0)) (aa (af (.aJ)) (aa (I 1) aj)))) aj))) aj)))) (b5 bT))))
def Ha:bX:=
  bB (b5 (b' 1 (bb (bY "Asker" "told_slate") (I 0)))) Hb
def Ep:d2:=fnX 1 3 Ha
def RH:bX:=
  bB (dT "Asker" "over_known" (I 0) (dJ (af (.ay true)))) (fz (fH (aL (ab dA (bb (bY "Asker" "standing") (I 0)) (af (.str "calm"))))) (hn (dZ "Asker" "end_wish" pV (I 0) (eF (aa (bU (aa (af (.str "over")) (aa (af (.aJ)) aj))) aj)))) (b5 bT))
def Es:d2:=fnX 1 1 RH
def He:bX:=
  bB (b5 (b3 (aL (ab oEq (bb (bY "Asker" "standing") (I 0)) (af (.str "calm")))) (a4 (eD aj)) bT)) (jP (dZ "Asker" "ask_members" vF (I 0) qk))
def Hd:bX:=
  bB (dT "Asker" "epoch" (I 0) (dJ (ab eE (bb (bY "Asker" "epoch") (I 0)) (af (.int 1))))) (bB (dT "Asker" "hall" (I 0) (dJ (I 1))) (bB (dT "Asker" "opening" (I 0) (dJ (bf tl (aa (bb (bY "Asker" "told_slate") (I 0)) aj)))) He))
def rd:d2:=fnX 2 2 Hd
def Hg:bX:=
  bB (fz (fH (aL (ab oEq (I 2) (af (.str "over"))))) (bB (hn (dZ "Asker" "learn_over" Es (I 0) qk))
  (b5 (a4 (eD aj)))) (b5 bT)) (jP (dZ "Asker" "go_over" rd (I 0) (eF (aa (I 2) aj))))
def BB:bX:=
  bB (b5 (b3 (aL (ab jI (I 2) (af (.aJ)))) (a4 (eD aj)) bT)) Hg
def Hf:bX:=
  bB (b5 (b3 (d_ (aL (bf (je 12) (aa (ab aH (bb (bY "Asker" "hall") (I 0)) (af (.int 1))) (aa (bb (bY "Asker" "kept_mask") (I 0)) aj))))) (a4 (eD aj)) bT)) (bB (hn (dZ "Asker" "end_where_told" Ep (I 0) qk)) (bB (b5 (b' 2 (bf oA (aa (bb (bY "Asker" "told_slate") (I 0)) aj)))) BB))
def BA:bX:=
  bB (dT "Asker" "kept_mask" (I 0) (dJ (ab tx (bb (bY "Asker" "kept_mask") (I 0)) (bf lh (aa (eD (aa (ab aH (I 1) (af (.int 1))) aj)) aj))))) Hf
def rf:d2:=fnX 2 3 BA
def RD:bX:=
  bB (b5 (b3 (aL (ab dA (ab aH (I 1) (af (.int 2))) (bb (bY "Asker" "me") (I 0)))) (a4 (eD aj)) bT)) (bB (fz (fH (aL (ab oEq (ab aH (I 1) (af (.int 0))) (af (.str "late"))))) (bB (dT "Asker" "greatest_round" (I 0) (dJ (cF Ls (aa (bb (bY "Asker" "greatest_round") (I 0)) (aa (ab aH (ab aH (ab aH (I 1) (af (.int 5))) (af (.int 0))) (af (.int 0))) aj)))))
  (b5 (a4 (eD aj)))) (b5 bT)) (bB (b5 (b3 (d_ (aL (dk "Asker" "is_for_now" zl (I 0) (aa (I 1) aj)))) (a4 (eD aj)) bT)) (bB (fz (fH (gN (aL (ab oEq (ab aH (I 1) (af (.int 0))) (af (.str "grant")))) (aL (ab oEq (bb (bY "Asker" "standing") (I 0)) (af (.str "asking")))))) (jP (dZ "Asker" "hear_grant" s8 (I 0) (eF (aa (I 1) aj)))) (b5 bT)) (bB (fz (fH (gN (aL (ab oEq (ab aH (I 1) (af (.int 0))) (af (.str "kept")))) (aL (ab oEq (bb (bY "Asker" "standing") (I 0)) (af (.str "telling")))))) (jP (dZ "Asker" "hear_kept" rf (I 0) (eF (aa (I 1) aj)))) (b5 bT)) (b5 (a4 (eD aj)))))))
def kb:d2:=fnX 2 2 RD
def RJ:aN:=
  (a4 (bb (bY "Asker" "last_outcome") (I 0)))
def Et:bq:=fnOf 1 1 RJ
def RI:aN:=
  (a4 (bb (bY "Asker" "wishes") (I 0)))
def zm:bq:=fnOf 1 1 RI
def RL:aN:=
  (a4 (bb (bY "Asker" "standing") (I 0)))
def s9:bq:=fnOf 1 1 RL
def RK:aN:=
  (a4 (bU (aa (bb (bY "Asker" "epoch") (I 0)) (aa (bb (bY "Asker" "hall") (I 0)) (aa (bb (bY "Asker" "opening") (I 0)) aj)))))
def Eu:bq:=fnOf 1 1 RK
def RG:aN:=
  (a4 (bb (bY "Asker" "over_known") (I 0)))
def Er:bq:=fnOf 1 1 RG
def zb:aN:=
  (b3 (aL (ab oEq (ab aH (I 2) (af (.int 0))) (I 1))) (a4 (qB (I 2) (ks (af (.int 1))) j0)) bT)
def Iu:aN:=
  (a4 (bU (aa (bU (aa (af (.int 0)) (aa (af (.int 0)) aj))) (aa (bU (aa (af (.int 0)) (aa (af (.int 0)) aj))) (aa (af (.aJ)) aj)))))
def It:aN:=
  bO (jZ 2 (la (I 0)) zb) Iu
def vZ:bq:=fnOf 2 3 It
def IF:aN:=
  (a4 (cF pJ (aa (px ft (fnOf 1 1 (a4 (ab aH (I 0) (af (.int 0))))) (I 5)) aj)))
def IE:aN:=
  bO (qA 5 kQ (aa (bU (aa (I 1) (aa (I 2) (aa (I 3) (aa (I 4) aj))))) aj)) IF
def B3:aN:=
  bO (lQ 5 (eX 1 [1] (la (I 0)) (aL (ab dA (ab aH (I 0) (af (.int 0))) (I 1))) (I 0))) IE
def v3:bq:=fnOf 5 6 B3
def WY(T:Txt P w K mg base):eU P w K mg base "with_page" ["book","epoch","promised","kept","slate"] 4 (e1 K mg v3):=by
 show eU P w K mg base _ _ _ (e1 K mg (fnOf 5 6 B3));obtain⟨c,e4,L,e⟩:=T.Ef;refine yD (k:=3) T.Cx.d e T.Cx.s rfl rfl λf A outer s H E a=>?_
 have b:=a.units;refine ht.un ?_;refine nF ?_ (nF ?_ (qj ?_))
 .exact(AK (i:=5) (esc:=(dd FH)) (EN:=["book","epoch","promised","kept","slate","pages"]) (N:=["page","epoch"]) (n:=1) (cap:=[1]) ⟨rfl,by decide +kernel,by decide +kernel,by decide +kernel,by decide +kernel,rfl,by decide +kernel⟩ T.Cx.s.fM rfl rfl (by decide) (AF (dO 0)) rfl (λ_ _ _ _=>⟨al3 rfl,rfl⟩) (λ_ _ _ _=>(AG (iZ (tG b) r5 (hk ha g6 (dO 0) gD) (dO 1)))) (λ_ _ _ _=>(dO 0)))
 .exact(xa (i:=5) al4 al5 tq vE (eQ (o5 (eQ (dO 1) (eQ (dO 2) (eQ (dO 3) (eQ (dO 4) iY))))) iY) rfl (.inl rfl))
 .exact(rN (w_ x7 y3 rfl T.B.tuple' uL (eQ (F' (k:=0) (N:=["page"]) (p1:="page") Nj rfl T.B.sorted (a.mono (by omega)) L T.bm rfl rfl ⟨rfl,rfl,rfl,by decide +kernel,rfl,by decide +kernel,by decide +kernel⟩ (λ_ _ _ _=>rfl) (λ_ _ _ _ _ _=>(hk ha g6 (dO 0) gD)) (dO 5)) iY)))
def R_:aN:=
  (a4 (bU (aa (I 0) (aa (bf vM (aa (I 1) (aa (af (.str "late")) (aa (bU (aa (I 2) aj)) aj)))) aj))))
def Ez:bq:=fnOf 3 3 R_
def HD:aN:=
  bO (b3 (aL (ab (tA lexLe) (I 2) (ab aH (I 3) (af (.int 0))))) (a4 (bf Ez (aa (I 0) (aa (I 1) (aa (ab aH (I 3) (af (.int 0))) aj))))) bT) (a4 (bU (aa (bf v3 (aa (I 0) (aa (ab aH (I 1) (af (.int 3))) (aa (I 2) (aa (ab aH (I 3) (af (.int 1))) (aa (ab aH (I 3) (af (.int 2))) aj)))))) (aa (bf vM (aa (I 1) (aa (af (.str "grant")) (aa (qB (I 3) (ks (af (.int 1))) j0) aj)))) aj))))
def R3:aN:=
  bO (b' 2 (ab aH (I 1) (af (.int 4)))) (bO (b' 3 (bf vZ (aa (I 0) (aa (ab aH (I 1) (af (.int 3))) aj)))) HD)
def NM:bq:=fnOf 2 4 R3
def HE:aN:=
  bO (b3 (aL (ab (tA lexLt) (I 2) (I 3))) (a4 (bf Ez (aa (I 0) (aa (I 1) (aa (I 3) aj))))) bT) (a4 (bU (aa (bf v3 (aa (I 0) (aa (ab aH (I 1) (af (.int 3))) (aa (I 2) (aa (I 2) (aa (ab aH (ab aH (I 1) (af (.int 5))) (af (.int 3))) aj)))))) (aa (bf vM (aa (I 1) (aa (af (.str "kept")) (aa (bU aj) aj)))) aj))))
def R4:aN:=
  bO (b' 2 (ab aH (I 1) (af (.int 4)))) (bO (b' 3 (ab aH (bf vZ (aa (I 0) (aa (ab aH (I 1) (af (.int 3))) aj))) (af (.int 0)))) HE)
def NN:bq:=fnOf 2 4 R4
def R2:aN:=
  bO (b3 (aL (ab oEq (ab aH (I 1) (af (.int 0))) (af (.str "ask")))) (a4 (bf NM (aa (I 0) (aa (I 1) aj)))) bT) (a4 (bf NN (aa (I 0) (aa (I 1) aj))))
def kH:bq:=fnOf 2 2 R2
def Hi:bX:=
  bB (b5 (b3 (d_ (aL (bf pZ (aa (I 1) aj)))) nT bT)) (bB (b5 (b3 (e' (d_ (aL (bf l' (aa (I 2) aj)))) (d_ (aL (fD oLe oLe (af (.int 1)) (I 2) (af (.int 6)))))) nT bT)) (bB (dT "House" "askers" (I 0) (lB (xb 1 [1] (h2 (aa (I 2) aj)) (o7 "Asker" sZ (eF (aa (I 0) (aa (I 1) aj))))))) (bB (dT "House" "books" (I 0) (lB (dJ (eX 1 [] (h2 (aa (af (.int 6)) aj)) fx (bU aj))))) (bB (dT "House" "letters" (I 0) (lB (dJ (eD aj)))) (dT "House" "rows" (I 0) (lB (dJ (eD aj))))))))
def Ew:d2:=fnX 3 3 Hi
def RM:aN:=
  bO (b3 (e' (d_ (aL (bf l' (aa (I 1) aj)))) (d_ (aL (fD oLe oLt (af (.int 0)) (I 1) (cF gW (aa (g7 (bb (bY "House" "askers") (I 0))) aj)))))) nT bT) (a4 (ab aH (g7 (bb (bY "House" "askers") (I 0))) (I 1)))
def pW:bq:=fnOf 2 2 RM
def RU:aN:=
  (a4 (cF gW (aa (g7 (bb (bY "House" "letters") (I 0))) aj)))
def jG:bq:=fnOf 1 1 RU
def RY:bX:=
  bB (b5 (b' 2 (dk "House" "many" jG (I 0) aj))) (bB (nH w5 (bb (bY "House" "letters") (I 0)) (aa (I 1) aj)) (b5 (a4 (uO (aa (I 2) (aa (dk "House" "many" jG (I 0) aj) aj))))))
def s_:d2:=fnX 2 3 RY
def Hj:bX:=
  bB (b5 (b' 3 (dk "House" "asker_of" pW (I 0) (aa (I 1) aj)))) (bB (rP 4 (dZ "Asker" "begin" zk (I 3) (eF (aa (I 2) aj)))) (bB (nH kQ (bb (bY "House" "rows") (I 0)) (aa (bU (aa (af (.str "begin")) (aa (I 1) (aa (dk "Asker" "number" zm (I 3) aj) (aa (I 2) (aa (dk "House" "many" jG (I 0) aj) aj)))))) aj)) (jP (dZ "House" "write" s_ (I 0) (eF (aa (I 4) aj))))))
def rg:d2:=fnX 3 5 Hj
def RN:bX:=
  (jP (dZ "House" "write" s_ (I 0) (ud (dZ "Asker" "bell" s6 (dk "House" "asker_of" pW (I 0) (aa (I 1) aj)) qk) aj)))
def zo:d2:=fnX 2 2 RN
def RT:aN:=
  bO (b3 (e' (d_ (aL (bf l' (aa (I 1) aj)))) (d_ (aL (fD oLe oLt (af (.int 0)) (I 1) (dk "House" "many" jG (I 0) aj))))) nT bT) (a4 (ab aH (g7 (bb (bY "House" "letters") (I 0))) (I 1)))
def vJ:bq:=fnOf 2 2 RT
def RR:bX:=
  bB (b5 (b' 2 (bf kH (aa (ab aH (g7 (bb (bY "House" "books") (I 0))) (ab aH (I 1) (af (.int 2)))) (aa (I 1) aj))))) (bB (AL (bb (bY "House" "books") (I 0)) (ab aH (I 1) (af (.int 2))) (dJ (ab aH (I 2) (af (.int 0))))) (b5 (a4 (eD (aa (ab aH (I 2) (af (.int 1))) aj)))))
def vI:d2:=fnX 2 3 RR
def Hl:bX:=
  bB (fz (fH (gN (aL (ab dA (I 3) (af (.str "calm")))) (aL (ab oEq (dk "Asker" "stand" s9 (I 2) aj) (af (.str "calm")))))) (nH kQ (bb (bY "House" "rows") (I 0)) (aa (bU (aa (af (.str "end")) (aa (ab aH (I 1) (af (.int 2))) (aa (dk "Asker" "number" zm (I 2) aj) (aa (dk "Asker" "outcome" Et (I 2) aj) (aa (dk "House" "many" jG (I 0) aj) aj)))))) aj)) (b5 bT)) (b5 (a4 (I 4)))
def RQ:bX:=
  bB (b5 (b' 2 (ab aH (g7 (bb (bY "House" "askers") (I 0))) (ab aH (I 1) (af (.int 2)))))) (bB (b5 (b' 3 (dk "Asker" "stand" s9 (I 2) aj))) (bB (rP 4 (dZ "Asker" "hear" kb (I 2) (eF (aa (I 1) aj)))) Hl))
def rh:d2:=fnX 2 5 RQ
def Hk:bX:=
  bB (fz (fH (aL (bf ox (aa (I 2) aj)))) (jP (dZ "House" "write" s_ (I 0) (ud (dZ "House" "bring_to_keeper" vI (I 0) (eF (aa (I 2) aj))) aj))) (b5 bT)) (jP (dZ "House" "write" s_ (I 0) (ud (dZ "House" "bring_to_asker" rh (I 0) (eF (aa (I 2) aj))) aj)))
def RP:bX:=
  bB (b5 (b' 2 (dk "House" "letter" vJ (I 0) (aa (I 1) aj)))) Hk
def lg:d2:=fnX 2 3 RP
def RW:aN:=
  (a4 (cF u4 (aa (g7 (bb (bY "House" "letters") (I 0))) aj)))
def zq:bq:=fnOf 1 1 RW
def RO:aN:=
  (a4 (ab aH (g7 (bb (bY "House" "books") (I 0))) (I 1)))
def vH:bq:=fnOf 2 2 RO
def RX:aN:=
  (a4 (dk "Asker" "stand" s9 (dk "House" "asker_of" pW (I 0) (aa (I 1) aj)) aj))
def zr:bq:=fnOf 2 2 RX
def RV:aN:=
  (a4 (dk "Asker" "place" Eu (dk "House" "asker_of" pW (I 0) (aa (I 1) aj)) aj))
def vK:bq:=fnOf 2 2 RV
def RS:aN:=
  (a4 (dk "Asker" "knows_over" Er (dk "House" "asker_of" pW (I 0) (aa (I 1) aj)) aj))
def zp:bq:=fnOf 2 2 RS
def H2:aN:=
  (a4 (af (.int 0)))
def H0:aN:=
  bO (b3 (aL (ab oLt (I 1) (cF gW (aa (I 0) aj)))) (a4 (ab aH (I 0) (I 1))) bT) H2
def kc:bq:=fnOf 2 2 H0
def Ea(self:bq):aN:=
  (b3 (d_ (aL (bf self (aa (ab aH (I 0) (I 2)) (aa (ab aH (I 1) (I 2)) aj))))) (a4 (af (.ay false))) bT)
def Sf(self:bq):aN:=
  (a4 (af (.ay true)))
def Se(self:bq):aN:=
  bO (jZ 2 (h2 (aa (cF gW (aa (I 1) aj)) aj)) (Ea self)) (Sf self)
def HZ(self:bq):aN:=
  bO (b3 (aL (ab dA (cF gW (aa (I 0) aj)) (cF gW (aa (I 1) aj)))) (a4 (af (.ay false))) bT) (Se self)
def Sd(self:bq):aN:=
  bO (b3 (gN (aL (cF gV (aa (I 1) (aa (af (.ty "list")) aj)))) (d_ (aL (cF gV (aa (I 0) (aa (af (.ty "list")) aj)))))) (a4 (af (.ay false))) bT) (HZ self)
def BW(self:bq):aN:=
  bO (b3 (gN (aL (cF gV (aa (I 1) (aa (af (.ty "tuple")) aj)))) (d_ (aL (cF gV (aa (I 0) (aa (af (.ty "tuple")) aj)))))) (a4 (af (.ay false))) bT) (Sd self)
def Sb(self:bq):aN:=
  bO (b3 (aL (cF gV (aa (I 1) (aa (af (.ty "str")) aj)))) (a4 (jY (cF gV (aa (I 0) (aa (af (.ty "str")) aj))) (ab oEq (I 0) (I 1)))) bT) (BW self)
def Sa(self:bq):aN:=
  bO (b3 (aL (cF gV (aa (I 1) (aa (af (.ty "int")) aj)))) (a4 (jY (cF gV (aa (I 0) (aa (af (.ty "int")) aj))) (jY (uP (cF gV (aa (I 0) (aa (af (.ty "bool")) aj)))) (ab oEq (I 0) (I 1))))) bT) (Sb self)
def R'(self:bq):aN:=
  bO (b3 (aL (cF gV (aa (I 1) (aa (af (.ty "bool")) aj)))) (a4 (jY (cF gV (aa (I 0) (aa (af (.ty "bool")) aj))) (ab oEq (I 0) (I 1)))) bT) (Sa self)
def BV(self:bq):aN:=
  bO (b3 (aL (ab jI (I 1) (af (.aJ)))) (a4 (ab jI (I 0) (af (.aJ)))) bT) (R' self)
def hb:Nat->bq
 |0=>λ_=>bad
 |n+1=>fnOf 2 3 (BV (hb n))
def Si:aN:=
  bO (b' 1 (ab eE (ab eE (af (.int 1)) (ab oMod (I 0) (af (.int 4)))) (ab nx (ab oMod (ab eH (I 0) (af (.int 4))) (af (.int 2))) (ab oMod (ab eH (I 0) (af (.int 8))) (af (.int 3)))))) (bO (b' 2 (cF pJ (aa (eX 1 [0] (h2 (aa (I 1) aj)) fx (ab oMod (ab eE (ab eH (I 1) (af (.int 24))) (I 0)) (af (.int 6)))) aj))) (bO (b' 3 (ab eE (af (.int 1)) (ab oMod (ab eH (I 0) (af (.int 144))) (I 1)))) (a4 (bU (aa (bU (aa (I 3) (aa (I 2) aj))) (aa (bU (aa (ab eE (ab lp (ab eE (I 1) (af (.int 1))) (I 3)) (ab oMod (ab eH (I 0) (af (.int 864))) (I 3))) (aa (I 2) aj))) aj))))))
def ED:bq:=fnOf 1 4 Si
def H5:aN:=
  bO (b3 (aL (ab oEq (ab oMod (I 0) (af (.int 5))) (af (.int 4)))) (bO (b' 2 (bU (aa (af (.int 2)) (aa (bU (aa (bU (aa (af (.int 2)) (aa (bU (aa (ab aH (I 1) (af (.int 0))) (aa (ab aH (I 1) (af (.int 1))) (aa (ab aH (I 1) (af (.int 2))) aj)))) aj))) (aa (bU (aa (af (.int 2)) (aa (bU (aa (ab aH (I 1) (af (.int 2))) (aa (ab aH (I 1) (af (.int 3))) (aa (ab aH (I 1) (af (.int 4))) aj)))) aj))) (aa (ab aH (I 1) (af (.int 0))) aj)))) aj))))
  (bO (b3 (aL (ab oEq (ab oMod (ab eH (I 0) (af (.int 30))) (af (.int 3))) (af (.int 0)))) (b' 2 (bU (aa (af (.int 2)) (aa (bU (aa (ab aH (I 1) (af (.int 0))) (aa (ab aH (I 1) (af (.int 0))) (aa (ab aH (I 1) (af (.int 1))) aj)))) aj)))) bT)
  (a4 (bU (aa (I 2) (aa (I 2) aj)))))) bT) (bO (b' 3 (bU (aa (af (.int 1)) (aa (bU (aa (bU (aa (af (.int 2)) (aa (bU (aa (ab aH (I 1) (af (.int 0))) (aa (ab aH (I 1) (af (.int 1))) aj))) aj))) (aa (bU (aa (af (.int 2)) (aa (bU (aa (ab aH (I 1) (af (.int 2))) (aa (ab aH (I 1) (af (.int 3))) aj))) aj))) aj))) aj)))) (bO (b' 4 (bU (aa (af (.int 2)) (aa (bU (aa (bU (aa (af (.int 1)) (aa (bU (aa (ab aH (I 1) (af (.int 0))) (aa (ab aH (I 1) (af (.int 1))) aj))) aj))) (aa (bU (aa (af (.int 1)) (aa (bU (aa (ab aH (I 1) (af (.int 2))) (aa (ab aH (I 1) (af (.int 3))) aj))) aj))) aj))) aj)))) (bO (b3 (aL (ab oEq (ab oMod (ab eH (I 0) (af (.int 30))) (af (.int 2))) (af (.int 0)))) (a4 (bU (aa (I 3) (aa (I 4) aj)))) bT) (a4 (bU (aa (I 4) (aa (I 3) aj)))))))
def Sj:aN:=
  bO (b3 (aL (ab oLt (ab oMod (I 0) (af (.int 5))) (af (.int 3)))) (a4 (bf ED (aa (ab eH (I 0) (af (.int 5))) aj))) bT) (bO (b' 1 (eX 1 [0] (h2 (aa (af (.int 5)) aj)) fx (ab oMod (ab eE (ab eH (I 1) (af (.int 5))) (I 0)) (af (.int 6))))) H5)
def vX:bq:=fnOf 1 5 Sj
def Nq:aN:=
  (bO (b' 2 (ab oE (I 2) (ab aH (af (.str "abcdefghijklmnopqrstuvwxyz")) (ab oMod (ab eH (I 0) (af (.int 8))) (af (.int 26))))))
  (b' 0 (ab eH (I 0) (af (.int 3)))))
def Sk:aN:=
  bO (b' 1 (ab eE (af (.int 1)) (ab oMod (I 0) (af (.int 8))))) (bO (b' 2 (af (.str ""))) (bO (uQ (aL (ab oLt (cF m7 (aa (I 2) aj)) (I 1))) Nq) (a4 (I 2))))
def EE:bq:=fnOf 1 3 Sk
def H7:aN:=
  (a4 (eD (aa (I 2) (aa (ab oE (ab oE (r7 (I 2) j0 (ks (I 3))) (I 4)) (r7 (I 2) (ks (ab eE (I 3) (af (.int 1)))) j0)) (aa (I 5) aj)))))
def H6:aN:=
  bO (b3 (aL (ab oEq (cF m7 (aa (I 2) aj)) (af (.int 8)))) (b' 5 (r7 (I 2) j0 (ks (af (.int 7))))) bT) H7
def Sl:aN:=
  bO (b' 1 (af (.str "abcdefghijklmnopqrstuvwxyz"))) (bO (b' 2 (bf EE (aa (I 0) aj))) (bO (b' 3 (ab oMod (ab eH (I 0) (af (.int 5))) (cF m7 (aa (I 2) aj)))) (bO (b' 4 (ab aH (I 1) (ab oMod (ab eE (ab eE (Ca qS (I 1) (aa (ab aH (I 2) (I 3)) aj)) (af (.int 1))) (ab oMod (ab eH (I 0) (af (.int 7))) (af (.int 25)))) (af (.int 26))))) (bO (b' 5 (ab oE (I 2) (af (.str "x")))) H6))))
def zx:bq:=fnOf 1 6 Sl
def BX:aN:=
  bO (b3 (aL (ab oLt (I 6) (af (.int 5)))) (a4 (bU (aa (af (.str "add")) (aa (I 3) (aa (I 4) aj))))) bT) (bO (b3 (aL (ab oLt (I 6) (af (.int 7)))) (a4 (bU (aa (af (.str "put")) (aa (I 3) (aa (I 4) aj))))) bT) (bO (b3 (aL (ab oEq (I 6) (af (.int 7)))) (a4 (bU (aa (af (.str "swap")) (aa (I 3) (aa (ab oMod (ab eH (I 1) (af (.int 96))) (af (.int 3))) (aa (I 4) aj)))))) bT) (bO (b3 (aL (ab oEq (I 6) (af (.int 8)))) (a4 (bU (aa (af (.str "take")) (aa (I 5) aj)))) bT) (bO (b3 (aL (ab oEq (I 6) (af (.int 9)))) (a4 (ab aH (eD (aa (bU (aa (af (.str "renew")) (aa (I 5) aj))) (aa (bU (aa (af (.str "free")) (aa (I 5) aj))) (aa (bU (aa (af (.str "sure")) (aa (I 5) (aa (I 3) (aa (I 4) aj))))) aj)))) (ab oMod (ab eH (I 1) (af (.int 400))) (af (.int 3))))) bT) (bO (b3 (e' (aL (ab oEq (I 6) (af (.int 10)))) (aL (ab oEq (I 6) (af (.int 11))))) (a4 (bU (aa (af (.str "move")) (aa (bf vX (aa (ab eH (I 1) (af (.int 96))) aj)) aj)))) bT) (bO (b3 (gN (aL (ab oEq (I 6) (af (.int 12)))) (aL (ab oEq (ab oMod (ab eH (I 1) (af (.int 96))) (af (.int 3))) (af (.int 0))))) (a4 (bU (aa (af (.str "end")) aj))) bT) (a4 (af (.aJ)))))))))
def Sh:aN:=
  bO (b' 3 (ab aH (I 0) (ab oMod (ab eH (I 1) (af (.int 16))) (af (.int 3))))) (bO (b' 4 (ab lp (ab oMod (I 2) (ab oG (af (.int 10)) (af (.int 40)))) (ab oG (af (.int 10)) (af (.int 20))))) (bO (b3 (aL (ab oEq (ab oMod (ab eH (I 1) (af (.int 48))) (af (.int 2))) (af (.int 1)))) (b' 4 (ab oMod (ab eH (I 1) (af (.int 96))) (af (.int 3)))) bT) (bO (b' 5 (ab oMod (ab eH (I 1) (af (.int 96))) (af (.int 4)))) (bO (b' 6 (ab oMod (I 1) (af (.int 16)))) BX))))
def zw:bq:=fnOf 3 7 Sh
def za:bX:=
  (bB (b5 (b' 5 (dk "House" "letter" vJ (I 0) (aa (I 4) aj))))
  (bB (b5 (b' 6 (ab aH (I 5) (af (.int 1)))))
  (bB (b5 (b3 (e' (aL (ab oEq (ab aH (I 5) (af (.int 0))) (af (.str "ask")))) (aL (ab oEq (ab aH (I 5) (af (.int 0))) (af (.str "tell"))))) (b' 6 (ab aH (I 5) (af (.int 2)))) bT))
  (bB (fz (fH (aL (ab oEq (ab rp (ab tC (I 2) (I 6)) (af (.int 1))) (af (.int 1))))) (bB (hn (dZ "House" "bring" lg (I 0) (eF (aa (I 4) aj))))
  (b5 (b' 3 (ab lp (I 3) (af (.int 1)))))) (b5 bT))
  (b5 (b' 4 (ab eE (I 4) (af (.int 1)))))))))
def Sg:bX:=
  bB (b5 (b' 4 (I 1))) (AM (fH (gN (aL (ab oLt (I 4) (dk "House" "many" jG (I 0) aj))) (aL (ab nv (I 3) (af (.int 0)))))) za)
def EB:d2:=fnX 4 7 Sg
def Np:bX:=
  (fz (fH (aL (ab nv (I 8) (af (.int 0))))) (hn (dZ "House" "bring" lg (I 0) (eF (aa (ab oMod (ab eE (I 6) (I 9)) (I 8)) aj)))) (b5 bT))
def BZ:bX:=
  bB (b5 (b' 11 (af (.int 63)))) (bB (b5 (b3 (aL (ab oEq (ab oMod (ab eH (I 5) (af (.int 24))) (af (.int 2))) (af (.int 1)))) (b' 11 (ab oMod (ab eH (I 5) (af (.int 48))) (af (.int 64)))) bT)) (hn (uc EB (eF (aa (I 0) (aa (I 8) (aa (I 11) (aa (ab oMod (ab eH (I 5) (af (.int 3072))) (af (.int 27))) aj))))))))
def H4:bX:=
  bB (fz (fH (aL (ab dA (dk "House" "stand" zr (I 0) (aa (I 7) aj)) (af (.str "calm"))))) (hn (dZ "House" "bell" zo (I 0) (eF (aa (I 7) aj)))) (fz (fH (d_ (aL (dk "House" "knows_over" zp (I 0) (aa (I 7) aj))))) (bB (b5 (b' 10 (bf zw (aa (I 1) (aa (I 6) (aa (I 3) aj))))))
  (bB (b5 (b3 (gN (aL (ab iX (I 10) (af (.aJ)))) (gN (aL (ab oEq (ab aH (I 10) (af (.int 0))) (af (.str "move")))) (aL (ab nv (ab aH (dk "House" "place" vK (I 0) (aa (I 7) aj)) (af (.int 0))) (af (.int 6)))))) (b' 10 (af (.aJ))) bT))
  (hn (dZ "House" "begin" rg (I 0) (eF (aa (I 7) (aa (I 10) aj))))))) (b5 bT))) BZ
def BY:bX:=
  bB (fz (fH (aL (ab oEq (ab oMod (I 5) (af (.int 4))) (af (.int 3))))) (bB (xc 9 (h2 (aa (ab eE (af (.int 1)) (ab oMod (ab eH (I 5) (af (.int 24))) (af (.int 3)))) aj)) Np)
  (b5 x5)) (b5 bT)) H4
def H3:bX:=
  bB (b5 (b' 5 (ab oMod (ab eE (ab nx (ab oMod (I 3) (ab oG (af (.int 10)) (af (.int 40)))) (af (.int 48271))) (ab nx (ab nx (ab eE (I 4) (af (.int 1))) (ab eE (I 4) (af (.int 7)))) (af (.int 16807)))) (af (.int 2147483647))))) (bB (b5 (b' 6 (ab oMod (ab eE (ab nx (ab oMod (I 3) (ab oG (af (.int 10)) (af (.int 40)))) (af (.int 69621))) (ab nx (ab nx (ab eE (I 4) (af (.int 3))) (ab eE (I 4) (af (.int 5)))) (af (.int 40692)))) (af (.int 2147483629))))) (bB (b5 (b' 7 (ab oMod (ab eH (I 5) (af (.int 4))) (I 2)))) (bB (b5 (b' 8 (dk "House" "many" jG (I 0) aj))) BY)))
def EC:d2:=fnX 5 12 H3
def Nn:bX:=
  (hn (uc EC (eF (aa (I 2) (aa (I 3) (aa (I 1) (aa (ab aH (I 0) (I 4)) (aa (I 4) aj))))))))
def D':aN:=
  (b3 (e' (gN (aL (ab dA (ab aH (I 12) (af (.int 0))) (af (.str "ask")))) (aL (ab dA (ab aH (I 12) (af (.int 0))) (af (.str "tell"))))) (aL (ab dA (ab aH (I 12) (af (.int 1))) (ab aH (I 7) (af (.int 2)))))) (a4 (af (.ay false))) bT)
def xT:bX:=
  bB (b5 (b3 (e' (aL (ab oEq (ab aH (I 7) (af (.int 0))) (af (.str "ask")))) (aL (ab oEq (ab aH (I 7) (af (.int 0))) (af (.str "tell"))))) (bO (b' 11 (bf kH (aa (ab aH (I 8) (ab aH (I 7) (af (.int 2)))) (aa (I 7) aj))))
  (bO (x3 8 (ab aH (I 7) (af (.int 2))) (ab aH (I 11) (af (.int 0))))
  (b3 (e' (d_ (aL (bf (hb 14) (aa (qB (I 10) (ks (I 6)) j0) (aa (eD (aa (ab aH (I 11) (af (.int 1))) aj)) aj))))) (d_ (aL (bf (hb 14) (aa (dk "House" "letter" vJ (I 2) (aa (I 6) aj)) (aa (ab aH (I 11) (af (.int 1))) aj)))))) (a4 (af (.ay false))) bT))) (jZ 12 (sG (qB (I 10) (ks (I 6)) j0)) D'))) (b5 (a4 (bf (hb 14) (aa (eX 1 [2] (h2 (aa (af (.int 6)) aj)) fx (dk "House" "book" vH (I 1) (aa (I 0) aj))) (aa (I 8) aj)))))
def BR:bX:=
  bB (b5 (b3 (e' (d_ (aL (bf (hb 14) (aa (I 9) (aa (uO (aa (I 6) (aa (cF gW (aa (I 10) aj)) aj))) aj))))) (e' (aL (ab dA (qB (I 10) j0 (ks (I 6))) (I 5))) (aL (ab dA (dk "House" "many" jG (I 2) aj) (cF gW (aa (I 10) aj)))))) (a4 (af (.ay false))) bT)) xT
def BU:bX:=
  bB (b5 (b' 7 (ab aH (I 5) (I 4)))) (bB (b5 (lQ 8 (eX 1 [2] (h2 (aa (af (.int 6)) aj)) fx (dk "House" "book" vH (I 1) (aa (I 0) aj))))) (bB (rP 9 (dZ "House" "bring" lg (I 2) (eF (aa (I 4) aj)))) (bB (b5 (b' 10 (dk "House" "record" zq (I 2) aj))) BR)))
def HY:bX:=
  bB (b5 (b3 (aL (ab oEq (ab oMod (bf kc (aa (I 0) (aa (af (.int 1)) aj))) (af (.int 2))) (af (.int 1)))) (b' 4 (cF Ls (aa (af (.int 0)) (aa (ab lp (ab lp (I 6) (af (.int 1))) (ab oMod (ab eH (bf kc (aa (I 0) (aa (af (.int 0)) aj))) (af (.int 3))) (af (.int 6)))) aj)))) bT)) BU
def xU:bX:=
  bB (b5 (b' 5 (dk "House" "record" zq (I 2) aj))) (bB (b5 (b' 6 (cF gW (aa (I 5) aj)))) (bB (b5 (b' 4 (ab oMod (ab eH (bf kc (aa (I 0) (aa (af (.int 0)) aj))) (af (.int 3))) (I 6)))) HY))
def BS:bX:=
  bB (fz (fH (aL (ab oEq (dk "House" "many" jG (I 2) aj) (af (.int 0))))) (hn (dZ "House" "begin" rg (I 2) (eF (aa (af (.int 0)) (aa (af .aJ) aj))))) (b5 bT)) xU
def BQ:bX:=
  bB (b5 (b' 1 (ab eE (af (.int 1)) (ab oMod (bf kc (aa (I 0) (aa (af (.int 0)) aj))) (af (.int 3)))))) (bB (rP 2 (o7 "House" Ew (eF (aa (bf vX (aa (ab oMod (bf kc (aa (I 0) (aa (af (.int 1)) aj))) (ab oG (af (.int 10)) (af (.int 9)))) aj)) (aa (I 1) aj))))) (bB (b5 (b' 3 (bf zx (aa (ab oMod (bf kc (aa (I 0) (aa (af (.int 2)) aj))) (ab oG (af (.int 10)) (af (.int 20)))) aj)))) (bB (xc 4 (DR (aa (af (.int 3)) (aa (cF T' (aa (cF gW (aa (I 0) aj)) (aa (af (.int 23)) aj))) aj))) Nn) BS)))
def EA:d2:=fnX 1 13 BQ
structure QJ{P:akC}{w:World}{K:aO}{mg:bp}{base:Heap}(T:Txt P w K mg base)(j:Nat):Prop where
 Wr:cX P w base T.Kp j 1 l'
 V_:cX P w base T.J' j 1 pY
 WH:cX P w base T.KG j 1 lh
 Ws:cX P w base T.Kq j 2 tg
 WI:cX P w base T.KH j 3 zy
 VY:cX P w base T.JR j 1 vL
 V9:cX P w base T.J_ j 2 oy
 Wi:cX P w base T.Kh j 2 vS
 Wm:cX P w base T.Kl j 1 zv
 We:cX P w base T.Kd j 2 Ey
 Wd:∀n,n+3<=j->eU P w K mg base "is_built" ["thing","deep"] (n+3) (e1 K mg (ri n))
 WM:∀n,n+2<=j->eU P w K mg base "namings" ["rule"] (n+2) (e1 K mg (mb n))
 Wo:cX P w base T.Kn j 16 vW
 WL:cX P w base T.KL j 15 ti
 V5:∀n,n+2<=j->eU P w K mg base "fills" ["rule","mask"] (n+2) (e1 K mg (je n))
 Wj:cX P w base T.Ki j 3 vT
 WE:cX P w base T.KC j 16 vY
 V6:cX P w base T.J7 j 1 vR
 WS:cX P w base T.KR j 17 zA
 Wh:cX P w base T.Kg j 18 pZ
 WJ:cX P w base T.KI j 16 zz
 WK:cX P w base T.KJ j 17 ma
 Wk:cX P w base T.Kj j 1 vU
 Wl:cX P w base T.Kk j 2 vV
 Wg:cX P w base T.Kf j 3 zu
 V7:cX P w base T.J8 j 1 Ex
 Wn:cX P w base T.Km j 19 oz
 Wf:cX P w base T.Ke j 20 nr
 V1:cX P w base T.JU j 1 NL
 WD:cX P w base T.KA j 1 jH
 WT:cX P w base T.KS j 1 oA
 Wq:cX P w base T.Ko j 2 l_
 V2:cX P w base T.JV j 1 s'
 V3:cX P w base T.J5 j 1 pX
 WX:cX P w base T.KV j 1 zC
 WZ:cX P w base T.KW j 1 tm
 WO:cX P w base T.KO j 2 tl
 Ma:cX P w base T.J0 j 5 vQ
 L8:cX P w base T.JW j 5 vN
 Md:cX P w base T.J3 j 5 td
 WG:cX P w base T.KD j 2 th
 WN:cX P w base T.KN j 2 tj
 Me:cX P w base T.J4 j 3 tf
 Mb:cX P w base T.J1 j 3 tb
 L_:cX P w base T.JY j 3 ta
 Mc:cX P w base T.J2 j 5 tc
 L':cX P w base T.JZ j 2 vP
 L9:cX P w base T.JX j 2 vO
 WQ:cX P w base T.KP j 6 e8
 V4:cX P w base T.J6 j 7 nq
 V0:cX P w base T.JT j 1 NK
 WU:cX P w base T.KU j 1 NO
 VZ:cX P w base T.JS j 1 vM
 V8:cX P w base T.J9 j 1 ox
 Vr:ic P w base T.Jj j 2 sZ
 Vs:ic P w base T.Jk j 18 vF
 Vt:A9 P w base T.Jl j 21 zk
 Vu:ic P w base T.Jm j 19 s6
 VC:i4 P w base T.Ju j 18 zl
 VI:i4 P w base T.JA j 15 vG
 Vw:ic P w base T.Jo j 1 pV
 Vx:ic P w base T.Jp j 18 s7
 VA:ic P w base T.Js j 19 s8
 Vv:ic P w base T.Jn j 3 Ep
 VE:ic P w base T.Jw j 2 Es
 Vy:ic P w base T.Jq j 19 rd
 VB:ic P w base T.Jt j 20 rf
 Vz:ic P w base T.Jr j 21 kb
 VG:i4 P w base T.Jy j 1 Et
 VF:i4 P w base T.Jx j 1 zm
 VJ:i4 P w base T.JB j 1 s9
 VH:i4 P w base T.Jz j 1 Eu
 VD:i4 P w base T.Jv j 1 Er
 WR:cX P w base T.KQ j 1 vZ
 Wt:cX P w base T.Kr j 2 Ez
 Wa:cX P w base T.Kb j 5 NM
 Wb:cX P w base T.Kc j 5 NN
 V':cX P w base T.Ka j 6 kH
 VK:ic P w base T.JC j 19 Ew
 VL:i4 P w base T.JD j 2 pW
 VT:i4 P w base T.JM j 1 jG
 VX:ic P w base T.JQ j 2 s_
 L7:A9 P w base T.JE j 22 rg
 VM:ic P w base T.JF j 20 zo
 VS:i4 P w base T.JL j 2 vJ
 VQ:ic P w base T.JJ j 7 vI
 VP:ic P w base T.JI j 22 rh
 VO:ic P w base T.JH j 23 lg
 VV:i4 P w base T.JO j 1 zq
 VN:i4 P w base T.JG j 1 vH
 VW:i4 P w base T.JP j 3 zr
 VU:i4 P w base T.JN j 3 vK
 VR:i4 P w base T.JK j 3 zp
 Ww:cX P w base T.Kt j 1 kc
 Wu:∀n,n+1<=j->eU P w K mg base "_law_alike" ["found","due"] (n+1) (e1 K mg (hb n))
 Wz:cX P w base T.Kw j 1 ED
 WA:cX P w base T.Kx j 2 vX
 WB:cX P w base T.Ky j 1 EE
 WC:cX P w base T.Kz j 2 zx
 Wx:cX P w base T.Ku j 3 zw
 Wv:A8 P w base T.Ks j 24 EB
 Wy:A8 P w base T.Kv j 25 EC
 E4 {f:Addr}{fd:alo}(F:kY K "law" "law" wQ f fd):26<=j->e2 P w K mg base eA 26 f fd ["script"] (hM K mg EA)
theorem ax(T:Txt P w K mg base):∀j,QJ T j
 |0=>by constructor<;>intros<;>omega
 |j+1=>by
  have a:=ax T j;refine⟨c1 T.Kp rfl ?_,
   c1 T.J' rfl ?_,
   c1 T.KG rfl ?_,
   c1 T.Kq rfl ?_,
   c1 T.KH rfl ?_,
   c1 T.JR rfl ?_,
   c1 T.J_ rfl ?_,
   c1 T.Kh rfl ?_,
   c1 T.Kl rfl ?_,
   c1 T.Kd rfl ?_,
   zK (λ_=>T.Cr.d.none (by rintro vs H Q E ⟨O,ds,r,g,_,_,_,h,_⟩;cases h)) λn e=>(vd (k:=n+3) T.Cr.d T.Cr.s rfl rfl λf c A outer s H E b=>ht.un ?_:eU P w K mg base _ _ _ (e1 K mg (fnOf 2 2 (HH (ri n))))).mono (by omega),
   zK (λ_=>T.Cu.d.none (by rintro vs H Q E ⟨O,ds,r,g,_,_,_,h,_⟩;cases h)) λn e=>(vd (k:=n+2) T.Cu.d T.Cu.s rfl rfl λf c A outer s H E b=>ht.un ?_:eU P w K mg base _ _ _ (e1 K mg (fnOf 1 3 (xV (mb n))))).mono (by omega),
   c1 T.Kn rfl ?_,
   c1 T.KL rfl ?_,
   zK (λ_=>T.Cp.d.none (by rintro vs H Q E ⟨O,ds,r,g,_,_,_,h,_⟩;cases h)) λn e=>(vd (k:=n+2) T.Cp.d T.Cp.s rfl rfl λf c A outer s H E b=>ht.un ?_:eU P w K mg base _ _ _ (e1 K mg (fnOf 2 2 (xS (je n))))).mono (by omega),
   c1 T.Ki rfl ?_,
   c1 T.KC rfl ?_,
   c1 T.J7 rfl ?_,
   c1 T.KR rfl ?_,
   c1 T.Kg rfl ?_,
   c1 T.KI rfl ?_,
   c1 T.KJ rfl ?_,
   c1 T.Kj rfl ?_,
   c1 T.Kk rfl ?_,
   c1 T.Kf rfl ?_,
   c1 T.J8 rfl ?_,
   c1 T.Km rfl ?_,
   c1 T.Ke rfl ?_,
   c1 T.JU rfl ?_,
   c1 T.KA rfl ?_,
   c1 T.KS rfl ?_,
   c1 T.Ko rfl ?_,
   c1 T.JV rfl ?_,
   c1 T.J5 rfl ?_,
   c1 T.KV rfl ?_,
   c1 T.KW rfl ?_,
   c1 T.KO rfl ?_,
   c1 T.J0 rfl ?_,
   c1 T.JW rfl ?_,
   c1 T.J3 rfl ?_,
   c1 T.KD rfl ?_,
   c1 T.KN rfl ?_,
   c1 T.J4 rfl ?_,
   c1 T.J1 rfl ?_,
   c1 T.JY rfl ?_,
   c1 T.J2 rfl ?_,
   c1 T.JZ rfl ?_,
   c1 T.JX rfl ?_,
   c1 T.KP rfl λe f c A outer s H E b=>(@nF _ _ _ _ _ _ ((Gf (i:=3) (p4 (by kernel_rfl)) rfl (.inl rfl) (P9 T.An rfl (hk ha g6 (dO 2) gD)))) (@qj _ _ _ _ ((rN (agf (k:=5) (pp:=["slate","asker","deed"]) (lookup_all (by simp only[ak2];exact⟨(a.Ma (by omega)).mono (by omega),(a.L8 (by omega)).mono (by omega),(a.Md (by omega)).mono (by omega),(a.Me (by omega)).mono (by omega),(a.Mb (by omega)).mono (by omega),(a.L_ (by omega)).mono (by omega),(a.Mc (by omega)).mono (by omega),(a.L' (by omega)).mono (by omega),(a.L9 (by omega)).mono (by omega),λ_ h=>nomatch h⟩)) rfl (.inl rfl) (b.mono (by omega)) (eQ (dO 0) (eQ (dO 1) (eQ (dO 2) iY)))))))),
   c1 T.J6 rfl ?_,
   c1 T.JT rfl ?_,
   c1 T.KU rfl ?_,
   c1 T.JS rfl ?_,
   c1 T.J9 rfl ?_,
   iR T.Jj rfl ?_,
   iR T.Jk rfl ?_,
   LK T.Jl rfl ?_,
   iR T.Jm rfl ?_,
   jv T.Ju rfl ?_,
   jv T.JA rfl ?_,
   iR T.Jo rfl ?_,
   iR T.Jp rfl ?_,
   iR T.Js rfl ?_,
   iR T.Jn rfl ?_,
   iR T.Jw rfl ?_,
   iR T.Jq rfl ?_,
   iR T.Jt rfl ?_,
   iR T.Jr rfl ?_,
   jv T.Jy rfl ?_,
   jv T.Jx rfl ?_,
   jv T.JB rfl ?_,
   jv T.Jz rfl ?_,
   jv T.Jv rfl ?_,
   c1 T.KQ rfl ?_,
   c1 T.Kr rfl ?_,
   c1 T.Kb rfl ?_,
   c1 T.Kc rfl ?_,
   c1 T.Ka rfl ?_,
   iR T.JC rfl ?_,
   jv T.JD rfl ?_,
   jv T.JM rfl ?_,
   iR T.JQ rfl ?_,
   LK T.JE rfl ?_,
   iR T.JF rfl ?_,
   jv T.JL rfl ?_,
   iR T.JJ rfl ?_,
   iR T.JI rfl ?_,
   iR T.JH rfl ?_,
   jv T.JO rfl ?_,
   jv T.JG rfl ?_,
   jv T.JP rfl ?_,
   jv T.JN rfl ?_,
   jv T.JK rfl ?_,
   c1 T.Kt rfl ?_,
   zK (λ_=>T.Ct.d.none (by rintro vs H Q E ⟨O,ds,r,g,_,_,_,h,_⟩;cases h)) λn e=>(vd (k:=n+1) T.Ct.d T.Ct.s rfl rfl λf c A outer s H E b=>ht.un ?_:eU P w K mg base _ _ _ (e1 K mg (fnOf 2 3 (BV (hb n))))).mono (by omega),
   c1 T.Kw rfl ?_,
   c1 T.Kx rfl ?_,
   c1 T.Ky rfl ?_,
   c1 T.Kz rfl ?_,
   c1 T.Ku rfl ?_,
   LN T.Ks rfl ?_,
   LN T.Kv rfl ?_,
   λF e=>(CS (k:=25) F aew rfl rfl λc A outer s H E b=>?_:e2 P w K mg base eA _ _ _ _ (hM K mg (fnX 1 13 BQ)))⟩
  all_goals try intro e
  all_goals try intro f c A outer s H E b
  all_goals repeat' first
   |((with_reducible show ba _ _ _);first
    |(with_reducible show ba _ _ (I _));exact dO _
    |(with_reducible show ba _ (.BoolOp _ [_] _) _);refine agr ?_
    |(with_reducible show ba _ _ (ab aH _ _));refine hk ha g6 ?_ ?_ (λ_ _=>rfl)
    |(with_reducible show ba _ _ (bU _));refine o5 ?_
    |(with_reducible show ba _ _ (bf _ aj));refine' age ?_ ?_ rfl
    |(with_reducible show ba _ _ (bf _ _));refine' agd ?_ ?_ rfl ?_
    |(with_reducible show ba _ _ (af (.int _)));first|exact gD|exact kS (p8 rfl T.UG) λ_ _=>rfl|exact kS (p8 rfl T.UC) λ_ _=>rfl|exact kS (p8 rfl T.UB) λ_ _=>rfl|exact kS (p8 rfl T.UD) λ_ _=>rfl|exact kS (p8 rfl T.UE) λ_ _=>rfl|exact kS (p8 rfl T.UH) λ_ _=>rfl|exact kS (p8 rfl T.UI) λ_ _=>rfl
    |(with_reducible show ba _ _ (af .aJ));exact agp
    |(with_reducible show ba _ _ (af (.ay _)));exact agc
    |(with_reducible show ba _ _ (af (.ty "tuple")));exact kS (wB (v:=.ty "tuple") rfl T.B.tuple' uL rfl) λ_ _=>rfl
    |(with_reducible show ba _ _ (af (.ty "bool")));exact kS (wB (v:=.ty "bool") rfl T.B.SE SN rfl) λ_ _=>rfl
    |(with_reducible show ba _ _ (af (.ty "str")));exact kS (wB (v:=.ty "str") rfl T.B.aeU SV rfl) λ_ _=>rfl
    |(with_reducible show ba _ _ (af (.ty "int")));exact kS (wB (v:=.ty "int") rfl T.B.Yp SO rfl) λ_ _=>rfl
    |(with_reducible show ba _ _ (af (.ty "list")));exact kS (wB (v:=.ty "list") rfl T.B.Ek B9 rfl) λ_ _=>rfl
    |(with_reducible show ba _ _ (af (.str _)));first|exact P8|exact kS (p8 rfl T.UJ) λ_ _=>rfl
    |(with_reducible show ba _ _ (ab eE _ _));refine lA ab3 Rm ?_ ?_
    |(with_reducible show ba _ _ (ab oMod _ _));refine lA acb Ru ?_ ?_
    |(with_reducible show ba _ _ (ab eH _ _));refine lA ab7 Rr ?_ ?_
    |(with_reducible show ba _ _ (ab wj _ _));refine lA ab6 Rp ?_ ?_
    |(with_reducible show ba _ _ (ab oE _ _));refine lA ab4 Rq ?_ ?_
    |(with_reducible show ba _ _ (ab oG _ _));refine lA acf Rw ?_ ?_
    |(with_reducible show ba _ _ (ab lp _ _));refine lA aci Rz ?_ ?_
    |(with_reducible show ba _ _ (ab nx _ _));refine lA acd Rv ?_ ?_
    |(with_reducible show ba _ _ (ab rp _ _));refine lA ab5 Rn ?_ ?_
    |(with_reducible show ba _ _ (ab tx _ _));refine lA ace Ro ?_ ?_
    |(with_reducible show ba _ _ (ab EW _ _));refine lA acg Rx ?_ ?_
    |(with_reducible show ba _ _ (ab tC _ _));refine lA ach Ry ?_ ?_
    |(with_reducible show ba _ _ (ab oEq _ _));refine o4 (E5 b.units) By ?_ ?_ (iz _)
    |(with_reducible show ba _ _ (ab jI _ _));refine o4 Ot G8 ?_ ?_ (iz _)
    |(with_reducible show ba _ _ (ab iX _ _));refine o4 Ou G9 ?_ ?_ (iz _)
    |(with_reducible show ba _ _ (ab tB _ _));refine o4 Om G5 ?_ ?_ (iz _)
    |(with_reducible show ba _ _ (ab oLt _ _));refine o4 E6 Bz ?_ ?_ (iz _)
    |(with_reducible show ba _ _ (ab (kK false) _ _));refine o4 Oo (G6 false) ?_ ?_ rfl
    |(with_reducible show ba _ _ (ab (rr false) _ _));refine o4 Oq G7 ?_ ?_ rfl
    |(with_reducible show ba _ _ (cF gW _));refine qi S6 YM rfl T.B.len IX ?_
    |(with_reducible show ba _ _ (cF gV _));refine qi (S5 T.kt) YL rfl T.B.isinstance SP ?_
    |(with_reducible show ba _ _ (cF n4 _));refine qi (S3 rfl) YJ rfl T.B.all SK ?_
    |(with_reducible show ba _ _ (cF (qR _) _));refine qi (S9 rfl) MZ rfl T.B.max SQ ?_
    |(with_reducible show ba _ _ (cF u2 _));refine qi S2 YI rfl T.B.abs SJ ?_
    |(with_reducible show ba _ _ (cF m7 _));refine qi S7 YN rfl T.B.len IX ?_
    |(with_reducible show ba _ _ (cF pJ _));refine w_ x7 y3 rfl T.B.tuple' uL ?_
    |(with_reducible show ba _ _ (eD _));refine agl ?_
    |(with_reducible show ba _ _ (jY _ _));refine aga ?_ ?_
    |(with_reducible show ba _ _ (uP _));refine agq ?_
    |(with_reducible show ba _ _ (bb oBits _));refine agb ?_
    |(with_reducible show ba _ _ (eX _ _ _ _ _));refine agh (uU (xs:=[_]) (by kernel_rfl)) (by decide) ?_ rfl (λ_ _ _ _=>⟨al3 rfl,rfl⟩) (λ_ _ _ _=>?_) (λ_ _ _ _=>?_) (he:=rfl) (hN:=rfl)
    |(with_reducible show ba _ _ (uN _ _ _ _));refine agi (uU (xs:=[_,_]) (by kernel_rfl)) rfl T.B.zip ?_ rfl rfl (λ_ _ _ _=>⟨al3 rfl,rfl⟩) (λ_ _ _ _=>⟨al3 rfl,rfl⟩) (λ_ _ _ _=>?_) (λ_ _ _ _=>?_) (he:=rfl) (hN:=rfl)
    |(with_reducible show ba _ _ (qB _ _ _));refine ags ?_ ?_ ?_
    |(with_reducible show ba _ _ (Cb _ _ _));refine agu ?_ ?_ ?_
    |(with_reducible show ba _ _ (Cc _ _));refine P9 T.An rfl ?_
    |(with_reducible show ba _ _ (Cd _ _));refine agw T.D1 rfl ?_
    |(with_reducible show ba _ _ (ab dA _ _));refine o4 (tG b.units) r5 ?_ ?_ (iz _)
    |(with_reducible show ba _ _ (cF (qR _) _));refine qi (S_ rfl) MZ rfl T.B.min SS ?_
    |(with_reducible show ba _ _ (cF u4 _));refine w_ S8 YO rfl T.B.Ek B9 ?_
    |(with_reducible show ba _ _ (bb (bY "Asker" _) _));refine P7 T.nU (by simp[zR]) ?_
    |(with_reducible show ba _ _ (bb (bY "House" _) _));refine P7 T.nV (by simp[zS]) ?_
    |(with_reducible show ba _ _ (g7 _));refine agk ?_
    |(with_reducible show ba _ _ (dk _ _ _ _ aj));refine' ago ?_ ?_ ?_
    |(with_reducible show ba _ _ (dk _ _ _ _ _));refine' agn ?_ ?_ ?_ ?_
    |(with_reducible show ba _ _ (ab oLe _ _));refine o4 rv qy ?_ ?_ (iz _)
    |(with_reducible show ba _ _ (cF u3 _));refine qi (S4 rfl) YK rfl T.B.any SM ?_
    |(with_reducible show ba _ _ (r7 _ _ _));refine agt ?_ ?_ ?_
    |(with_reducible show ba _ _ (fD oLe oLe _ _ _));refine agg rv qy rv qy ?_ ?_ ?_
    |(with_reducible show ba _ _ (uO _));refine agj rfl rfl T.B.Ek rfl T.B.range ?_
    |(with_reducible show ba _ _ (Ca qS _ _));refine agv PySem.F.slot_str_find PySem.F.type_str_find Z' Sz acn ?_ ?_)
   |((with_reducible show gv _ _ _);first
    |(with_reducible show gv _ _ (aj));exact iY
    |(with_reducible show gv _ _ (aa _ _));refine eQ ?_ ?_)
   |((with_reducible show e7 _ _ _);first
    |(show e7 _ _ (a4 _));refine rN ?_
    |(show e7 _ _ (b' _ (eX _ _ _ _ _)));refine agI (uU (xs:=[_]) (by kernel_rfl)) (p4 (by kernel_rfl)) rfl rfl (by decide) ?_ rfl (λ_ _ _ _=>⟨al3 rfl,rfl⟩) (λ_ _ _ _=>?_) (λ_ _ _ _=>?_) (he:=rfl) (hN:=rfl)
    |(show e7 _ _ (b' _ _));refine Gf (p4 (by kernel_rfl)) rfl (by first|exact al3 rfl|exact alb rfl|exact alb (.inl rfl)|exact alb (alb rfl)) ?_
    |(show e7 _ _ (b3 _ _ _));refine Ge ?_ ?_ ?_
    |(show e7 _ _ (lQ _ (eX _ _ _ _ _)));refine AK (uU (xs:=[_]) (by kernel_rfl)) (p4 (by kernel_rfl)) rfl rfl (by decide) ?_ rfl (λ_ _ _ _=>⟨al3 rfl,rfl⟩) (λ_ _ _ _=>?_) (λ_ _ _ _=>?_) (he:=rfl) (hN:=rfl)
    |(show e7 _ _ (lQ _ _));refine agM (p4 (by kernel_rfl)) rfl (by first|exact al3 rfl|exact alb rfl|exact alb (.inl rfl)|exact alb (alb rfl)) ?_
    |(show e7 _ _ (jZ _ _ _));refine agJ anK rfl ?_ (p4 (by kernel_rfl)) rfl (by first|exact al3 rfl|exact alb rfl|exact alb (.inl rfl)|exact alb (alb rfl)) ?_
    |(show e7 _ _ (qA _ kQ _));refine xa al4 al5 tq vE ?_ rfl (by first|exact al3 rfl|exact alb rfl|exact alb (.inl rfl)|exact alb (alb rfl))
    |(show e7 _ _ (qA _ w6 _));refine xa aoB aoC Z_ ZT ?_ rfl (by first|exact al3 rfl|exact alb rfl|exact alb (.inl rfl)|exact alb (alb rfl))
    |(show e7 _ _ (x6 _));exact agO _
    |(show e7 _ _ (nT));exact agL
    |(show e7 _ _ (x3 _ _ _));refine agK rfl (by first|exact al3 rfl|exact alb rfl|exact alb (.inl rfl)|exact alb (alb rfl)) ?_ ?_
    |(show e7 _ _ (x5));exact agN
    |(show e7 _ _ (uQ _ _));refine agP anK ?_ ?_)
   |((with_reducible show fh _ _ _);first
    |(with_reducible show fh _ _ (aL (ab oEq _ _)));refine iZ (E5 b.units) By ?_ ?_ (iz _)
    |(with_reducible show fh _ _ (aL (ab dA _ _)));refine iZ (tG b.units) r5 ?_ ?_ (iz _)
    |(with_reducible show fh _ _ (aL (ab jI _ _)));refine iZ Ot G8 ?_ ?_ (iz _)
    |(with_reducible show fh _ _ (aL (ab iX _ _)));refine iZ Ou G9 ?_ ?_ (iz _)
    |(with_reducible show fh _ _ (aL (ab tB _ _)));refine iZ Om G5 ?_ ?_ (iz _)
    |(with_reducible show fh _ _ (aL (ab nv _ _)));refine iZ ab8 Rt ?_ ?_ (iz _)
    |(with_reducible show fh _ _ (aL (ab oLt _ _)));refine iZ E6 Bz ?_ ?_ (iz _)
    |(with_reducible show fh _ _ (aL (ab oLe _ _)));refine iZ rv qy ?_ ?_ (iz _)
    |(with_reducible show fh _ _ (aL (ab (kK false) _ _)));refine iZ Oo (G6 false) ?_ ?_ rfl
    |(with_reducible show fh _ _ (aL (ab (rr false) _ _)));refine iZ Oq G7 ?_ ?_ rfl
    |(with_reducible show fh _ _ (aL (fD oLe oLe _ _ _)));refine Qd rv qy rv qy ?_ ?_ ?_
    |(with_reducible show fh _ _ (aL (fD oLe oLt _ _ _)));refine Qd rv qy E6 Bz ?_ ?_ ?_
    |(with_reducible show fh _ _ (aL (ab (tA _) _ _)));first|refine iZ (ab9 b.units) G4 ?_ ?_ (iz _)|refine iZ (aca b.units) G4 ?_ ?_ (iz _)
    |(with_reducible show fh _ _ (aL _));refine agR ?_
    |(with_reducible show fh _ _ (d_ _));refine agQ ?_
    |refine k0.cm ?_)
   |((with_reducible show k0 _ _ _);first
    |(with_reducible show k0 _ _ (e' _ _));refine agU ?_ ?_
    |(with_reducible show k0 _ _ (gN _ _));refine agS ?_ ?_
    |first|refine agV ?_|refine agT ?_)
   |((with_reducible show fX _ _ _);first
    |(with_reducible show fX _ (.Call (.Attribute _ _ _) [_] [] _) (dZ _ _ _ _ (eF (aa _ (aa _ _)))));refine' ahc (a.L7 (by omega)) ?_ ?_ ?_
    |(with_reducible show fX _ _ (dJ _));refine ahe ?_
    |(with_reducible show fX _ _ (lB _));refine ahd ?_
    |(with_reducible show fX _ _ (dZ _ _ _ _ qk));refine' ahb ?_ ?_ ?_
    |(with_reducible show fX _ _ (dZ _ _ _ _ _));refine' aha ?_ ?_ ?_ ?_
    |(with_reducible show fX _ _ (uc _ _));refine' ag8 ?_ ?_ rfl ?_
    |(with_reducible show fX _ _ (o7 "Asker" _ _));refine' Qn T.nU ?_ ?_ rfl ?_
    |(with_reducible show fX _ _ (o7 "House" _ _));refine' Qn T.nV ?_ ?_ rfl ?_
    |(with_reducible show fX _ _ (xb _ _ _ _));refine ag9 (uU (xs:=[_]) (by kernel_rfl)) (by decide) ?_ rfl (λ_ _ _ _=>⟨al3 rfl,rfl⟩) (λ_ _ _ _=>?_) (he:=rfl) (hN:=rfl))
   |((with_reducible show uD _ _ _);first
    |(with_reducible show uD _ _ (fH _));refine ahr ?_)
   |((with_reducible show pw _ _ _);first
    |(with_reducible show pw _ _ (eF _));refine ag7 ?_
    |(with_reducible show pw _ _ (ud _ _));refine ag6 ?_ ?_)
   |((with_reducible show gg _ _ _);first
    |(show gg _ _ (b5 _));refine ahl ?_
    |(show gg _ _ (rP _ _));refine ahn (p4 (by kernel_rfl)) rfl (by first|exact al3 rfl|exact alb rfl|exact alb (.inl rfl)|exact alb (alb rfl)) ?_
    |(show gg _ _ (fz _ _ _));refine ahj ?_ ?_ ?_
    |(show gg _ _ (jP _));refine ahm ?_
    |(show gg _ _ (hn _));refine ahh ?_
    |(show gg _ _ (dT "Asker" _ _ _));refine Qo T.nU (by simp[zR]) ?_ ?_
    |(show gg _ _ (dT "House" _ _ _));refine Qo T.nV (by simp[zS]) ?_ ?_
    |(show gg _ _ (nH kQ _ _));refine Qp al4 al5 tq vE ?_ ?_
    |(show gg _ _ (xc _ _ _));refine ahi anK rfl ?_ (p4 (by kernel_rfl)) rfl (by first|exact al3 rfl|exact alb rfl|exact alb (.inl rfl)|exact alb (alb rfl)) ?_
    |(show gg _ _ (AL _ _ _));refine ahk ?_ ?_ ?_
    |(show gg _ _ (AM _ _));refine aho anK ?_ ?_
    |(show gg _ _ (nH w5 _ _));refine Qp aoB aoC Z9 ZS ?_ ?_)
   |((with_reducible show ht _ _ _);first|exact Gg|refine qj ?_|refine nF ?_ ?_)
   |((with_reducible show ip _ _ _);first|((show ip _ _ (bB _ _));refine ahp ?_ ?_)|((with_reducible show ip _ [] _);refine Qq ?_)|refine ahq ?_|refine Qq ?_)
   |((with_reducible show qv _ _ _);first|exact agA|refine AG ?_)
   |((with_reducible show o _ _ _ _);first|exact C|refine J (by first|exact T.aj6|exact T.aj7|exact T.aj5) rfl rfl L ?_ (eQ P8 iY) ?_)
   |((with_reducible show cA _ _);exact b.mono (by omega))
   |((with_reducible show eU _ _ _ _ _ _ _ _ _);first|exact(a.Wr (by omega))|exact(a.V_ (by omega))|exact(a.WH (by omega))|exact(a.Ws (by omega))|exact(a.WI (by omega))|exact Wc T|exact(a.VY (by omega))|exact(a.V9 (by omega))|exact(a.Wi (by omega))|exact(a.Wm (by omega))|exact(a.We (by omega))|exact a.Wd _ (by omega)|exact a.WM _ (by omega)|exact(a.Wo (by omega))|exact(a.WL (by omega))|exact a.V5 _ (by omega)|exact(a.Wj (by omega))|exact(a.WE (by omega))|exact(a.V6 (by omega))|exact(a.WS (by omega))|exact(a.Wh (by omega))|exact(a.WJ (by omega))|exact(a.WK (by omega))|exact(a.Wk (by omega))|exact(a.Wl (by omega))|exact(a.Wg (by omega))|exact(a.V7 (by omega))|exact(a.Wn (by omega))|exact(a.Wf (by omega))|exact(a.V1 (by omega))|exact(a.WD (by omega))|exact(a.WT (by omega))|exact(a.Wq (by omega))|exact(a.V2 (by omega))|exact WV T|exact(a.V3 (by omega))|exact WW T|exact(a.WX (by omega))|exact(a.WZ (by omega))|exact(a.WO (by omega))|exact(a.Ma (by omega))|exact(a.L8 (by omega))|exact(a.Md (by omega))|exact(a.WG (by omega))|exact(a.WN (by omega))|exact(a.Me (by omega))|exact(a.Mb (by omega))|exact(a.L_ (by omega))|exact(a.Mc (by omega))|exact(a.L' (by omega))|exact(a.L9 (by omega))|exact(a.WQ (by omega))|exact(a.V4 (by omega))|exact(a.V0 (by omega))|exact(a.WU (by omega))|exact(a.VZ (by omega))|exact(a.V8 (by omega))|exact(a.WR (by omega))|exact WY T|exact(a.Wt (by omega))|exact(a.Wa (by omega))|exact(a.Wb (by omega))|exact(a.V' (by omega))|exact(a.Ww (by omega))|exact a.Wu _ (by omega)|exact(a.Wz (by omega))|exact(a.WA (by omega))|exact(a.WB (by omega))|exact(a.WC (by omega))|exact(a.Wx (by omega))|exact(a.Wv (by omega))|exact(a.Wy (by omega)))
   |((with_reducible show kn _ _ _ _ _ _ _ _ _ _);first|exact(a.Vr (by omega))|exact(a.Vs (by omega))|exact(a.Vt (by omega)).all|exact(a.Vu (by omega))|exact(a.VC (by omega))|exact(a.VI (by omega))|exact(a.Vw (by omega))|exact(a.Vx (by omega))|exact(a.VA (by omega))|exact(a.Vv (by omega))|exact(a.VE (by omega))|exact(a.Vy (by omega))|exact(a.VB (by omega))|exact(a.Vz (by omega))|exact(a.VG (by omega))|exact(a.VF (by omega))|exact(a.VJ (by omega))|exact(a.VH (by omega))|exact(a.VD (by omega))|exact(a.VK (by omega))|exact(a.VL (by omega))|exact(a.VT (by omega))|exact(a.VX (by omega))|exact(a.L7 (by omega)).all|exact(a.VM (by omega))|exact(a.VS (by omega))|exact(a.VQ (by omega))|exact(a.VP (by omega))|exact(a.VO (by omega))|exact(a.VV (by omega))|exact(a.VN (by omega))|exact(a.VW (by omega))|exact(a.VU (by omega))|exact(a.VR (by omega)))
   |(first|refine af5 ?_|refine AF ?_|refine af6 rfl T.B.range ?_|refine af7 ?_|refine agx ?_|refine agz ?_|refine agy rfl T.B.range ?_|refine ahf rfl T.B.range ?_|refine ahg rfl T.B.range ?_|exact agG|refine agH ?_)
def E4(T:Txt P w K mg base)(F:kY K "law" "law" wQ f fd):e2 P w K mg base eA 26 f fd ["script"] (hM K mg EA):=(ax T 26).E4 F (akk _)
end
end dV
set_option maxHeartbeats 1000000
namespace aF
open PySem PySem.Spec aB
@[simp] theorem ah6{x y:R}:wj x y=match x.own,y.own with
 |some xs,some ys=>if xs.length+ys.length<=aki then pure (.fr (xs++ys))else bad|_,_=>bad:=rfl
@[simp] theorem ajX{i j:Int}(a:0<j)(b:j<10 ^ 200):pe i j:=Cz a b
def Bu{α:Type}{xs:List α}{i:Int}{v:α}(h:d3 xs i=some v):v∈xs:=by
 obtain⟨j,_,e,_⟩:=xP h;exact akM e
def xQ{α:Type}{xs:List α}{i:Int}(a:0<=i)(b:i<xs.length):∃v,d3 xs i=some v:=by
 have hl:i.toNat<xs.length:=by omega
 refine⟨xs[i.toNat],?_⟩;have:=jW (xs:=xs) i.toNat (v:=xs[i.toNat]) (by simp[hl])
 rwa[Int.toNat_of_nonneg a]at this
end aF
namespace i5
inductive a7 where
 |kp (k:Nat)
 |ch (k:Nat) (ps:List a7)
mutual
def a7.names:a7->List Nat
 |.kp k=>[k]
 |.ch _ ps=>a7.eP ps
def a7.eP:List a7->List Nat
 |[]=>[]
 |r::rs=>r.names++a7.eP rs
end
mutual
def a7.deep:a7->Nat
 |.kp _=>0|.ch _ ps=>a7.lR ps+1
def a7.lR:List a7->Nat
 |[]=>0|r::rs=>max r.deep (a7.lR rs)
end
mutual
def a7.wf:a7->Prop
 |.kp k=>k<6|.ch k ps=>1<=k/\k<=ps.length/\ps.length<=6/\a7.nE ps
def a7.nE:List a7->Prop
 |[]=>True|r::rs=>r.wf/\a7.nE rs
end
mutual
def a7.fills(p:Nat->Bool):a7->Bool
 |.kp k=>p k|.ch k ps=>decide (k<=a7.cnt p ps)
def a7.cnt(p:Nat->Bool):List a7->Nat
 |[]=>0|r::rs=>(if r.fills p then 1 else 0)+a7.cnt p rs
end
theorem ub:∀{ps:List a7},a7.nE ps↔∀r∈ps,r.wf
 |[]=>by simp[a7.nE]| r::rs=>by simp[a7.nE,ub]
theorem pE:∀{ps:List a7}{n:Nat},a7.lR ps<n->∀r∈ps,r.deep<n
 |r::rs,n,h,x,o=>by
  simp only[a7.lR]at h;rcases akt.mp o with rfl|o
  .omega
  .exact pE (ps:=rs) (by omega) x o
theorem Cj(p:Nat->Bool):∀ps:List a7,(ps.filter (a7.fills p)).length=a7.cnt p ps
 |[]=>rfl|r::rs=>by
  rw[anr];simp only[a7.cnt]
  cases h:r.fills p with
  |true=>simp[Cj p rs];omega|false=>simp[Cj p rs]
mutual
theorem Lw{p q:Nat->Bool}(h:∀k,p k=true->q k=true):∀r:a7,r.fills p=true->r.fills q=true
 |.kp k,e=>by simp only[a7.fills]at e ⊢;exact h k e|.ch k ps,e=>by
  simp only[a7.fills,decide_eq_true_eq]at e ⊢;exact akU e (Jb h ps)
theorem Jb{p q:Nat->Bool}(h:∀k,p k=true->q k=true):∀ps:List a7,a7.cnt p ps<=a7.cnt q ps
 |[]=>akk _|r::rs=>by
  simp only[a7.cnt];have a:=Lw h r;have b:=Jb h rs
  cases e:r.fills p with
  |true=>rw[a e];simp;omega|false=>simp only[am7,if_false];split<;>omega
end
mutual
theorem Lx:∀r:a7,r.wf->r.fills (λ_=>false)=false
 |.kp _,_=>by simp[a7.fills]|.ch k ps,h=>by
  simp only[a7.wf]at h;simp only[a7.fills,cnt_none ps h.2.2.2];exact decide_eq_false (by omega)
theorem cnt_none:∀ps:List a7,a7.nE ps->a7.cnt (λ_=>false) ps=0
 |[],_=>rfl|r::rs,h=>by
  simp only[a7.nE]at h;simp only[a7.cnt,Lx r h.1,cnt_none rs h.2];rfl
end
mutual
theorem p3:∀r:a7,r.wf->∀k∈r.names,k<6
 |.kp k,h,x,o=>by simp only[a7.names,akF]at o;simp only[a7.wf]at h;omega| .ch k ps,h,x,o=>by simp only[a7.wf]at h;exact NW ps h.2.2.2 x (by simpa only[a7.names]using o)
theorem NW:∀ps:List a7,a7.nE ps->∀k∈a7.eP ps,k<6
 |[],_,x,o=>by simp[a7.eP]at o|r::rs,h,x,o=>by
  simp only[a7.nE]at h;simp only[a7.eP,alc]at o;rcases o with o|o
  .exact p3 r h.1 x o
  .exact NW rs h.2 x o
end
theorem wa:∀ps a:List a7,a7.eP (ps++a)=a7.eP ps++a7.eP a
 |[],_=>rfl|r::rs,a=>by
  show r.names++a7.eP (rs++a)=(r.names++a7.eP rs)++a7.eP a;rw[wa rs a,amL]
end i5
namespace aF
open PySem PySem.Spec aB i5
mutual
def enc:a7->D
 |.kp k=>.int (k:Nat)|.ch k ps=>.t [.int (k:Nat),.t (encL ps)]
def encL:List a7->List D
 |[]=>[]
 |r::rs=>enc r::encL rs
end
theorem Lf:∀ps:List a7,encL ps=ps.map enc
 |[]=>rfl| r::rs=>by rw[aks,<-Lf rs];rfl
def qP(k:Nat)(ps:List a7):enc (.ch k ps)=.t [.int (k:Nat),.t (ps.map enc)]:=by rw[<-Lf];rfl
def sg(k:Nat):enc (.kp k)=.int (k:Nat):=rfl
@[simp] theorem ajZ(r:a7):b8 (enc r)=.v (enc r):=by cases r<;>rfl
def Co{α:Type}(xs:List α)(k:Nat):cutD xs (some (k:Int)) none=xs.drop k:=by
 unfold cutD;rw[c5.z',c5.Aa]
 by_cases h:k<=xs.length
 .rw[am0 h]
  exact alD (by rw[alj];omega)
 .rw[Nat.min_eq_right (by omega),aoN (akk _),aoN (by omega),aoX]
def Ji{α:Type}(xs:List α)(k:Nat):cutD xs none (some (k:Int))=xs.take k:=by
 unfold cutD;rw[c5.z',c5.Aa,anV,Nat.sub_zero]
 by_cases h:k<=xs.length
 .rw[am0 h]
 .rw[Nat.min_eq_right (by omega),alD (akk _),alD (by omega)]
end aF
namespace gc
def cB(m k:Nat):Bool:=m / 2 ^ k % 2==1
def fs(m:Nat):List Nat:=(akG (if m==0 then 0 else m.log2+1)).filter (cB m)
def r4(b:Bool)(n:Nat):Nat:=if b then n else 0
def tp(e a b c d f:Bool):Nat:=r4 e 1+r4 a 2+r4 b 4+r4 c 8+r4 d 16+r4 f 32
def kI(p:Nat->Bool):Nat:=tp (p 0) (p 1) (p 2) (p 3) (p 4) (p 5)
def Z7(p:Nat->Bool)(k:Nat)(g:k<6):kI p ||| 2 ^ k=kI λj=>p j||j==k:=by
 have all:∀e a b c d f:Bool,∀k:Fin 6,tp e a b c d f ||| 2 ^ k.val=tp (e||0==k.val) (a||1==k.val) (b||2==k.val) (c||3==k.val) (d||4==k.val) (f||5==k.val):=by decide +kernel
 exact all (p 0) (p 1) (p 2) (p 3) (p 4) (p 5) ⟨k,g⟩
def zJ(p:Nat->Bool)(k:Nat)(h:k<6):(kI p / 2 ^ k % 2==1)=p k:=by
 have all:∀f a b c d g:Bool,∀k:Fin 6,(tp f a b c d g / 2 ^ k.val % 2==1)=[f,a,b,c,d,g].getD k.val false:=by decide +kernel
 have e:=all (p 0) (p 1) (p 2) (p 3) (p 4) (p 5) ⟨k,h⟩;rw[show kI p=tp (p 0) (p 1) (p 2) (p 3) (p 4) (p 5)from rfl,e];have:k=0\/k=1\/k=2\/k=3\/k=4\/k=5:=by omega
 rcases this with rfl|rfl|rfl|rfl|rfl|rfl<;>rfl
def EK(p:Nat->Bool):kI p<64:=by
 have all:∀e a b c d f:Bool,tp e a b c d f<64:=by decide +kernel
 exact all _ _ _ _ _ _
def bits(m:Nat):Nat:=if m==0 then 0 else m.log2+1
def maskOf(ns:List Nat):Nat:=ns.foldl (λm k=>m ||| 2 ^ k) 0
theorem NR:∀(ns:List Nat)(p:Nat->Bool),(∀n∈ns,n<6)->ns.foldl (λm k=>m ||| 2 ^ k) (kI p)=kI λj=>p j||ns.contains j
 |[],p,_=>by simp|n::r,p,h=>by
  rw[List.foldl_cons,Z7 p n (h n akw),NR r _ λx a=>h x (akq _ a)]
  congr 1
  funext j
  rw[List.contains_cons,Bool.or_assoc]
def zE(ns:List Nat)(h:∀n∈ns,n<6):maskOf ns=kI λj=>ns.contains j:=by
 have e:=NR ns (λ_=>false) h;have z:kI (λ_=>false)=0:=rfl;rw[z]at e;show ns.foldl (λm k=>m ||| 2 ^ k) 0=_;rw[e];simp
end gc
namespace jk
open gc i5
def sub(x m:Nat):Bool:=(akG 6).all λk=>!cB x k||cB m k
def within(a:List Nat):List Nat:=a.foldl (λms k=>ms++ms.map (· + 2 ^ k)) [0]
def agF:∀M:Fin 64,within (fs M.val)=(akG 64).filter λx=>sub x M.val:=by decide +kernel
def filling(r:a7)(M:Nat):List Nat:=(within (fs M)).filter λm=>r.fills (cB m)
def sJ(a:List Nat)(m:Nat):Bool:=!((fs m).any λk=>a.contains (m-2 ^ k))
def least(r:a7):List Nat:=(filling r (maskOf r.names)).filter (sJ (filling r (maskOf r.names)))
def xW(b:m<64)(a:6<=k):cB m k=false:=by
 unfold cB;have c:64<=2 ^ k:=akU (show 64<=2 ^ 6 by decide) (anL (by decide) a);rw[Nat.div_eq_of_lt (by omega)];rfl
def Ah(b:x<64):sub x m=true↔∀k,cB x k=true->cB m k=true:=by
 unfold sub;rw[akV];constructor
 .intro h k a
  by_cases c:k<6
  .have:=h k (akZ.mpr c)
   rw[a]at this;simpa using this
  .rw[xW b (by omega)]at a;cases a
 .intro h k _
  cases e:cB x k with
  |false=>rfl|true=>rw[h k e];rfl
def EI(a:x<64):k∈fs x↔k<6/\cB x k=true:=by
 have all:∀x:Fin 64,fs x.val=(akG 6).filter (cB x.val):=by decide +kernel
 rw[all ⟨x,a⟩,alw,akZ]
def K7(c:x<64)(d:k<6)(h:cB x k=true):x-2 ^ k<x/\∀j,cB (x-2 ^ k) j=true->cB x j=true:=by
 have all:∀x:Fin 64,∀k:Fin 6,cB x.val k.val=true->x.val-2 ^ k.val<x.val/\sub (x.val-2 ^ k.val) x.val=true:=by decide +kernel
 obtain⟨a,b⟩:=all ⟨x,c⟩ ⟨k,d⟩ h;exact⟨a,(Ah (by have:x-2 ^ k<x:=a;omega)).mp b⟩
def zG{r:a7}{M x:Nat}(d:M<64):x∈filling r M↔x<64/\sub x M=true/\r.fills (cB x)=true:=by
 unfold filling;rw[agF ⟨M,d⟩,alw,alw,akZ];constructor
 .rintro⟨⟨a,b⟩,c⟩;exact⟨a,b,c⟩
 .rintro⟨a,b,c⟩;exact⟨⟨a,b⟩,c⟩
def zF(r:a7)(h:r.wf):maskOf r.names<64:=by
 rw[zE r.names (p3 r h)];exact EK _
def Z0(r:a7)(h:r.wf)(a:k∈r.names):cB (maskOf r.names) k=true:=by
 rw[zE r.names (p3 r h)];have:=zJ (λj=>r.names.contains j) k (p3 r h k a);unfold cB;rw[this];simpa using a
def zf(r:a7)(h:r.wf)(a:x∈least r):x<64/\r.fills (cB x)=true/\sub x (maskOf r.names)=true:=by
 have:=(alw.mp a).1;rw[zG (zF r h)]at this;exact⟨this.1,this.2.2,this.2.1⟩
def Zu(r:a7)(h:r.wf):∀(n x:Nat),x<=n->x<64->sub x (maskOf r.names)=true->r.fills (cB x)=true->∃y∈least r,∀j,cB y j=true->cB x j=true:=by
 intro n
 induction n with
 |zero=>
  intro x s a d b;have:x=0:=by omega
  subst this;exfalso;have e:cB 0=λ_=>false:=by funext j;unfold cB;rw[Nat.zero_div];rfl
  rw[e,Lx r h]at b;cases b
 |succ n q=>
  intro x s a d b;have i:x∈filling r (maskOf r.names):=(zG (zF r h)).mpr ⟨a,d,b⟩
  cases hl:sJ (filling r (maskOf r.names)) x with
  |true=>exact⟨x,alw.mpr ⟨i,hl⟩,λ_ c=>c⟩|false=>
   unfold sJ at hl;have g:((fs x).any λk=>(filling r (maskOf r.names)).contains (x-2 ^ k))=true:=by simpa using hl
   obtain⟨k,t,B⟩:=anp.mp g;obtain⟨D,m⟩:=(EI a).mp t;obtain⟨E,u⟩:=K7 a D m;have l:x-2 ^ k∈filling r (maskOf r.names):=by simpa using B
   obtain⟨w,z,A⟩:=(zG (zF r h)).mp l;obtain⟨y,p,f⟩:=q (x-2 ^ k) (by omega) w z A;exact⟨y,p,λj c=>u j (f j c)⟩
mutual
theorem Lv{p q:Nat->Bool}:∀r:a7,(∀k∈r.names,p k=q k)->r.fills p=r.fills q
 |.kp k,h=>by simp only[a7.fills];exact h k (by simp[a7.names])| .ch k ps,h=>by simp only[a7.fills];rw[I' ps λk a=>h k (by simpa[a7.names]using a)]
theorem I'{p q:Nat->Bool}:∀ps:List a7,(∀k∈a7.eP ps,p k=q k)->a7.cnt p ps=a7.cnt q ps
 |[],_=>rfl|r::rs,h=>by
  simp only[a7.cnt];rw[Lv r λk a=>h k (by simp[a7.eP,a]),I' rs λk a=>h k (by simp[a7.eP,a])]
end
def ajM(r:a7)(h:r.wf)(t:m<64):r.fills (cB m)=(least r).any fun x=>sub x m:=by
 cases e:r.fills (cB m)with
 |true=>
  symm;rw[anp];have c:∀k,k<6->(kI (λj=>cB m j&&cB (maskOf r.names) j) / 2 ^ k % 2==1)=(cB m k&&cB (maskOf r.names) k):=λk a=>zJ _ k a
  have b:kI (λj=>cB m j&&cB (maskOf r.names) j)<64:=EK _;generalize kI (λj=>cB m j&&cB (maskOf r.names) j)=x at c b;have s:r.fills (cB x)=true:=by
   rw[<-e];refine Lv r λk a=>?_
   show cB x k=cB m k;have:=c k (p3 r h k a);unfold cB at this ⊢;rw[this];have q:=Z0 r h a;unfold cB at q;rw[q,aoY]
  have ax:sub x (maskOf r.names)=true:=by
   rw[Ah b];intro k a
   by_cases f:k<6
   .have:=c k f
    unfold cB at a;rw[a]at this;have:=(akH _ _▸this.symm);exact this.2
   .rw[xW b (by omega)]at a;cases a
  obtain⟨y,g,i⟩:=Zu r h x x (akk _) b ax s;refine⟨y,g,?_⟩;rw[Ah (zf r h g).1];intro k a;have d:=i k a
  by_cases f:k<6
  .have:=c k f
   unfold cB at d;rw[d]at this;have:=(akH _ _▸this.symm);exact this.1
  .rw[xW b (by omega)]at d;cases d
 |false=>
  symm;rw[List.any_eq_false];intro x p ax;obtain⟨l,n,_⟩:=zf r h p;have:=Lw ((Ah l).mp ax) r n;rw[e]at this;cases this
end jk
namespace aF
open PySem PySem.Spec aB gc i5 jk
def a_(k:Nat):D:=.int (k:Int)
def gZ(k:Nat):a_ k=.int (k:Int):=rfl
def Rc(x:Int):alM x 1=x % 2:=W.kbt_mask x 1
def E7(a b:Nat):anl (a:Int) (b:Int)=((a ||| b:Nat):Int):=by
 have c:decide (0<=alG (a:Int))=false:=decide_eq_false (by unfold alG;omega);have d:decide (0<=alG (b:Int))=false:=decide_eq_false (by unfold alG;omega);have av:(alG (alG (a:Int))).toNat=a:=by unfold alG;omega
 have aE:(alG (alG (b:Int))).toNat=b:=by unfold alG;omega
 unfold anl alM;rw[c,d];dsimp only;rw[av,aE];unfold alG;omega
def Rb(a b:Nat):alM (a:Int) (b:Int)=((a&&& b:Nat):Int):=by
 have c:decide (0<=(a:Int))=true:=decide_eq_true (by omega);have d:decide (0<=(b:Int))=true:=decide_eq_true (by omega);unfold alM;rw[c,d];rfl
def Yq(m:Nat):alq (m:Int)=gc.bits m:=by
 unfold alq gc.bits;rw[Int.natAbs_natCast]
 by_cases h:m=0
 .subst h;rfl
 .have h':(m:Int)≠0:=by omega
  rw[beq_eq_false_iff_ne.mpr h,beq_eq_false_iff_ne.mpr h']
def bits_le(m:Nat)(h:m<64):gc.bits m<=6:=by
 have all:∀m:_root_.Fin 64,gc.bits m.val<=6:=by decide +kernel
 exact all ⟨m,h⟩
def YR(m:Nat):fs m=(akG (gc.bits m)).filter (cB m):=rfl
def D3(h:m<64):(fs m).length<=6:=by
 have all:∀m:_root_.Fin 64,(fs m.val).length<=6:=by decide +kernel
 exact all ⟨m,h⟩
def EF(a:List Nat)(k:Nat):gc.maskOf (a++[k])=gc.maskOf a ||| 2 ^ k:=by
 unfold gc.maskOf;rw[List.foldl_append];rfl
def NS(k:Nat):gc.maskOf [k]=2 ^ k:=by
 show 0 ||| 2 ^ k=2 ^ k
 exact Nat.zero_or _
def Qc(a:List Nat)(k:Nat):within (a++[k])=within a++(within a).map (· + 2 ^ k):=by
 unfold within;rw[List.foldl_append];rfl
def Qb:∀a:List Nat,(within a).length=2 ^ a.length:=by
 intro a;rcases h:a.length with _|n
 .rw[amB.mp h];rfl
 .have:∀(n:Nat)(a:List Nat),a.length=n->(within a).length=2 ^ n:=by
   intro n
   induction n with
   |zero=>intro a h;rw[amB.mp h];rfl|succ n b=>
    intro a h;rcases List.eq_nil_or_concat a with rfl|⟨l,k,rfl⟩
    .cases h
    .rw[List.concat_eq_append]at h ⊢
     rw[akg,alv]at h;rw[Qc,akg,akh,b l (by omega)];omega
  exact this _ _ h
def take_snoc{α:Type}{l:List α}{i:Nat}{x:α}(h:l[i]? = some x):l.take (i+1)=l.take i++[x]:=by
 rw[aol,h];rfl
def zD{α a:Type}{f:α->a}{l:List α}{i:Nat}{y:a}(h:(l.map f)[i]? = some y):∃x,l[i]? = some x/\y=f x:=by
 rw[akA]at h
 cases e:l[i]? with
 |none=>rw[e]at h;cases h
 |some x=>rw[e]at h;exact⟨x,rfl,(akI h).symm⟩
def Sv(m k:Nat):(alM ((m:Int) / 2 ^ k) 1==1)=cB m k:=by
 rw[Rc];unfold cB;have av:((m:Int) / 2 ^ k) % 2=((m / 2 ^ k % 2:Nat):Int):=by
  rw[Int.natCast_emod,Int.natCast_ediv,Int.natCast_pow];rfl
 rw[av,alQ,beq_iff_eq,beq_iff_eq];omega
def Fz(n:Nat):dH 0 n=(akG n).map a_:=by
 unfold dH;refine anP λi _=>?_
 show D.int (0+(i:Int))=.int (i:Int);rw[Int.zero_add]
def ML(k:Nat)(a:List Nat):inD (a_ k) (a.map a_)=a.contains k:=by
 unfold inD;rw[List.any_map,List.contains_eq_any_beq]
 congr 1
 funext j
 show es (.int (j:Int)) (.int (k:Int))=(k==j);rw[alQ,beq_iff_eq];simp[es];omega
theorem nY{α:Type}{t:aM->M Bool}{el:bx}{U:aM}(f:α->D)(p:α->Bool)(g:α->D):∀xs:List α,(∀x∈xs,t (U.set 0 (.v (f x)))=pure (p x))->(∀x∈xs,p x=true->(el (U.set 0 (.v (f x))) >>= R.dat)=pure (g x))->
  gk t el U (xs.map f)=pure ((xs.filter p).map g)
 |[],_,_=>rfl|x::xs,o,C=>by
  have b:=nY f p g xs (λx a=>o x (akq _ a)) λx a=>C x (akq _ a)
  rw[aks];unfold gk;rw[o x akw,pure_bind]
  cases e:p x with
  |false=>rw[if_neg akl,b,List.filter_cons_of_neg (by rw[e];exact akl)]|true=>
   have h:=C x akw e;rw[if_pos rfl,<-bind_assoc,h,pure_bind,b,pure_bind,List.filter_cons_of_pos e];rfl
def qF{α:Type}{el:bx}{U:aM}(f:α->D)(g:α->D)(xs:List α)(h:∀x∈xs,(el (U.set 0 (.v (f x))) >>= R.dat)=pure (g x)):gk fx el U (xs.map f)=pure (xs.map g):=by
 have:=nY (t:=fx) (el:=el) (U:=U) f (λ_=>true) g xs (λ_ _=>rfl) λx a _=>h x a
 rw[this]
 congr 2
 exact List.filter_eq_self.mpr λ_ _=>rfl
theorem sl{α:Type}{b:D->aN}(f:α->D)(p:α->Bool)(v:α->R)(J:aM->Prop):∀(xs:List α)(U:aM),J U->
  (∀x U,x∈xs->J U->(p x=true->b (f x) U=pure (.cn (v x)))/\(p x=false->∃U',b (f x) U=pure (.bw U')/\J U'))->
  (∀x,xs.find? p=some x->kx b (xs.map f) U=pure (.cn (v x)))/\(xs.find? p=none->∃U',kx b (xs.map f) U=pure (.bw U')/\J U')
 |[],U,h0,_=>⟨λx h=>(nomatch h),λ_=>⟨U,rfl,h0⟩⟩
 |x::xs,U,h0,step=>by
  obtain⟨i,s2⟩:=step x U akw h0
  cases e:p x with
  |true=>
   rw[amI e];refine⟨λy h=>?_,λh=>(nomatch h)⟩;cases h;show(b (f x) U >>= _)=_;rw[i e];rfl
  |false=>
   obtain⟨a,av,g⟩:=s2 e;have d:=sl f p v J xs a g λy U c=>step y U (akq _ c)
   rw[amJ (by rw[e];exact akl)];have u:kx b ((x::xs).map f) U=kx b (xs.map f) a:=by
    show(b (f x) U >>= _)=_;rw[av];rfl
   rw[u];exact d
end aF
namespace jk
open gc i5
def Rd(b:x<64)(c:y<64):(x&&& y==0)=true↔∀k,cB x k=true->cB y k=true->False:=by
 have all:∀x y:Fin 64,(x.val&&& y.val==0)=(akG 6).all λk=>!(cB x.val k&&cB y.val k):=by decide +kernel
 rw[all ⟨x,b⟩ ⟨y,c⟩,akV];constructor
 .intro h k a d
  by_cases e:k<6
  .have:=h k (akZ.mpr e)
   rw[a,d]at this;cases this
  .rw[xW b (by omega)]at a;cases a
 .intro h k _
  cases av:cB x k with
  |false=>rfl|true=>
   cases aE:cB y k with
   |false=>rfl|true=>exact(h k av aE).elim
def lL(x y:Nat):Bool:=x&&& y==0
def j6(k:a7)(m:Nat):Bool:=((least k).find? (lL m)).isSome
end jk
namespace aF
open PySem PySem.Spec aB
mutual
def D.AH:D->Bool
 |.t xs=>decide (xs.length<=1000)&&mz xs|.l xs=>decide (xs.length<=1000)&&mz xs|.ref _=>true|.fn _=>true|.ty _=>true|.aJ=>true|.ay _=>true|.int _=>true|.str _=>true
def mz:List D->Bool
 |[]=>true|x::xs=>x.AH&&mz xs
end
theorem w':∀{xs:List D},mz xs=true↔∀x∈xs,x.AH=true
 |[]=>by simp[mz]| x::xs=>by simp[mz,w']
theorem lV:∀{xs:List D}{n:Nat},g9 xs n=true↔∀x∈xs,x.b1 n=true
 |[],_=>by simp[g9]| x::xs,n=>by simp[g9,lV]
def Ok(n:Nat)(d:D):Prop:=d.b1 n=true/\d.AH=true
def tE:Ok n .aJ:=⟨rfl,rfl⟩
def c7{i:Int}:Ok n (.int i):=⟨rfl,rfl⟩
def hK(h:aku x=true):Ok n (.str x):=⟨h,rfl⟩
def oJ{xs:List D}(hl:xs.length<=1000)(h:∀x∈xs,Ok n x):Ok (n+1) (.t xs):=
 ⟨lV.mpr λx a=>(h x a).1,by show(decide (xs.length<=1000)&&mz xs)=true;rw[decide_eq_true hl,w'.mpr λx a=>(h x a).2];rfl⟩
def LP:∀{d:D}{n m:Nat},n<=m->d.b1 n=true->d.b1 m=true:=by
 intro d
 induction d using D.rec (motive_2:=λds=>∀n m,n<=m->g9 ds n=true->g9 ds m=true)with
 |aJ=>exact λ_ h=>h
 |ay _=>exact λ_ h=>h
 |int _=>exact λ_ h=>h
 |str _=>exact λ_ h=>h
 |fn _=>exact λ_ h=>h
 |ty _=>exact λ_ h=>h
 |ref _=>exact λ_ h=>h
 |t xs b=>
  intro n m a h
  cases n with
  |zero=>cases h
  |succ n=>
   cases m with
   |zero=>omega| succ m=>exact b n m (by omega) h
 |l xs b=>
  intro n m a h
  cases n with
  |zero=>cases h
  |succ n=>
   cases m with
   |zero=>omega| succ m=>exact b n m (by omega) h
 |nil=>rfl|cons x xs c e=>
  rename_i n m a h;have h:(x.b1 n&&g9 xs n)=true:=h;rw[akH]at h;show(x.b1 m&&g9 xs m)=true;rw[c a h.1,e n m a h.2];rfl
def wx(h:Ok n d)(a:n<=m):Ok m d:=⟨LP a h.1,h.2⟩
def Of(h:Ok n a):Ok (n+1) (.t [a]):=oJ (by simp) λx b=>by rw[akF.mp b];exact h
def mh(c:Ok n a)(d:Ok n b):Ok (n+1) (.t [a,b]):=oJ (by simp) (by simp only[ak2];exact⟨c,d,λ_ h=>nomatch h⟩)
def oI(d:Ok n a)(e:Ok n b)(f:Ok n c):Ok (n+1) (.t [a,b,c]):=oJ (by simp) (by simp only[ak2];exact⟨d,e,f,λ_ h=>nomatch h⟩)
def wo(e:Ok n a)(f:Ok n b)(g:Ok n c)(i:Ok n d):Ok (n+1) (.t [a,b,c,d]):=oJ (by simp) (by simp only[ak2];exact⟨e,f,g,i,λ_ h=>nomatch h⟩)
def wq(g:Ok n a)(i:Ok n b)(j:Ok n c)(k:Ok n d)(l:Ok n e)(m:Ok n f):Ok (n+1) (.t [a,b,c,d,e,f]):=oJ (by simp) (by simp only[ak2];exact⟨g,i,j,k,l,m,λ_ h=>nomatch h⟩)
def Oe:Ok (n+1) (.t []):=oJ (by simp) λ_ h=>nomatch h
def pick(P:D->Prop)(xs:List D)(c k:Int)(d:(xs.length:Int)=k)(f:0<k)(h:∀x∈xs,P x):∃v,d3 xs (c % k)=some v/\P v:=by
 have b:=mod_lt (a:=c) f;obtain⟨v,e⟩:=xQ (xs:=xs) (i:=c % k) b.1 (by rw[d];exact b.2);exact⟨v,e,h v (Bu e)⟩
@[simp] theorem aiw:R.j8 (.bN xs)=false:=rfl
@[simp] theorem ait:R.j8 (.v (.l xs))=false:=rfl
@[simp] theorem aiq:R.j8 (.v (.ay b))=false:=rfl
@[simp] theorem aiM{z:Str}:m7 [.v (.str z)]=if z.length<=aki then pure (.v (.int (z.length:Nat)))else bad:=rfl
@[simp] theorem ah7{x y:Str}:oE (.v (.str x)) (.v (.str y))=if x.length+y.length<=aki then pure (.v (.str (x++y)))else bad:=rfl
def eq_str(h:aku x=true):oEq (.v (.str x)) (.v (.str x))=pure (.v (.ay true)):=by rw[qL (x:=.v (.str x)) (y:=.v (.str x)) h h];simp[es]
mutual
theorem OG:∀{d:D}{n:Nat},d.b1 n=true->es d d=true
 |.aJ,_,_=>rfl| .ay _,_,_=>by simp[es]| .int _,_,_=>by simp[es]| .str _,_,_=>by simp[es]|.t xs,n,h=>by
  cases n with
  |zero=>cases h
  |succ k=>exact Fd (xs:=xs) (n:=k) h
 |.l xs,n,h=>by
  cases n with
  |zero=>cases h
  |succ k=>exact Fd (xs:=xs) (n:=k) h
 |.ref _,_,h=>by cases h
 |.fn _,_,h=>by cases h
 |.ty _,_,h=>by cases h
theorem Fd:∀{xs:List D}{n:Nat},g9 xs n=true->mi xs xs=true
 |[],_,_=>rfl|x::xs,n,h=>by
  have h:=lV.mp h;unfold mi;rw[akH];exact⟨OG (h x akw),Fd (lV.mpr λy a=>h y (akq _ a))⟩
end
structure dp where
 e:Int
 p1:Int
 ck:Int
 eo:Int
 dW:Int
 bh:D
def bL(a b:Int):D:=.t [.int a,.int b]
def dG(g:dp):D:=.t [.int g.e,bL g.p1 g.ck,bL g.eo g.dW,g.bh]
def oQ(l:List dp):List D:=(jM (λa b:Int=>decide (a<b)) ((l.map dp.e).zip (l.map dG))).map (·.2)
theorem Nf{mf:bq}(h:∀g:dp,mf [dG g]=pure (.v (.int g.e))):∀l:List dp,keysOf ft mf (l.map dG)=some (l.map dp.e)
 |[]=>rfl|g::l=>by
  rw[aks];unfold keysOf;rw[Nf h l];have:sQ ft mf (dG g)=some g.e:=by unfold sQ;rw[h];rfl
  rw[this];rfl
theorem GY:∀{l:List Int},l.Nodup->mU (λa b:Int=>decide (a<b)) l=true
 |[],_=>rfl|a::r,h=>by
  rw[ale]at h;unfold mU;rw[GY h.2,aoY,akV];intro b c;have:a≠b:=λe=>h.1 (e▸c)
  simp only[aoJ,decide_eq_true_eq];omega
def aeO{mf:bq}(h:∀g:dp,mf [dG g]=pure (.v (.int g.e))){x:R}{l:List dp}(b:x.fu=some (l.map dG))(a:(l.map dp.e).Nodup)(hl:l.length<64):n5 ft mf x=pure (.fr (oQ l)):=by
 unfold n5;rw[b];dsimp only;rw[Nf h l];dsimp only;rw[if_pos ⟨GY a,by rw[akh];exact hl⟩];rfl
theorem Qs:∀l:List dp,(l.map dp.e).zip (l.map dG)=l.map λg=>(g.e,dG g)
 |[]=>rfl| g::l=>by rw[aks,aks,aks,am8,Qs l]
def aeL{l c:List dp}(d:c.Perm l)(ax:c.Pairwise λa b=>a.e<b.e):oQ l=c.map dG:=by
 have f:(l.map dp.e).Nodup:=by
  have:(c.map dp.e).Nodup:=by
   rw[amU,amM];exact ax.imp λh=>by omega
  exact(d.map dp.e).nodup_iff.mp this
 have hz:((l.map λg=>(g.e,dG g)).map (·.1)).Nodup:=by
  rw[amf];exact f
 have one:=FN vt.toKeyOrd (l:=l.map λg=>(g.e,dG g)) (ps:=c.map λg=>(g.e,dG g)) hz (d.map _) (by
  rw[amM];exact ax.imp λh=>decide_eq_true h)
 unfold oQ;rw[Qs];have:jM (λa b:Int=>decide (a<b)) (l.map λg=>(g.e,dG g))=c.map λg=>(g.e,dG g):=one.symm
 rw[this,amf];rfl
def putL(bk:List dp)(g:dp):List dp:=bk.filter (λh=>!(h.e==g.e))++[g]
def OV{bk:List dp}(h:(bk.map dp.e).Nodup):((putL bk g).map dp.e).Nodup:=by
 unfold putL;rw[alI,anb];refine⟨h.sublist (anQ.map _),by simp,λa f b c=>?_⟩;obtain⟨x,d,rfl⟩:=akK.mp f;have i:b=g.e:=by simpa using c
 subst i;have:=(alw.mp d).2;simpa using this
def OU(bk:List dp)(g:dp):(putL bk g).length<=bk.length+1:=by
 unfold putL;rw[akg,alv];have:=alY (λh:dp=>!(h.e==g.e)) bk;omega
def adR{bk:List dp}(h:x∈putL bk g):x∈bk\/x=g:=by
 unfold putL at h;rcases alc.mp h with h|h
 .exact .inl (alw.mp h).1
 .exact .inr (akF.mp h)
def lI(bk:List dp):Prop:=bk.Pairwise λa b=>a.e<b.e
def lI.nodup{bk:List dp}(h:lI bk):(bk.map dp.e).Nodup:=by
 rw[amU,amM];exact ao9 (λh=>by omega) h
def find_eq{bk:List dp}{e:Int}{g:dp}(h:bk.find? (λx=>x.e==e)=some g):g.e=e/\g∈bk:=⟨by have:=amZ h;simpa using this,alZ h⟩
def blank(e:Int):dp:=⟨e,0,0,0,0,.aJ⟩
def e9(bk:List dp)(e:Int):dp:=(bk.find? (λx=>x.e==e)).getD (blank e)
def Oy(bk:List dp)(e:Int):(e9 bk e).e=e:=by
 unfold e9
 cases h:bk.find? (λx=>x.e==e)with
 |none=>rfl|some g=>exact(find_eq h).1
@[simp] theorem ah9{g:List Int->List Int->Bool}{a b c d:Int}:tA g (.v (bL a b)) (.v (bL c d))=pure (.v (.ay (g [a,b] [c,d]))):=rfl
def adS{bk:List dp}(n:lI bk)(g:dp):∃d,lI d/\oQ (putL bk g)=d.map dG/\(∀x,x∈d↔x∈putL bk g)/\d.length<=bk.length+1:=by
 have f:=List.mergeSort_perm (putL bk g) (λa b=>decide (a.e<=b.e));have ax:=List.pairwise_mergeSort (le:=λa b:dp=>decide (a.e<=b.e)) (λa b c k m=>by
  have:=of_decide_eq_true k;have:=of_decide_eq_true m;exact decide_eq_true (by omega)) (λa b=>by simp only[aoJ,decide_eq_true_eq];omega) (putL bk g)
 generalize(putL bk g).mergeSort (λa b=>decide (a.e<=b.e))=d at f ax;have i:(d.map dp.e).Nodup:=(f.map dp.e).nodup_iff.mpr (OV n.nodup);have rise:lI d:=by
  unfold lI;clear f
  induction d with
  |nil=>exact .nil|cons x l p=>
   rw[aks,ale]at i;rw[alX]at ax ⊢;refine⟨λy j=>?_,p ax.2 i.2⟩;have k:=of_decide_eq_true (ax.1 y j);have m:x.e≠y.e:=λh=>i.1 (by rw[h];exact amz j)
   omega
 exact⟨d,rise,aeL f rise,λx=>f.mem_iff,by rw[f.length_eq];exact OU bk g⟩
end aF
namespace aF
open PySem PySem.Spec aB PyProof.Rows
section
variable{Q:alS}[DecidableEq Q.α]
def kZ(Q:alS)(l:List (Q.α×D)):Prop:=l.Pairwise λa b=>Q.blt a.1 b.1=true
def kZ.nodup{l:List (Q.α×D)}(h:kZ Q l):(l.map (·.1)).Nodup:=by
 rw[amU,amM];refine ao9 (λ{a b} h e=>?_) h;rw[e,Q.irrefl]at h;cases h
def ju(l:List (Q.α×D))(a:Q.α):List (Q.α×D):=l.filter λq=>!decide (q.1=a)
def ml(l:List (Q.α×D))(p:Q.α×D):List (Q.α×D):=ju l p.1++[p]
def kg(l:List (Q.α×D))(p:Q.α×D):List (Q.α×D):=jM Q.blt (ml l p)
def fl(l:List (Q.α×D))(a:Q.α):Option D:=(l.find? λq=>decide (q.1=a)).map (·.2)
def K5{l:List (Q.α×D)}(a:Q.α)(h:(l.map (·.1)).Nodup):((ju l a).map (·.1)).Nodup:=h.sublist (anQ.map _)
def uX{l:List (Q.α×D)}{a:Q.α}{x:Q.α×D}:x∈ju l a↔x∈l/\x.1≠a:=by
 unfold ju;rw[alw];simp
def CC(l:List (Q.α×D))(a:Q.α):(ju l a).length<=l.length:=alY _ _
def Fm{l:List (Q.α×D)}(p:Q.α×D)(h:(l.map (·.1)).Nodup):((ml l p).map (·.1)).Nodup:=by
 unfold ml;rw[alI,anb];refine⟨K5 _ h,by simp,λa e b c=>?_⟩;obtain⟨x,d,rfl⟩:=akK.mp e;rw[show b=p.1 by simpa using c];exact(uX.mp d).2
def Fl{l:List (Q.α×D)}{p x:Q.α×D}:x∈ml l p↔(x∈l/\x.1≠p.1)\/x=p:=by
 unfold ml;rw[alc,uX,akF]
def OW(l:List (Q.α×D))(p:Q.α×D):(ml l p).length<=l.length+1:=by
 unfold ml;rw[akg,alv];have:=CC l p.1;omega
def Fn{l:List (Q.α×D)}(p:Q.α×D)(h:(l.map (·.1)).Nodup):kZ Q (kg l p):=FL Q _ (Fm p h)
def tL{l:List (Q.α×D)}{p x:Q.α×D}:x∈kg l p↔(x∈l/\x.1≠p.1)\/x=p:=by
 unfold kg;rw[(Ad _ _).mem_iff,Fl]
def Uc{l:List (Q.α×D)}(b:(l.map (·.1)).Nodup)(a:x∈l):l.find? (λq=>decide (q.1=x.1))=some x:=by
 induction l with
 |nil=>cases a
 |cons y l c=>
  rw[aks,ale]at b;rcases akt.mp a with rfl|a
  .rw[amI (by simp)]
  .have d:¬y.1=x.1:=λh=>b.1 (by rw[h];exact amz a)
   rw[amJ (by simpa using d)];exact c b.2 a
def UN{l:List (Q.α×D)}(a:(l.map (·.1)).Nodup)(b:x∈l):fl l x.1=some x.2:=by
 unfold fl;rw[Uc a b];rfl
def yy{l:List (Q.α×D)}{a:Q.α}{d:D}(h:fl l a=some d):(a,d)∈l:=by
 unfold fl at h;obtain⟨x,b,rfl⟩:=anf.mp h;have c:=alZ b;have e:x.1=a:=by have:=amZ b;simpa using this
 rw[<-e];exact c
def LQ{l:List (Q.α×D)}(b:(l.map (·.1)).Nodup):fl l a=some d↔(a,d)∈l:=⟨yy,λh=>UN b h⟩
def UM{l b:List (Q.α×D)}(c:(b.map (·.1)).Nodup)(h:∀d,(a,d)∈b↔o=some d):fl b a=o:=by
 cases o with
 |some d=>exact(LQ c).mpr ((h d).mpr rfl)|none=>
  cases e:fl b a with
  |none=>rfl|some d=>exact((h d).mp (yy e)).symm
def UO{l:List (Q.α×D)}(p:Q.α×D)(b:(l.map (·.1)).Nodup)(a:Q.α):fl (kg l p) a=if a=p.1 then some p.2 else fl l a:=
 UM (l:=l) (Fn p b).nodup fun d=>by
  rw[tL]
  by_cases e:a=p.1
  .rw[if_pos e]
   constructor
   .rintro(⟨_,h⟩|h)
    .exact absurd e h
    .rw[<-h]
   .intro h
    refine .inr ?_;cases p;cases h;rw[e]
  .rw[if_neg e,LQ b]
   constructor
   .rintro(⟨h,_⟩|h)
    .exact h
    .rw[<-h]at e;exact absurd rfl e
   .exact λh=>.inl ⟨h,e⟩
def K6(b:Q.α)(h:kZ Q l):kZ Q (ju l b):=List.Pairwise.sublist anQ h
def aeK(h:kZ Q l):jM Q.blt l=l:=(FN Q h.nodup (.refl _) h).symm
def Rf(h:l.Nodup):mU Q.blt l=true:=by
 induction l with
 |nil=>rfl|cons a r c=>
  rw[ale]at h;unfold mU;rw[c h.2,aoY,akV];intro b d
  cases av:Q.blt a b with
  |true=>rfl|false=>
   cases aE:Q.blt b a with
   |true=>rfl|false=>exact absurd (Q.total a b av aE▸d) h.1
end
section
variable{Z:iH}[DecidableEq Z.κ.α]
theorem Ng(b:∀a,Z.un (Z.eO a)=some a){mf:bq}:∀{l:List (Z.κ.α×D)},(∀x∈l,mf [x.2]=pure (.v (Z.eO x.1)))->keysOf Z mf (l.map (·.2))=some (l.map (·.1))
 |[],_=>rfl|x::l,h=>by
  have e:sQ Z mf x.2=some x.1:=by
   unfold sQ;rw[h x akw];exact b x.1
  rw[aks,aks];unfold keysOf;rw[e,Ng b λy c=>h y (akq _ c)]
theorem zip_rows{α a:Type}:∀l:List (α×a),(l.map (·.1)).zip (l.map (·.2))=l
 |[]=>rfl| x::l=>by rw[aks,aks,am8,zip_rows l]
def FO(d:∀a,Z.un (Z.eO a)=some a){mf:bq}{l:List (Z.κ.α×D)}(h:∀x∈l,mf [x.2]=pure (.v (Z.eO x.1))){r:R}(c:r.fu=some (l.map (·.2)))(b:(l.map (·.1)).Nodup)(hl:l.length<64) :
  n5 Z mf r=pure (.fr ((jM Z.κ.blt l).map (·.2))):=by
 unfold n5;rw[c];dsimp only;rw[Ng d h];dsimp only;rw[if_pos ⟨Rf (Q:=Z.κ.toKeyOrd) b,by rw[akh];exact hl⟩,zip_rows]
end
end aF
namespace aF
open PySem PySem.Spec aB
abbrev e5:=l7.κ.toKeyOrd
def aY(a:List Nat):Str:=⟨a.toArray⟩
abbrev cd(s:Str):List Nat:=s.cps.toList
def I3(a:List Nat):cd (aY a)=a:=rfl
def PY(a:List Nat):l7.un (l7.eO a)=some a:=rfl
def YQ(a:List Nat):l7.eO a=.str (aY a):=rfl
def PV:aY a=aY b↔a=b:=⟨λh=>by rw[<-I3 a,h,I3],λh=>by rw[h]⟩
def T2(d:aku (aY a)=true)(c:aku (aY b)=true):oEq (.v (.str (aY a))) (.v (.str (aY b)))=pure (.v (.ay (decide (a=b)))):=by
 rw[qL (x:=.v (.str (aY a))) (y:=.v (.str (aY b))) d c];show pure (R.v (D.ay (aY a==aY b)))=_
 congr 3
 rw[alQ,beq_iff_eq,decide_eq_true_eq,PV]
def abA(d:aku (aY a)=true)(c:aku (aY b)=true):dA (.v (.str (aY a))) (.v (.str (aY b)))=pure (.v (.ay (!decide (a=b)))):=by
 rw[se (x:=.v (.str (aY a))) (y:=.v (.str (aY b))) d c];show pure (R.v (D.ay (!(aY a==aY b))))=_
 congr 4
 rw[alQ,beq_iff_eq,decide_eq_true_eq,PV]
def lJ(a:List Nat):Prop:=aku (aY a)=true/\1<=a.length/\a.length<=8
def aeV:aku (aY a)=true↔∀c∈a,c<0x110000:=by
 unfold aku aY;rw[List.all_toArray,akV];simp
def oX(a:List Nat):(aY a).length=a.length:=by
 show a.toArray.size=_;simp
def afS(a b:List Nat):aY a++aY b=aY (a++b):=by
 show(⟨a.toArray++b.toArray⟩:Str)=_;unfold aY;simp
def Tw(a:List Nat)(lo hi:Option Int):pz (aY a) lo hi=aY (cutD a lo hi):=rfl
def TA{α:Type}(xs:List α)(k:Nat)(h:k<=xs.length):cutD xs none (some (k:Int))=xs.take k:=by
 unfold cutD;rw[c5.z',c5.Aa,anV,Nat.sub_zero,am0 h]
def TB{α:Type}(xs:List α)(k:Nat)(h:k<=xs.length):cutD xs (some (k:Int)) none=xs.drop k:=by
 unfold cutD;rw[c5.z',c5.Aa,am0 h,alD (by rw[alj];omega)]
def aao:(("add":Str) == "put")=false:=by decide +kernel
def abw:(("swap":Str) == "put")=false:=by decide +kernel
def abv:(("swap":Str) == "add")=false:=by decide +kernel
def aby:(("take":Str) == "put")=false:=by decide +kernel
def abx:(("take":Str) == "add")=false:=by decide +kernel
def abz:(("take":Str) == "swap")=false:=by decide +kernel
def abk:(("renew":Str) == "put")=false:=by decide +kernel
def abj:(("renew":Str) == "add")=false:=by decide +kernel
def abl:(("renew":Str) == "swap")=false:=by decide +kernel
def abm:(("renew":Str) == "take")=false:=by decide +kernel
def aa8:(("free":Str) == "put")=false:=by decide +kernel
def aa7:(("free":Str) == "add")=false:=by decide +kernel
def aba:(("free":Str) == "swap")=false:=by decide +kernel
def abb:(("free":Str) == "take")=false:=by decide +kernel
def aa9:(("free":Str) == "renew")=false:=by decide +kernel
def abq:(("sure":Str) == "put")=false:=by decide +kernel
def abo:(("sure":Str) == "add")=false:=by decide +kernel
def abt:(("sure":Str) == "swap")=false:=by decide +kernel
def abu:(("sure":Str) == "take")=false:=by decide +kernel
def abr:(("sure":Str) == "renew")=false:=by decide +kernel
def abp:(("sure":Str) == "free")=false:=by decide +kernel
def abe:(("move":Str) == "put")=false:=by decide +kernel
def abc:(("move":Str) == "add")=false:=by decide +kernel
def abh:(("move":Str) == "swap")=false:=by decide +kernel
def abi:(("move":Str) == "take")=false:=by decide +kernel
def abf:(("move":Str) == "renew")=false:=by decide +kernel
def abd:(("move":Str) == "free")=false:=by decide +kernel
def abg:(("move":Str) == "sure")=false:=by decide +kernel
def aa2:(("end":Str) == "put")=false:=by decide +kernel
def aaZ:(("end":Str) == "add")=false:=by decide +kernel
def aa5:(("end":Str) == "swap")=false:=by decide +kernel
def aa6:(("end":Str) == "take")=false:=by decide +kernel
def aa3:(("end":Str) == "renew")=false:=by decide +kernel
def aa0:(("end":Str) == "free")=false:=by decide +kernel
def aa4:(("end":Str) == "sure")=false:=by decide +kernel
def aa1:(("end":Str) == "move")=false:=by decide +kernel
def aap:(("do_add":Str) == "do_put")=false:=by decide +kernel
def aaV:(("do_swap":Str) == "do_put")=false:=by decide +kernel
def aaU:(("do_swap":Str) == "do_add")=false:=by decide +kernel
def aaX:(("do_take":Str) == "do_put")=false:=by decide +kernel
def aaW:(("do_take":Str) == "do_add")=false:=by decide +kernel
def aaY:(("do_take":Str) == "do_swap")=false:=by decide +kernel
def aaL:(("do_renew":Str) == "do_put")=false:=by decide +kernel
def aaK:(("do_renew":Str) == "do_add")=false:=by decide +kernel
def aaM:(("do_renew":Str) == "do_swap")=false:=by decide +kernel
def aaN:(("do_renew":Str) == "do_take")=false:=by decide +kernel
def aaz:(("do_free":Str) == "do_put")=false:=by decide +kernel
def aay:(("do_free":Str) == "do_add")=false:=by decide +kernel
def aaB:(("do_free":Str) == "do_swap")=false:=by decide +kernel
def aaC:(("do_free":Str) == "do_take")=false:=by decide +kernel
def aaA:(("do_free":Str) == "do_renew")=false:=by decide +kernel
def aaQ:(("do_sure":Str) == "do_put")=false:=by decide +kernel
def aaO:(("do_sure":Str) == "do_add")=false:=by decide +kernel
def aaS:(("do_sure":Str) == "do_swap")=false:=by decide +kernel
def aaT:(("do_sure":Str) == "do_take")=false:=by decide +kernel
def aaR:(("do_sure":Str) == "do_renew")=false:=by decide +kernel
def aaP:(("do_sure":Str) == "do_free")=false:=by decide +kernel
def aaF:(("do_move":Str) == "do_put")=false:=by decide +kernel
def aaD:(("do_move":Str) == "do_add")=false:=by decide +kernel
def aaI:(("do_move":Str) == "do_swap")=false:=by decide +kernel
def aaJ:(("do_move":Str) == "do_take")=false:=by decide +kernel
def aaG:(("do_move":Str) == "do_renew")=false:=by decide +kernel
def aaE:(("do_move":Str) == "do_free")=false:=by decide +kernel
def aaH:(("do_move":Str) == "do_sure")=false:=by decide +kernel
def aat:(("do_end":Str) == "do_put")=false:=by decide +kernel
def aaq:(("do_end":Str) == "do_add")=false:=by decide +kernel
def aaw:(("do_end":Str) == "do_swap")=false:=by decide +kernel
def aax:(("do_end":Str) == "do_take")=false:=by decide +kernel
def aau:(("do_end":Str) == "do_renew")=false:=by decide +kernel
def aar:(("do_end":Str) == "do_free")=false:=by decide +kernel
def aav:(("do_end":Str) == "do_sure")=false:=by decide +kernel
def aas:(("do_end":Str) == "do_move")=false:=by decide +kernel
end aF
namespace dV
open PySem PySem.Spec aB aF
def pf(x:Int×D):Prop:=∃n z:D,x.2=.t [.int x.1,n,z]
def pf.ef{x:Int×D}(h:pf x):aH (.v x.2) (.v (.int 0))=pure (.v (.int x.1)):=by
 obtain⟨n,z,e⟩:=h;rw[e];simp
def pf.slot{x:Int×D}(h:pf x):b8 x.2=.v x.2:=by
 obtain⟨n,z,e⟩:=h;rw[e];rfl
def CA{l:List (Int×D)}(h:∀x∈l,pf x)(c le aW:D)(a:Int):pX [.t [c,.t (l.map (·.2)),le,aW],.int a]=pure (.v ((fl (Q:=ft.κ.toKeyOrd) l a).getD (.t [.int a,.int 0,.aJ]))):=by
 have L:=sl (b:=λd U=>y_ (U.set 2 (.v d))) (λx:Int×D=>x.2) (λx=>decide (x.1=a)) (λx=>.v x.2) (λU=>∃s2,U=[.v (.t [c,.t (l.map (·.2)),le,aW]),.v (.int a),s2]) l [.v (.t [c,.t (l.map (·.2)),le,aW]),.v (.int a),.e] ⟨_,rfl⟩
  (λx U f ⟨s2,g⟩=>by
   subst g;have ef:=(h x f).ef;refine⟨λq=>?_,λq=>⟨[.v (.t [c,.t (l.map (·.2)),le,aW]),.v (.int a),.v x.2],?_,_,rfl⟩⟩
   .have q:x.1=a:=of_decide_eq_true q
    simp only[y_];simp[ef,q]
   .have q:¬x.1=a:=of_decide_eq_false q
    simp only[y_];simp[ef,q])
 simp only[pX,Hu,Hv];unfold fl
 cases e:l.find? (λx=>decide (x.1=a))with
 |some x=>
  have:=L.1 x e;simp[this]
 |none=>
  obtain⟨U',i,s2,rfl⟩:=L.2 e;simp[i]
def Nr{x:Int×D}(h:pf x):fnOf 1 1 (a4 (ab aH (I 0) (af (.int 0)))) [x.2]=pure (.v (.int x.1)):=by
 have:=h.ef;simp[h.slot,this]
def agD{l:List (Int×D)}(h:∀x∈l,pf x)(f:(l.map (·.1)).Nodup)(hl:l.length<63)(c le aW:D)(a:Int)(n z:D)(ax:b8 n=.v n)(hz:b8 z=.v z) :
  zB [.t [c,.t (l.map (·.2)),le,aW],.int a,n,z]=pure (.v (.t [c,.t ((kg (Q:=ft.κ.toKeyOrd) l (a,.t [.int a,n,z])).map (·.2)),le,aW])):=by
 have bb:gk (aL (ab dA (ab aH (I 0) (af (.int 0))) (I 1))) (I 0) [.e,.v (.int a)] (l.map (·.2))=pure ((ju (Q:=ft.κ.toKeyOrd) l a).map (·.2)):=
  nY (λx:Int×D=>x.2) (λx=>!decide (x.1=a)) (λx=>x.2) l (λx b=>by
   have ef:=(h x b).ef;simp[ef];rfl) λx _ _=>by simp
 have i:l.length<aki:=f7 (by omega);have dl:=CC (Q:=ft.κ.toKeyOrd) l a;have g:(ju (Q:=ft.κ.toKeyOrd) l a).length<aki:=f7 (by omega);have dX:=FO (Z:=ft) (λ_=>rfl) (mf:=fnOf 1 1 (a4 (ab aH (I 0) (af (.int 0))))) (l:=ml (Q:=ft.κ.toKeyOrd) l (a,.t [.int a,n,z])) (λx b=>by
  rcases(Fl (Q:=ft.κ.toKeyOrd)).mp b with⟨b,_⟩|rfl
  .exact Nr (h x b)
  .exact Nr ⟨n,z,rfl⟩) (r:=.mv ((ju (Q:=ft.κ.toKeyOrd) l a).map (·.2)++[.t [.int a,n,z]])) (by
   show some _=some _;unfold ml;rw[alI];rfl) (Fm _ f) (by have:=OW (Q:=ft.κ.toKeyOrd) l (a,.t [.int a,n,z]);omega)
 have j:∀(d:bx)(U:aM)(mf:bq),px ft mf d U=(do let x <-d U;n5 ft mf x):=λ_ _ _=>rfl
 simp only[zB,B2,IB,IC];unfold kg;simp[ax,hz,bb,i,g,dX,j]
abbrev r0:=List (List Nat×D)
def lE(x:List Nat×D):Prop:=lJ x.1/\∃n:Int,n≠0/\x.2=.t [.str (aY x.1),.int n]
def lE.ef(h:lE x):aH (.v x.2) (.v (.int 0))=pure (.v (.str (aY x.1))):=by
 obtain⟨_,n,_,e⟩:=h;rw[e];simp
def lE.slot(h:lE x):b8 x.2=.v x.2:=by
 obtain⟨_,n,_,e⟩:=h;rw[e];rfl
def k3:Option D->Int
 |some (.t [_,.int n])=>n|_=>0
def Cf{l:r0}(h:∀x∈l,lE x)(d le aW:D)(f:lJ a):s' [.t [.t (l.map (·.2)),d,le,aW],.str (aY a)]=pure (.v (.int (k3 (fl (Q:=e5) l a)))):=by
 have L:=sl (b:=λd U=>y9 (U.set 2 (.v d))) (λx:List Nat×D=>x.2) (λx=>decide (x.1=a)) (λx=>.v (.int (k3 (some x.2)))) (λU=>∃s2,U=[.v (.t [.t (l.map (·.2)),d,le,aW]),.v (.str (aY a)),s2]) l [.v (.t [.t (l.map (·.2)),d,le,aW]),.v (.str (aY a)),.e] ⟨_,rfl⟩
  (λx U c ⟨s2,g⟩=>by
   subst g;have ef:=(h x c).ef;have eq:=T2 (h x c).1.1 f.1;obtain⟨_,n,_,e⟩:=h x c;refine⟨λq=>?_,λq=>⟨[.v (.t [.t (l.map (·.2)),d,le,aW]),.v (.str (aY a)),.v x.2],?_,_,rfl⟩⟩
   .rw[q]at eq
    simp only[y9];rw[e]at ef ⊢;simp[ef,eq,k3]
   .rw[q]at eq
    simp only[y9];simp[ef,eq])
 simp only[s',Hn,Ho];unfold fl
 cases e:l.find? (λx=>decide (x.1=a))with
 |some x=>
  have:=L.1 x e;simp[this]
 |none=>
  obtain⟨U',i,s2,rfl⟩:=L.2 e;simp[i,k3]
def Eg(h:lE x):fnOf 1 1 (a4 (ab aH (I 0) (af (.int 0)))) [x.2]=pure (.v (l7.eO x.1)):=by
 have:=h.ef;rw[YQ];simp[h.slot,this]
def kR(l:r0)(a:List Nat)(n:Int):r0:=if n=0 then ju (Q:=e5) l a else kg (Q:=e5) l (a,.t [.str (aY a),.int n])
def af8(h:kZ e5 l)(a:List Nat)(n:Int):kZ e5 (kR l a n):=by
 unfold kR;split
 .exact K6 a h
 .exact Fn _ h.nodup
def af9(h:∀x∈l,lE x)(c:lJ a)(n:Int):∀x∈kR l a n,lE x:=λx b=>by
 unfold kR at b;split at b
 .exact h x ((uX (Q:=e5)).mp b).1
 .rename_i q
  rcases(tL (Q:=e5)).mp b with⟨b,_⟩|rfl
  .exact h x b
  .exact⟨c,n,q,rfl⟩
def AI{l:r0}(h:∀x∈l,lE x)(c:kZ e5 l)(hl:l.length<63)(d le aW:D)(f:lJ a)(n:Int) :
  rj [.t [.t (l.map (·.2)),d,le,aW],.str (aY a),.int n]=pure (.v (.t [.t ((kR l a n).map (·.2)),d,le,aW])):=by
 have bb:gk (aL (ab dA (ab aH (I 0) (af (.int 0))) (I 1))) (I 0) [.e,.v (.str (aY a))] (l.map (·.2))=pure ((ju (Q:=e5) l a).map (·.2)):=
  nY (λx:List Nat×D=>x.2) (λx=>!decide (x.1=a)) (λx=>x.2) l (λx b=>by
   have ef:=(h x b).ef;have ne:=abA (h x b).1.1 f.1;simp[ef,ne]) λx _ _=>by simp
 have j:l.length<aki:=f7 (by omega);have dl:=CC (Q:=e5) l a;have i:(ju (Q:=e5) l a).length<aki:=f7 (by omega);have k:∀(g:bx)(U:aM)(mf:bq),px l7 mf g U=(do let x <-g U;n5 l7 mf x):=λ_ _ _=>rfl
 simp only[rj,B1,Iz,IA];unfold kR
 by_cases q:n=0
 .have dX:=FO (Z:=l7) PY (mf:=fnOf 1 1 (a4 (ab aH (I 0) (af (.int 0))))) (l:=ju (Q:=e5) l a) (λx b=>Eg (h x ((uX (Q:=e5)).mp b).1)) (r:=.mv ((ju (Q:=e5) l a).map (·.2))) rfl (K5 a c.nodup) (by omega)
  rw[aeK (Q:=e5) (K6 a c)]at dX;rw[if_pos q];simp[q,bb,j,i,dX,k]
 .have dX:=FO (Z:=l7) PY (mf:=fnOf 1 1 (a4 (ab aH (I 0) (af (.int 0))))) (l:=ml (Q:=e5) l (a,.t [.str (aY a),.int n])) (λx b=>by
   rcases(Fl (Q:=e5)).mp b with⟨b,_⟩|rfl
   .exact Eg (h x b)
   .exact Eg ⟨f,n,q,rfl⟩) (r:=.mv ((ju (Q:=e5) l a).map (·.2)++[.t [.str (aY a),.int n]])) (by
    show some _=some _;unfold ml;rw[alI];rfl) (Fm _ c.nodup) (by have:=OW (Q:=e5) l (a,.t [.str (aY a),.int n]);omega)
  rw[if_neg q];unfold kg;simp[q,bb,j,i,dX,k]
def agE(c d le aW f t:D)(b:b8 f=.v f)(a:b8 t=.v t):zC [.t [c,d,le,aW],f,t]=pure (.v (.t [c,d,.t [f,t],aW])):=by
 simp[zC,ID,b,a]
def Gb(c d le aW s:D)(ax:b8 s=.v s):tm [.t [c,d,le,aW],s]=pure (.v (.t [c,d,le,s])):=by
 simp[tm,IG,ax]
def mV(x:D)(ds:List D):d3 (x::ds) 0=some x:=jW 0 rfl
def afv:hj.lookup ("put":Str)=some ("do_put":Str):=by
 unfold hj;simp only[akv,beq_self_eq_true]
def Um:hU.lookup ("do_put":Str)=some vQ:=by
 unfold hU;simp only[akv,beq_self_eq_true]
def acx{s a r:D}(ax:b8 s=.v s)(b:b8 a=.v a)(h:vQ [s,a,.t (.str "put"::ds)]=pure (.v r)):e8 [s,a,.t (.str "put"::ds)]=pure (.v r):=by
 simp only[e8,mX,mY];simp[ax,b,mV,afv,Um,h]
def afr:hj.lookup ("add":Str)=some ("do_add":Str):=by
 unfold hj;simp only[akv,beq_self_eq_true,aao]
def Ui:hU.lookup ("do_add":Str)=some vN:=by
 unfold hU;simp only[akv,beq_self_eq_true,aap]
def aco{s a r:D}(ax:b8 s=.v s)(b:b8 a=.v a)(h:vN [s,a,.t (.str "add"::ds)]=pure (.v r)):e8 [s,a,.t (.str "add"::ds)]=pure (.v r):=by
 simp only[e8,mX,mY];simp[ax,b,mV,afr,Ui,h]
def afy:hj.lookup ("swap":Str)=some ("do_swap":Str):=by
 unfold hj;simp only[akv,beq_self_eq_true,abw,abv]
def Up:hU.lookup ("do_swap":Str)=some td:=by
 unfold hU;simp only[akv,beq_self_eq_true,aaV,aaU]
def acB{s a r:D}(ax:b8 s=.v s)(b:b8 a=.v a)(h:td [s,a,.t (.str "swap"::ds)]=pure (.v r)):e8 [s,a,.t (.str "swap"::ds)]=pure (.v r):=by
 simp only[e8,mX,mY];simp[ax,b,mV,afy,Up,h]
def afz:hj.lookup ("take":Str)=some ("do_take":Str):=by
 unfold hj;simp only[akv,beq_self_eq_true,aby,abx,abz]
def Uq:hU.lookup ("do_take":Str)=some tf:=by
 unfold hU;simp only[akv,beq_self_eq_true,aaX,aaW,aaY]
def acC{s a r:D}(ax:b8 s=.v s)(b:b8 a=.v a)(h:tf [s,a,.t (.str "take"::ds)]=pure (.v r)):e8 [s,a,.t (.str "take"::ds)]=pure (.v r):=by
 simp only[e8,mX,mY];simp[ax,b,mV,afz,Uq,h]
def afw:hj.lookup ("renew":Str)=some ("do_renew":Str):=by
 unfold hj;simp only[akv,beq_self_eq_true,abk,abj,abl,abm]
def Un:hU.lookup ("do_renew":Str)=some tb:=by
 unfold hU;simp only[akv,beq_self_eq_true,aaL,aaK,aaM,aaN]
def acy{s a r:D}(ax:b8 s=.v s)(b:b8 a=.v a)(h:tb [s,a,.t (.str "renew"::ds)]=pure (.v r)):e8 [s,a,.t (.str "renew"::ds)]=pure (.v r):=by
 simp only[e8,mX,mY];simp[ax,b,mV,afw,Un,h]
def aft:hj.lookup ("free":Str)=some ("do_free":Str):=by
 unfold hj;simp only[akv,beq_self_eq_true,aa8,aa7,aba,abb,aa9]
def Uk:hU.lookup ("do_free":Str)=some ta:=by
 unfold hU;simp only[akv,beq_self_eq_true,aaz,aay,aaB,aaC,aaA]
def acu{s a r:D}(ax:b8 s=.v s)(b:b8 a=.v a)(h:ta [s,a,.t (.str "free"::ds)]=pure (.v r)):e8 [s,a,.t (.str "free"::ds)]=pure (.v r):=by
 simp only[e8,mX,mY];simp[ax,b,mV,aft,Uk,h]
def afx:hj.lookup ("sure":Str)=some ("do_sure":Str):=by
 unfold hj;simp only[akv,beq_self_eq_true,abq,abo,abt,abu,abr,abp]
def Uo:hU.lookup ("do_sure":Str)=some tc:=by
 unfold hU;simp only[akv,beq_self_eq_true,aaQ,aaO,aaS,aaT,aaR,aaP]
def acA{s a r:D}(ax:b8 s=.v s)(b:b8 a=.v a)(h:tc [s,a,.t (.str "sure"::ds)]=pure (.v r)):e8 [s,a,.t (.str "sure"::ds)]=pure (.v r):=by
 simp only[e8,mX,mY];simp[ax,b,mV,afx,Uo,h]
def afu:hj.lookup ("move":Str)=some ("do_move":Str):=by
 unfold hj;simp only[akv,beq_self_eq_true,abe,abc,abh,abi,abf,abd,abg]
def Ul:hU.lookup ("do_move":Str)=some vP:=by
 unfold hU;simp only[akv,beq_self_eq_true,aaF,aaD,aaI,aaJ,aaG,aaE,aaH]
def acv{s a r:D}(ax:b8 s=.v s)(b:b8 a=.v a)(h:vP [s,a,.t (.str "move"::ds)]=pure (.v r)):e8 [s,a,.t (.str "move"::ds)]=pure (.v r):=by
 simp only[e8,mX,mY];simp[ax,b,mV,afu,Ul,h]
def afs:hj.lookup ("end":Str)=some ("do_end":Str):=by
 unfold hj;simp only[akv,beq_self_eq_true,aa2,aaZ,aa5,aa6,aa3,aa0,aa4,aa1]
def Uj:hU.lookup ("do_end":Str)=some vO:=by
 unfold hU;simp only[akv,beq_self_eq_true,aat,aaq,aaw,aax,aau,aar,aav,aas]
def acr{s a r:D}(ax:b8 s=.v s)(b:b8 a=.v a)(h:vO [s,a,.t (.str "end"::ds)]=pure (.v r)):e8 [s,a,.t (.str "end"::ds)]=pure (.v r):=by
 simp only[e8,mX,mY];simp[ax,b,mV,afs,Uj,h]
section
variable{l:r0}(h:∀x∈l,lE x)(aC:kZ e5 l)(hl:l.length<63)(d le aW:D){a:List Nat}(ar:lJ a)(n i:Int)
include h aC hl ar
theorem acI:e8 [.t [.t (l.map (·.2)),d,le,aW],.int i,.t [.str "put",.str (aY a),.int n]]=pure (.v (.t [.t [.t ((kR l a n).map (·.2)),d,le,aW],.int (k3 (fl (Q:=e5) l a))])):=
 acx rfl rfl (by
  have av:=AI h aC hl d le aW ar n;have aE:=Cf h d le aW ar;simp[vQ,Ht,av,aE])
theorem acE:e8 [.t [.t (l.map (·.2)),d,le,aW],.int i,.t [.str "add",.str (aY a),.int n]]=pure (.v (.t [.t [.t ((kR l a (k3 (fl (Q:=e5) l a)+n)).map (·.2)),d,le,aW],.int (k3 (fl (Q:=e5) l a)+n)])):=
 aco rfl rfl (by
  have av:=AI h aC hl d le aW ar (k3 (fl (Q:=e5) l a)+n);have aE:=Cf h d le aW ar;simp[vN,Hp,Hq,av,aE])
theorem acL(o:Int):e8 [.t [.t (l.map (·.2)),d,le,aW],.int i,.t [.str "swap",.str (aY a),.int o,.int n]]=pure (.v (if k3 (fl (Q:=e5) l a)=o then .t [.t [.t ((kR l a n).map (·.2)),d,le,aW],.int 1]else .t [.t [.t (l.map (·.2)),d,le,aW],.int 0])):=
 acB rfl rfl (by
  have av:=AI h aC hl d le aW ar n;have aE:=Cf h d le aW ar
  by_cases q:k3 (fl (Q:=e5) l a)=o
  .rw[if_pos q]
   simp[td,BI,BJ,av,aE,q]
  .rw[if_neg q]
   simp[td,BI,BJ,av,aE,q])
theorem acK(f g:Int)(t:D)(b:t.b1 63=true):e8 [.t [.t (l.map (·.2)),d,.t [.int f,t],aW],.int i,.t [.str "sure",.int g,.str (aY a),.int n]]=pure (.v (if(f==g&&es t (.int i))=true then .t [.t [.t ((kR l a n).map (·.2)),d,.t [.int f,t],aW],.int 1]else .t [.t [.t (l.map (·.2)),d,.t [.int f,t],aW],.int 0])):=
 acA rfl rfl (by
  have av:=AI h aC hl d (.t [.int f,t]) aW ar n;have ne:dA (.v (.t [.int f,t])) (.v (.t [.int g,.int i]))=pure (.v (.ay (!(f==g&&es t (.int i))))):=by
   rw[se (x:=.v (.t [.int f,t])) (y:=.v (.t [.int g,.int i])) (lV.mpr (by simp only[ak2];exact⟨rfl,b,λ_ h=>nomatch h⟩)) rfl];simp[es,mi]
  cases q:(f==g&&es t (.int i))with
  |true=>
   rw[q]at ne;simp[tc,BG,BH,jH,mW,av,ne]
  |false=>
   rw[q]at ne;simp[tc,BG,BH,jH,mW,av,ne])
end
section
variable(c d le aW:D)(i:Int)
def acH(z:D)(hz:b8 z=.v z):e8 [.t [c,d,le,aW],.int i,.t [.str "move",z]]=pure (.v (.t [.t [c,d,le,z],.int 1])):=
 acv rfl rfl (by simp[vP,Hs,Gb c d le aW z hz])
def acF:e8 [.t [c,d,le,aW],.int i,.t [.str "end"]]=pure (.v (.t [.t [c,d,le,.str "over"],.int 1])):=
 acr rfl rfl (by simp[vO,Hr,Gb c d le aW (.str "over") rfl])
variable(f g:Int)(t:D)(bF:t.b1 63=true)
def EV:tj [.t [c,d,.t [.int f,t],aW]]=pure (.v (.t [.t [c,d,.t [.int f,t],aW],.t [.int 0,.int f,t]])):=by
 simp[tj,Ip,Iq,jH,mW]
def Ei(u:D)(a:b8 u=.v u):th [.t [c,d,.t [.int f,t],aW],.int g,u]=pure (.v (.t [.t [c,d,.t [.int (g+1),u],aW],.t [.int 1,.int (g+1),u]])):=by
 simp[th,H_,agE c d (.t [.int f,t]) aW (.int (g+1)) u rfl a,a]
def acM:e8 [.t [c,d,.t [.int f,t],aW],.int i,.t [.str "take",.int g]]=pure (.v (if f=g then .t [.t [c,d,.t [.int (g+1),.int i],aW],.t [.int 1,.int (g+1),.int i]]else .t [.t [c,d,.t [.int f,t],aW],.t [.int 0,.int f,t]])):=
 acC rfl rfl (by
  have av:=Ei c d aW f g t (.int i) rfl;have aE:=EV c d aW f t
  by_cases q:f=g
  .rw[if_pos q]
   simp[tf,BK,BL,jH,mW,av,aE,q];rw[q]at av;simp[av]
  .rw[if_neg q]
   simp[tf,BK,BL,jH,mW,av,aE,q])
include bF
theorem N4:dA (.v (.t [.int f,t])) (.v (.t [.int g,.int i]))=pure (.v (.ay (!(f==g&&es t (.int i))))):=by
 rw[se (x:=.v (.t [.int f,t])) (y:=.v (.t [.int g,.int i])) (lV.mpr (by simp only[ak2];exact⟨rfl,bF,λ_ h=>nomatch h⟩)) rfl];simp[es,mi]
theorem acJ:e8 [.t [c,d,.t [.int f,t],aW],.int i,.t [.str "renew",.int g]]=pure (.v (if(f==g&&es t (.int i))=true then .t [.t [c,d,.t [.int (g+1),.int i],aW],.t [.int 1,.int (g+1),.int i]]else .t [.t [c,d,.t [.int f,t],aW],.t [.int 0,.int f,t]])):=
 acy rfl rfl (by
  have av:=Ei c d aW f g t (.int i) rfl;have aE:=EV c d aW f t;have ne:=N4 i f g t bF
  cases q:(f==g&&es t (.int i))with
  |true=>
   rw[q]at ne;simp[tb,BE,BF,jH,mW,av,aE,ne]
  |false=>
   rw[q]at ne;simp[tb,BE,BF,jH,mW,av,aE,ne])
theorem acG:e8 [.t [c,d,.t [.int f,t],aW],.int i,.t [.str "free",.int g]]=pure (.v (if(f==g&&es t (.int i))=true then .t [.t [c,d,.t [.int (g+1),.aJ],aW],.t [.int 1,.int (g+1),.aJ]]else .t [.t [c,d,.t [.int f,t],aW],.t [.int 0,.int f,t]])):=
 acu rfl rfl (by
  have av:=Ei c d aW f g t .aJ rfl;have aE:=EV c d aW f t;have ne:=N4 i f g t bF
  cases q:(f==g&&es t (.int i))with
  |true=>
   rw[q]at ne;simp[ta,BC,BD,jH,mW,av,aE,ne]
  |false=>
   rw[q]at ne;simp[ta,BC,BD,jH,mW,av,aE,ne])
end
def qq(x:Int×D):Prop:=∃(n:Int)(z:D),x.2=.t [.int x.1,.int n,z]
def qq.pF{x:Int×D}(h:qq x):pf x:=by obtain⟨n,z,e⟩:=h;exact⟨_,_,e⟩
def rm:Option D->Int
 |some (.t [_,.int n,_])=>n|_=>0
def Nw{l:List (Int×D)}(h:∀x∈l,qq x)(a:Int):aH (.v ((fl (Q:=ft.κ.toKeyOrd) l a).getD (.t [.int a,.int 0,.aJ]))) (.v (.int 1))=pure (.v (.int (rm (fl (Q:=ft.κ.toKeyOrd) l a)))):=by
 cases q:fl (Q:=ft.κ.toKeyOrd) l a with
 |none=>simp[rm]|some d=>
  obtain⟨n,z,e⟩:=h _ (yy q);have e:d=.t [.int a,.int n,z]:=e;subst e;simp[rm]
def vu(c d le aW:D):l_ [.t [c,d,le,aW]]=(do iX (.v aW) (.v .aJ)):=by
 simp[l_,HW,oA,B0]
section
variable{l:List (Int×D)}(h:∀x∈l,qq x)(c le aW:D)(a n:Int)
include h
theorem K4(ds:D)(hd:b8 ds=.v ds)(q:ds=.aJ\/(∃xs,ds=.t xs)/\(aW=.str "over"\/(∃b,aW=.t b)\/aW=.aJ/\n<=rm (fl (Q:=ft.κ.toKeyOrd) l a))) :
  nq [.t [c,.t (l.map (·.2)),le,aW],.int a,.int n,ds]=pure (.v (.t [c,.t (l.map (·.2)),le,aW])):=by
 have av:=CA (λx d=>(h x d).pF) c le aW a;have aE:=Nw h a;simp only[nq,BM,BN,BO];rcases q with rfl|⟨⟨xs,rfl⟩,rfl|⟨b,rfl⟩|⟨rfl,q⟩⟩
 .simp
 .simp[vu]
 .simp[vu]
 .simp[vu,av,aE,q]
theorem TL(xs:List D)(q:rm (fl (Q:=ft.κ.toKeyOrd) l a)<n)(hl:l.length<63)(e:(l.map (·.1)).Nodup){c' le' sh' v:D}
  (d:e8 [.t [c,.t (l.map (·.2)),le,.aJ],.int a,.t xs]=pure (.v (.t [.t [c',.t (l.map (·.2)),le',sh'],v]))) (f:b8 v=.v v) :
  nq [.t [c,.t (l.map (·.2)),le,.aJ],.int a,.int n,.t xs]=pure (.v (.t [c',.t ((kg (Q:=ft.κ.toKeyOrd) l (a,.t [.int a,.int n,v])).map (·.2)),le',sh'])):=by
 have av:=CA (λx b=>(h x b).pF) c le .aJ a;have aE:=Nw h a;have cJ:=agD (λx b=>(h x b).pF) e hl c' le' sh' a (.int n) v rfl f;have g:¬n<=rm (fl (Q:=ft.κ.toKeyOrd) l a):=by omega
 simp only[nq,BM,BN,BO];simp[vu,av,aE,g,d,cJ]
end
def abR{l:List (Int×D)}(h:∀x∈l,qq x)(a n:Int)(v:D):∀x∈kg (Q:=ft.κ.toKeyOrd) l (a,.t [.int a,.int n,v]),qq x:=λx b=>by
 rcases(tL (Q:=ft.κ.toKeyOrd)).mp b with⟨b,_⟩|rfl
 .exact h x b
 .exact⟨n,v,rfl⟩
end dV
namespace dV
open PySem PySem.Spec aB aF i5
def Good(r:a7):Prop:=r.wf/\r.deep<=4/\r.names.length<=12
end dV
namespace dV
open PySem PySem.Spec aB aF i5 gc jk
def o6(i:Int):l' [.int i]=pure (.v (.ay true)):=by kernel_rfl
def Ga(xs:List D):l' [.t xs]=pure (.v (.ay false)):=by kernel_rfl
def De(m k:Nat):pY [a_ m,a_ k]=pure (.v (.ay (cB m k))):=by
 have e:=Sv m k;simp only[pY,HC,gZ];simp[e]
def v5(a:List Nat)(h:∀k∈a,k<=1000):lh [.l (a.map a_)]=pure (.v (a_ (maskOf a))):=by
 obtain⟨U',e,s2,rfl⟩:=sm (b:=λd U=>Eb (U.set 2 (.v d))) (ds:=a.map a_) (U:=[.bN (a.map a_),.v (.int 0),.e])
  (λi U=>∃s2,U=[.bN (a.map a_),.v (a_ (maskOf (a.take i))),s2]) ⟨_,rfl⟩ (λi d U hd ⟨s2,f⟩=>by
   subst f;obtain⟨k,c,rfl⟩:=zD hd;have g:=h k (akM c);refine⟨_,.inl (?_:_=pure (fc.bw [.bN (a.map a_),.v (a_ (maskOf (a.take (i+1)))),.v (a_ k)])),_,rfl⟩;rw[take_snoc c,EF,gZ (_ ||| _),<-E7];have eo:(k:Int)<=1000000:=by omega
   simp only[Eb,gZ];simp[eo])
 rw[akh,ans]at e;simp only[lh,Ia,Ib,Ic];simp[e]
def D4(h:m<64):tg [a_ m]=pure (.fr ((fs m).map a_)):=by
 have b:=bits_le m h;have c:gk (aL (bf pY (aa (I 1) (aa (I 0) aj)))) (I 0) [.e,.v (a_ m)] ((akG (bits m)).map a_)=pure (((akG (bits m)).filter (cB m)).map a_):=
  nY a_ (cB m) a_ _ (λk _=>by simp[De]) λk _ _=>by simp
 have a:-4611686018427387904<=((bits m:Nat):Int)/\((bits m:Nat):Int)<4611686018427387904:=by omega
 have z:bits m<aki:=f7 (by omega);rw[YR];simp only[tg,HX];simp only[gZ m]at c ⊢;simp[Yq,a,Fz,z,c]
def Z1(h:m<64):zy [a_ m]=pure (.v (.l ((within (fs m)).map a_))):=by
 have a:=D4 h;have w:=D3 h;obtain⟨U',e,s2,rfl⟩:=sm (b:=λd U=>Ec (U.set 2 (.v d))) (ds:=(fs m).map a_) (U:=[.v (a_ m),.v (.l [.int 0]),.e])
  (λi U=>∃s2,U=[.v (a_ m),.v (.l ((within ((fs m).take i)).map a_)),s2]) ⟨_,rfl⟩ (λi d U hd ⟨s2,p⟩=>by
   subst p;obtain⟨k,a,rfl⟩:=zD hd;have u:k<6:=((EI h).mp (akM a)).1;refine⟨_,.inl (?_:_=pure (fc.bw [.v (a_ m),.v (.l ((within ((fs m).take (i+1))).map a_)),.v (a_ k)])),_,rfl⟩;rw[take_snoc a,Qc,alI,amf];have mo:lh [.l [a_ k]]=pure (.v (a_ (2 ^ k))):=by
    have:=v5 [k] (by intro j q;rw[akF.mp q];omega)
    rwa[NS]at this
   have g:=Qb ((fs m).take i);have t:((fs m).take i).length<=6:=by rw[alC];omega
   have f:2 ^ ((fs m).take i).length<=2 ^ 6:=anL (by decide) t;generalize within ((fs m).take i)=ws at g;have n:ws.length<=64:=by rw[g];exact f
   have c:gk fx (ab eE (I 0) (bf lh (aa (eD (aa (I 1) aj)) aj))) [.e,.v (a_ k)] (ws.map a_)=pure (ws.map (a_∘λx=>x+2 ^ k)):=
    qF a_ _ ws λx _=>by
     simp[mo];rw[gZ x,gZ (2 ^ k)];simp[gZ]
   have s:ws.length<aki:=f7 (by omega);have r:ws.length+ws.length<=aki:=al1 (f7 (by omega));simp only[Ec];simp[c,s,r])
 rw[akh,ans]at e;simp only[zy,Ie,Ig,Ih];simp only[gZ m]at e a ⊢;simp[a,e]
theorem NZ:∀(n:Nat)(r:a7),r.deep<n->r.names.length<=1000->mb n [enc r]=pure (.fr (r.names.map a_))
 |0,r,h,_=>absurd h (alJ _)|n+1,.kp k,h,_=>by
  simp only[mb,xV,sg,a7.names];simp[o6,gZ]
 |n+1,.ch k ps,h,hl=>by
  simp only[a7.deep]at h;simp only[a7.names]at hl ⊢;have dl:=pE (ps:=ps) (n:=n) (by omega);rw[qP];obtain⟨U',e,s2,rfl⟩:=sm (b:=λd U=>vA (mb n) (U.set 2 (.v d))) (ds:=ps.map enc) (U:=[.v (.t [.int (k:Nat),.t (ps.map enc)]),.dB false [],.e])
   (λi U=>∃s2,U=[.v (.t [.int (k:Nat),.t (ps.map enc)]),.dB false ((a7.eP (ps.take i)).map a_),s2]) ⟨_,rfl⟩ (λi d U hd ⟨s2,f⟩=>by
    subst f;obtain⟨r,a,rfl⟩:=zD hd;have j:=akM a;refine⟨_,.inl (?_:_=pure (fc.bw [.v (.t [.int (k:Nat),.t (ps.map enc)]),.dB false ((a7.eP (ps.take (i+1))).map a_),.v (enc r)])),_,rfl⟩;have g:=take_snoc a;have le:(a7.eP (ps.take (i+1))).length<=1000:=by
     have:a7.eP ps=a7.eP (ps.take (i+1))++a7.eP (ps.drop (i+1)):=by rw[<-wa,List.take_append_drop]
     rw[this,akg]at hl;omega
    rw[g,wa]at le ⊢;rw[show a7.eP [r]=r.names from alx _]at le ⊢;rw[akg]at le;have c:=NZ n r (dl r j) (by omega);have z:(a7.eP (ps.take i)).length+r.names.length<=aki:=al1 (f7 (by omega));simp only[vA];simp[c,z])
  rw[akh,ans]at e;simp only[mb,xV,Il,Im,Io];simp[Ga,e]
def named_eq{r:a7}(hw:r.wf)(hd:r.deep<12)(hl:r.names.length<=1000):ti [enc r]=pure (.v (a_ (maskOf r.names))):=by
 have a:=NZ 12 r hd hl;have b:=v5 r.names λk c=>by have:=p3 r hw k c;omega
 simp only[ti,Ik];simp[a,b]
theorem ym(m:Nat):∀(n:Nat)(r:a7),r.deep<n->r.wf->je n [enc r,a_ m]=pure (.v (.ay (r.fills (cB m))))
 |0,r,h,_=>absurd h (alJ _)|n+1,.kp k,h,hw=>by
  have b:=De m k;simp only[je,xS,sg,a7.fills];simp only[gZ]at b ⊢;simp[o6,b]
 |n+1,.ch k ps,h,hw=>by
  simp only[a7.deep]at h;simp only[a7.wf]at hw;have dl:=pE (ps:=ps) (n:=n) (by omega);have d:=ub.mp hw.2.2.2;rw[qP];have c:gk (aL (bf (je n) (aa (I 0) (aa (I 1) aj)))) (I 0) [.e,.v (a_ m)] (ps.map enc)=pure ((ps.filter (a7.fills (cB m))).map enc):=
   nY enc (a7.fills (cB m)) enc ps (λr a=>by simp[ym m n r (dl r a) (d r a)]) λr _ _=>by simp
  have z:ps.length<aki:=f7 (by omega);have e:decide (((k:Nat):Int)<=(a7.cnt (cB m) ps:Nat))=decide (k<=a7.cnt (cB m) ps):=decide_eq_decide.mpr (by omega);simp only[je,xS,Hw,a7.fills];simp only[gZ m]at c ⊢;simp[Ga,c,z,Cj,e]
def Yx(h:m<64)(a:List Nat):vT [a_ m,.l (a.map a_)]=pure (.v (.ay (sJ a m))):=by
 have b:=D4 h;have q:=D3 h;have fa:(a.map a_).all D.flat=true:=by rw[List.all_map];exact akV.mpr λ_ _=>rfl
 have c:gk fx (ab (kK false) (ab lp (I 1) (bf lh (aa (eD (aa (I 0) aj)) aj))) (I 2)) [.e,.v (a_ m),.bN (a.map a_)] ((fs m).map a_)=pure ((fs m).map λk=>D.ay (a.contains (m-2 ^ k))):=
  qF a_ _ (fs m) fun k b=>by
   obtain⟨f,g⟩:=(EI h).mp b;have mo:lh [.l [a_ k]]=pure (.v (a_ (2 ^ k))):=by
    have:=v5 [k] (by intro j i;rw[akF.mp i];omega)
    rwa[NS]at this
   have n0:=(K7 h f g).1;have p:(m:Int)-((2 ^ k:Nat):Int)=((m-2 ^ k:Nat):Int):=by
    by_cases z:2 ^ k<=m
    .omega
    .exfalso
     have all:∀m:_root_.Fin 64,∀k:_root_.Fin 6,cB m.val k.val=true->2 ^ k.val<=m.val:=by decide +kernel
     exact z (all ⟨m,h⟩ ⟨k,f⟩ g)
   have key:kK false (.v (a_ (m-2 ^ k))) (.bN (a.map a_))=pure (.v (.ay (a.contains (m-2 ^ k)))):=by
    show(if(a_ (m-2 ^ k)).flat=true/\(a.map a_).all D.flat=true then pure (R.v (D.ay (if false=true then !inD (a_ (m-2 ^ k)) (a.map a_)else inD (a_ (m-2 ^ k)) (a.map a_))))else bad)=_;rw[if_pos ⟨rfl,fa⟩,if_neg akl,ML]
   have d:lp (.v (a_ m)) (.v (a_ (2 ^ k)))=pure (.v (a_ (m-2 ^ k))):=by
    show pure (R.v (D.int ((m:Int)-((2 ^ k:Nat):Int))))=_;rw[p];rfl
   simp[mo,d,key]
 have z:(fs m).length<aki:=f7 (by omega);have n:((fs m).map λk=>a.contains (m-2 ^ k)).any id=(fs m).any λk=>a.contains (m-2 ^ k):=by rw[List.any_map];rfl
 have bm:=xZ (λk=>a.contains (m-2 ^ k)) (fs m);unfold sJ;rw[<-n];simp only[vT,HR];simp only[gZ m]at c b ⊢;simp only[List.contains_eq_mem]at c bm ⊢;simp[b,c,z,bm]
def NA{r:a7}(hw:r.wf)(hd:r.deep<12)(hl:r.names.length<=1000):vY [enc r]=pure (.fr ((least r).map a_)):=by
 have c:=named_eq hw hd hl;have a:=zF r hw;have d:=Z1 a;have k:(within (fs (maskOf r.names))).length<=64:=by
  rw[Qb];have:=D3 a;show _<=2 ^ 6;exact anL (by decide) this
 have bb:gk (aL (bf (je 12) (aa (I 1) (aa (I 0) aj)))) (I 0) [.e,.v (enc r)] ((within (fs (maskOf r.names))).map a_)=pure ((filling r (maskOf r.names)).map a_):=
  nY a_ (λm=>r.fills (cB m)) a_ _ (λm _=>by simp[ym m 12 r hd hw]) λm _ _=>by simp
 have b:∀x∈filling r (maskOf r.names),x<64:=λx f=>((zG a).mp f).1
 have g:(filling r (maskOf r.names)).length<=64:=akU (alY _ _) k;have ab:gk (aL (bf vT (aa (I 0) (aa (I 1) aj)))) (I 0) [.e,.v (.l ((filling r (maskOf r.names)).map a_))] ((filling r (maskOf r.names)).map a_)=pure ((least r).map a_):=
  nY a_ (sJ (filling r (maskOf r.names))) a_ _ (λm j=>by simp[Yx (b m j)]) λm _ _=>by simp
 have i:(within (fs (maskOf r.names))).length<aki:=f7 (by omega);have h:(filling r (maskOf r.names)).length<aki:=f7 (by omega);simp only[vY,H8,H9];simp[c,d,bb,i,ab,h]
end dV
namespace jk
open gc i5
def si(a k:a7):Nat:=maskOf a.names ||| maskOf k.names
def ZZ(xs:List Nat):∀ys:List Nat,maskOf (xs++ys)=maskOf xs ||| maskOf ys:=by
 intro ys;have:∀n,∀ys:List Nat,ys.length=n->maskOf (xs++ys)=maskOf xs ||| maskOf ys:=by
  intro n
  induction n with
  |zero=>intro ys h;rw[amB.mp h,alx];exact(Nat.or_zero _).symm|succ n a=>
   intro ys h;rcases List.eq_nil_or_concat ys with rfl|⟨l,k,rfl⟩
   .cases h
   .rw[List.concat_eq_append]at h ⊢
    rw[akg,alv]at h;rw[<-amL,aF.EF,a l (by omega),aF.EF,Nat.or_assoc]
 exact this _ _ rfl
def Ll{a k:a7}(c:a.wf)(d:k.wf):si a k=kI λj=>(a.names++k.names).contains j:=by
 unfold si;rw[<-ZZ,zE];intro n b;rcases alc.mp b with h|h
 .exact p3 a c n h
 .exact p3 k d n h
def Lm{a k:a7}(b:a.wf)(c:k.wf):si a k<64:=by rw[Ll b c];exact EK _
end jk
namespace dV
open PySem PySem.Spec aB aF i5 gc jk
def jz(a k:a7):D:=.t [enc a,enc k]
def Z5(b:Good a)(c:Good k):zz [jz a k]=pure (.v (a_ (si a k))):=by
 have d:=named_eq (r:=a) b.1 (by have:=b.2.1;omega) (by have:=b.2.2;omega);have e:=named_eq (r:=k) c.1 (by have:=c.2.1;omega) (by have:=c.2.2;omega);unfold jz;simp only[zz,Ii];simp only[gZ]at d e ⊢;simp[d,e,E7,si]
def Yl(j:Nat)(a:List Nat):kK false (.v (a_ j)) (.v (.l (a.map a_)))=pure (.v (.ay (a.contains j))):=by
 have fa:(a.map a_).all D.flat=true:=by rw[List.all_map];exact akV.mpr λ_ _=>rfl
 show(if(a_ j).flat=true/\(a.map a_).all D.flat=true then pure (R.v (D.ay (if false=true then !inD (a_ j) (a.map a_)else inD (a_ j) (a.map a_))))else bad)=_;rw[if_pos ⟨rfl,fa⟩,if_neg akl,ML]
def YT:∀m:Nat,m<64->fs m=(akG 6).filter (cB m):=by decide +kernel
def YS{a k:a7}(b:a.wf)(c:k.wf):fs (si a k)=(akG 6).filter λj=>(a.names++k.names).contains j:=by
 rw[YT _ (Lm b c),Ll b c];exact List.filter_congr λj d=>zJ _ j (akZ.mp d)
def Z6{a k:a7}(b:Good a)(c:Good k):ma [jz a k]=pure (.fr (((akG 6).filter λj=>(a.names++k.names).contains j).map a_)):=by
 have m:=Z5 b c;have e:=D4 (Lm b.1 c.1);rw[YS b.1 c.1]at e;have aW:b8 (jz a k)=.v (jz a k):=rfl;simp only[ma,Ij];simp[aW,m,e]
end dV
namespace dV
open PySem PySem.Spec aB aF gc i5 jk
abbrev d1:=Int×Int
abbrev dM(s:d1):D:=.t [.int s.1,.int s.2]
structure ff where
 k:Nat
 s:d1
 w:D
abbrev dU(g:ff):D:=.t [a_ g.k,dM g.s,g.w]
def U4(ps:List ff)(h:∀p∈ps,p.k<6)(hl:ps.length<=1000):oy [.l (ps.map dU)]=pure (.v (a_ (maskOf (ps.map (·.k))))):=by
 have c:gk fx (ab aH (I 0) (af (.int 0))) [.e] (ps.map dU)=pure (ps.map (a_∘λp=>p.k)):=qF dU _ ps λp _=>by simp[dU]
 have z:ps.length<aki:=f7 (by omega);have m:=v5 (ps.map (·.k)) (λk b=>by obtain⟨p,a,rfl⟩:=akK.mp b;have:=h p a;omega);rw[amf]at m;simp only[oy,HB];simp[c,z,m]
def Lk(s t:d1):oEq (.v (dM s)) (.v (dM t))=pure (.v (.ay (decide (s=t)))):=by
 rw[qL (x:=.v (dM s)) (y:=.v (dM t)) rfl rfl]
 congr 3
 obtain⟨a,b⟩:=s;obtain⟨c,d⟩:=t;rw[alQ];simp[es,R.arg,mi]
def abn(s t:d1):dA (.v (dM s)) (.v (dM t))=pure (.v (.ay (!decide (s=t)))):=by
 rw[se (x:=.v (dM s)) (y:=.v (dM t)) rfl rfl]
 congr 4
 obtain⟨a,b⟩:=s;obtain⟨c,d⟩:=t;rw[alQ];simp[es,R.arg,mi]
def Q8(ps:List ff)(a:ff)(hl:(a::ps).length<=1000):vL [.l ((a::ps).map dU)]=pure (.v (.ay ((a::ps).all λp=>decide (p.s=a.s)))):=by
 have c:gk fx (ab oEq (ab aH (I 0) (af (.int 1))) (ab aH (ab aH (I 1) (af (.int 0))) (af (.int 1)))) [.e,.bN ((a::ps).map dU)] ((a::ps).map dU)=pure ((a::ps).map λp=>D.ay (decide (p.s=a.s))):=
  qF dU _ _ λp _=>by
   have e:=Lk p.s a.s;simp[dU,e]
 have z:(a::ps).length<aki:=f7 (by omega);have b:=xZ (λp:ff=>decide (p.s=a.s)) (a::ps);generalize d:a::ps=o at *;simp only[vL,Hm];simp[c,z,b]
def xK(s t:d1):Bool:=decide (t.1<s.1)||decide (s.1=t.1)&&decide (t.2<s.2)
def Zx(s t:d1):pT [s.1,s.2] [t.1,t.2]=xK s t:=by
 unfold pT xK;rw[NC,NC]
 by_cases br:s.1=t.1
 .rw[if_pos br,br]
  by_cases bP:s.2=t.2
  .rw[if_pos bP,bP]
   simp[h4]
  .rw[if_neg bP];simp
 .rw[if_neg br]
  simp[br]
def v_(b p:ff):ff:=if xK p.s b.s=true then p else b
def jt(p:ff)(ps:List ff):ff:=ps.foldl v_ p
abbrev ka:bq:=fnOf 1 1 (a4 (ab aH (I 0) (af (.int 1))))
def Nb(p:ff):l6 ka (dU p)=some [p.s.1,p.s.2]:=by
 have e:ka [dU p]=pure (.v (dM p.s)):=by simp[ka,dU]
 unfold l6;rw[e];rfl
theorem EG:∀(ps:List ff)(b:ff),kd ka (dU b) [b.s.1,b.s.2] (ps.map dU)=some (dU (jt b ps))
 |[],b=>rfl|p::ps,b=>by
  rw[aks];unfold jt;rw[List.foldl_cons];show(match l6 ka (dU p)with|some eO=>if pT eO [b.s.1,b.s.2]=true then kd ka (dU p) eO (ps.map dU)else kd ka (dU b) [b.s.1,b.s.2] (ps.map dU)|none=>none)=_;rw[Nb];show(if pT [p.s.1,p.s.2] [b.s.1,b.s.2]=true then kd ka (dU p) [p.s.1,p.s.2] (ps.map dU)else kd ka (dU b) [b.s.1,b.s.2] (ps.map dU))=_;rw[Zx];unfold v_
  by_cases q:xK p.s b.s=true
  .rw[if_pos q,if_pos q];exact EG ps p
  .rw[if_neg q,if_neg q];exact EG ps b
def yI(op:D)(g:ff):D:=.t [dM g.s,if g.s=(0,0)then op else g.w]
def Xs(p:ff)(ps:List ff)(op:D)(c:b8 op=.v op)(hl:(p::ps).length<64):zt [.l ((p::ps).map dU),op]=pure (.v (yI op (jt p ps))):=by
 have e:v7 ka ((p::ps).map dU)=some (dU (jt p ps)):=by
  rw[aks];show(match l6 ka (dU p)with|some k=>kd ka (dU p) k (ps.map dU)|none=>none)=_;rw[Nb];exact EG ps p
 generalize jt p ps=b at *;generalize p::ps=o at *;have a:=Lk b.s (0,0);have z:(o.map dU).length<64:=by rw[akh];exact hl
 have d:yk ka (.bN (o.map dU))=pure (.v (dU b)):=by
  unfold yk;show(match v7 ka (o.map dU)with|some r=>if(o.map dU).length<64 then(pure (R.v r):M R)else bad|none=>bad)=_;rw[e];dsimp only;rw[if_pos z]
 unfold yI;simp only[zt,BP,HF,HG]
 by_cases q:b.s=(0,0)
 .rw[q]at a
  simp at a;simp[c,d,dU,q,a]
 .simp[q]at a
  simp[c,d,dU,q,a]
end dV
namespace dV
open PySem PySem.Spec aB aF
def hT{n N:Nat}{b:aN}{ds:List D}(h:ds.length=n)(e:b (ds.map b8++akW (N-n) .e)=pure (.cn (.v d))):fnOf n N b ds=pure (.v d):=by
 rw[ye,if_pos h,e];rfl
def oO{a b:aN}(e:a U=pure (.bw U')):bO a b U=b U':=by rw[bO,e];rfl
def FI{a b:aN}{r:R}(e:a U=pure (.cn r)):bO a b U=pure (.cn r):=by rw[bO,e];rfl
def sH{t:aM->M Bool}{a b:aN}(e:t U=pure true):b3 t a b U=a U:=by rw[b3,e];rfl
def od{t:aM->M Bool}{a b:aN}(e:t U=pure false):b3 t a b U=b U:=by rw[b3,e];rfl
def ack{a b:aM->M Bool}(h:a U=pure true):e' a b U=pure true:=by show(a U >>= _)=_;rw[h];rfl
def wy{a b:aM->M Bool}(h:a U=pure false):e' a b U=b U:=by show(a U >>= _)=_;rw[h];rfl
def zO{a:aM->M Bool}(h:a U=pure true):d_ a U=pure false:=by show(a U >>= _)=_;rw[h];rfl
def iO{m:bx}(h:m U=pure (.v (.ay b))):aL m U=pure b:=by show(m U >>= _)=_;rw[h];rfl
def GW{a b:aM->M Bool}(h:a U=pure true):gN a b U=b U:=by show(a U >>= _)=_;rw[h];rfl
def Ra{a b:aM->M Bool}(h:a U=pure false):gN a b U=pure false:=by show(a U >>= _)=_;rw[h];rfl
def fi{f:R->R->M R}{a b:bx}{r:M R}(e:f x y=r)(av:a U=pure x)(aE:b U=pure y):ab f a b U=r:=by
 show(a U >>= _)=_;rw[av];show(b U >>= _)=_;rw[aE];exact e
def kk{m:bx}{U:aM}(e:m U=pure (.v d)):b' i m U=pure (.bw (U.set i (.v d))):=by show(m U >>= _)=_;rw[e];rfl
def jg{m:bx}(e:m U=pure (.v d)):a4 m U=pure (.cn (.v d)):=by show(m U >>= _)=_;rw[e];rfl
def call_of{mf:bq}{ms:cZ}{rs:List R}{r:M R}(av:ms U=pure rs)(e:mf (rs.map R.arg)=r):bf mf ms U=r:=by show(ms U >>= _)=_;rw[av];exact e
def m1{f:List R->M R}{ms:cZ}{r:M R}(e:f rs=r)(av:ms U=pure rs):cF f ms U=r:=by show(ms U >>= _)=_;rw[av];exact e
def cons_of{m:bx}{ms:cZ}(e:m U=pure x)(av:ms U=pure xs):aa m ms U=pure (x::xs):=by show(m U >>= _)=_;rw[e];show(ms U >>= _)=_;rw[av];rfl
def aeA{m:bx}{U:aM}{r:R}(e:m U=pure r)(h:r.dat=pure d):b' i m U=pure (.bw (U.set i (.v d))):=by show(m U >>= _)=_;rw[e];show(r.dat >>= _)=_;rw[h];rfl
def acP{U:aM}:lQ i (eD aj) U=pure (.bw (U.set i (.dB false []))):=rfl
def CV{it:fP}{U U':aM}(av:it U=pure ds)(e:kx (λd U=>b (U.set i (.v d))) ds U=pure (.bw U')):jZ i it b U=pure (.bw U'):=by
 show(it U >>= _)=_;rw[av];exact e
def rH{a b:bx}(av:a U=pure (.v x))(aE:b U=pure (.v y)):bU (aa a (aa b aj)) U=pure (.v (.t [x,y])):=by
 show(aa a (aa b aj) U >>= _)=_;rw[cons_of av (cons_of aE rfl)];rfl
def ya{it:fP}{ds xs:List D}(av:it U=pure ds)(z:ds.length<aki)(e:gk t el (hy n cap U) ds=pure xs):eX n cap it t el U=pure (.fr xs):=by
 show(it U >>= _)=_;rw[av];show(hx (ds.length<aki) >>= _)=_;unfold hx;rw[if_pos z];show(gk t el (hy n cap U) ds >>= _)=_;rw[e];rfl
def TF(e:m=pure (.v d)):(m >>= R.dat)=pure d:=by rw[e];rfl
def CT{n N:Nat}{b:aN}{ds xs:List D}(h:ds.length=n)(e:b (ds.map b8++akW (N-n) .e)=pure (.cn (.fr xs))):fnOf n N b ds=pure (.fr xs):=by
 rw[ye,if_pos h,e];rfl
def v9{a b:Int}(h:0<b):oMod (.v (.int a)) (.v (.int b))=pure (.v (.int (a % b))):=if_pos h
def yi{a b:Int}:oEq (.v (.int a)) (.v (.int b))=pure (.v (.ay (decide (a=b)))):=rfl
def YD{i:Int}{v:D}(e:d3 xs i=some v):aH (.v (.l xs)) (.v (.int i))=pure (.v v):=by
 show(match d3 xs i with|some d=>pure (R.v d)|none=>bad)=_;rw[e]
def YC{i:Int}{v:D}(e:d3 xs i=some v):aH (.fr xs) (.v (.int i))=pure (.v v):=by
 show(match d3 xs i with|some d=>pure (R.v d)|none=>bad)=_;rw[e]
def NI{ms:cZ}{ds:List D}(e:ms U=pure rs)(h:m3 rs=pure ds)(z:ds.length<=1000):eD ms U=pure (.fr ds):=by
 show(ms U >>= _)=_;rw[e];show(m3 rs >>= _)=_;rw[h];show(hx (ds.length<=1000) >>= _)=_;unfold hx;rw[if_pos z];rfl
def aaa{a b:Int}(h:iF a b):nx (.v (.int a)) (.v (.int b))=pure (.v (.int (a*b))):=if_pos h
def aD{α:Type}(S:bJ)(m:M α)(a:α):Prop:=m.run S=.ok a S
def bH{α:Type}(S:bJ)(m:N α)(a:α)(b:bJ):Prop:=m.run S=.ok a b
section
variable{α β:Type}{S S1 aZ:bJ}{U U':aM}
def aD.of(h:m=pure a):aD S m a:=by rw[h];rfl
theorem aD.bind{f:α->M β}(h:aD S m a)(d:aD S (f a) b):aD S (m >>= f) b:=by
 show(match m.run S with|.ok a S1=>(f a).run S1|.exc c S1=>.exc c S1|.bad=>.bad)=_;rw[show m.run S=.ok a S from h];exact d
def bH.bind{f:α->N β}(h:bH S m a S1)(d:bH S1 (f a) b aZ):bH S (m >>= f) b aZ:=by
 show(match m.run S with|.ok a S1=>(f a).run S1|.exc c S1=>.exc c S1|.bad=>.bad)=_;rw[show m.run S=.ok a S1 from h];exact d
def aD.to{m:M α}(h:aD S m a):bH S m.up a S:=h
def M5{p:Prop}[Decidable p](h:p):aD S (hx p) ():=.of (if_pos h)
def cE{f:R->R->M R}{a b:bx}{x y r:R}(e:f x y=pure r)(c:aD S (a U) x)(d:aD S (b U) y):aD S (ab f a b U) r:=c.bind (d.bind (.of e))
def cS:aD S (aj U) []:=.of rfl
def bS{m:bx}{ms:cZ}(h:aD S (m U) x)(a:aD S (ms U) xs):aD S (aa m ms U) (x::xs):=h.bind (a.bind (.of rfl))
def eN{mf:bq}{ms:cZ}{rs:List R}{r:R}(h:aD S (ms U) rs)(e:aD S (mf (rs.map R.arg)) r):aD S (bf mf ms U) r:=h.bind e
def sO{f:List R->M R}{ms:cZ}{r:R}(e:f rs=pure r)(h:aD S (ms U) rs):aD S (cF f ms U) r:=h.bind (.of e)
def oq{ms:cZ}{ds:List D}(h:aD S (ms U) rs)(e:m3 rs=pure ds)(z:ds.length<=1000):aD S (bU ms U) (.v (.t ds)):=h.bind ((aD.of e).bind ((M5 z).bind (.of rfl)))
def cy{m:bx}(h:aD S (m U) (.v (.ay b))):aD S (aL m U) b:=h.bind (.of rfl)
def y5{a b:aM->M Bool}(h:aD S (a U) true):aD S (e' a b U) true:=h.bind (.of rfl)
def j'{a b:aM->M Bool}(h:aD S (a U) false)(c:aD S (b U) x):aD S (e' a b U) x:=h.bind c
def jb{a b:aM->M Bool}(h:aD S (a U) true)(c:aD S (b U) x):aD S (gN a b U) x:=h.bind c
def ni{a b:aM->M Bool}(h:aD S (a U) false):aD S (gN a b U) false:=h.bind (.of rfl)
def ix{a:aM->M Bool}(h:aD S (a U) x):aD S (d_ a U) (!x):=h.bind (.of rfl)
def D2{it:fP}{ds xs:List D}(h:aD S (it U) ds)(z:ds.length<aki)(e:aD S (gk t el (hy n cap U) ds) xs):aD S (eX n cap it t el U) (.fr xs):=h.bind ((M5 z).bind (e.bind (.of rfl)))
theorem y4{α:Type}{el:bx}(g:α->D)(f:α->D):∀as:List α,(∀a∈as,aD S (el (U.set 0 (.v (g a)))) (.v (f a)))->aD S (gk fx el U (as.map g)) (as.map f)
 |[],_=>.of rfl|a::as,h=>(aD.of (S:=S) (m:=(pure true:M Bool)) rfl).bind ((h a (akw ..)).bind ((aD.of (m:=R.dat (.v (f a))) rfl).bind ((y4 g f as λx b=>h x (akq _ b)).bind (.of rfl))))
def M6{m:bx}{r:R}(h:aD S (m U) r)(e:r.fu=some ds):aD S (nf m U) ds:=h.bind (by rw[e];exact .of rfl)
def iW{m:bx}{r:R}(h:aD S (m U) r)(e:r.dat=pure d):aD S (b' i m U) (.bw (U.set i (.v d))):=h.bind ((aD.of e).bind (.of rfl))
def iy{m:bx}(h:aD S (m U) (.v d)):aD S (a4 m U) (.cn (.v d)):=h.bind (.of rfl)
def y6{m:bx}(h:aD S (m U) (.fr xs)):aD S (a4 m U) (.cn (.fr xs)):=h.bind (.of rfl)
def oi{t:aM->M Bool}{a b:aN}(h:aD S (t U) true)(c:aD S (a U) o):aD S (b3 t a b U) o:=h.bind c
def l5{t:aM->M Bool}{a b:aN}(h:aD S (t U) false)(c:aD S (b U) o):aD S (b3 t a b U) o:=h.bind c
def sP{a b:aN}(h:aD S (a U) (.bw U'))(c:aD S (b U') o):aD S (bO a b U) o:=h.bind c
def y7{a b:aN}{r:R}(h:aD S (a U) (.cn r)):aD S (bO a b U) (.cn r):=h.bind (.of rfl)
def j_{n N:Nat}{b:aN}{ds:List D}(h:ds.length=n)(e:aD S (b (ds.map b8++akW (N-n) .e)) (.cn (.v d))):aD S (fnOf n N b ds) (.v d):=by
 rw[ye,if_pos h];exact e.bind (.of rfl)
def oo(h:S[i]? = some o):aD S (hJ (.v (.ref i))) o:=(show aD S LR S from rfl).bind (by rw[h];exact .of rfl)
def oj{m:bx}(h:S[i]? = some (.l xs))(a:aD S (m U) (.v (.ref i))):aD S (g7 m U) (.mv xs):=a.bind ((oo h).bind (.of rfl))
def iw{mf:bq}{mo:bx}{ms:cZ}{aU:List (Str×D)}{rs:List R}{r:R}(h:S[i]? = some (.bc c aU))(b:aD S (mo U) (.v (.ref i)))(a:aU.lookup m=none)(d:aD S (ms U) rs)(e:aD S (mf (.ref i::rs.map R.arg)) r):aD S (dk c m mf mo ms U) r:=b.bind ((oo h).bind (by show aD S (if c=c/\aU.lookup m=none then _ else _) _;rw[if_pos ⟨rfl,a⟩];exact d.bind e))
def M4{m:bx}{aU:List (Str×D)}(h:S[i]? = some (.bc c aU))(a:aD S (m U) (.v (.ref i)))(e:aU.lookup f=some d):aD S (bb (bY c f) m U) (.v d):=a.bind ((oo h).bind (by show aD S (if c=c then _ else _) _;rw[if_pos rfl,e];exact .of rfl))
def df{a b:bX}(h:bH S (a U) (.bw U') S1)(c:bH S1 (b U') o aZ):bH S (bB a b U) o aZ:=h.bind c
def AO{a b:bX}{r:R}(h:bH S (a U) (.cn r) S1):bH S (bB a b U) (.cn r) S1:=h.bind rfl
def o8{t:aM->N Bool}{a b:bX}(h:bH S (t U) true S1)(c:bH S1 (a U) o aZ):bH S (fz t a b U) o aZ:=h.bind c
def ql{t:aM->N Bool}{a b:bX}(h:bH S (t U) false S1)(c:bH S1 (b U) o aZ):bH S (fz t a b U) o aZ:=h.bind c
def AQ{t:aM->N Bool}{a b:bX}(h:bH S (t U) false S1)(c:bH S1 (b U) o aZ):bH S (bB (fz t a (b5 bT)) b U) o aZ:=df (ql h rfl) c
def AR{t:aM->M Bool}{b:bX}(h:aD S (t U) false)(c:bH S (b U) o aZ):bH S (bB (b5 (b3 t a bT)) b U) o aZ:=df (l5 h (.of rfl)).to c
def xe{m:eV}(h:bH S (m U) (.fr xs) S1):bH S (jP m U) (.cn (.fr xs)) S1:=h.bind rfl
def AN{m:eV}{r:R}(h:bH S (m U) r S1):bH S (hn m U) (.bw U) S1:=h.bind rfl
def AP{m:eV}{r:R}(h:bH S (m U) r S1)(e:r.dat=pure d):bH S (rP i m U) (.bw (U.set i (.v d))) S1:=h.bind ((aD.of e).to.bind rfl)
def x_call{mf:d2}{ms:cZ}{rs:List R}{r:R}(h:aD S (ms U) rs)(ax:rs.all R.iB=true)(e:bH S (mf (rs.map R.arg)) r S1):bH S (uc mf (eF ms) U) r S1:=(aD.to h).bind (by rw[if_pos ax];exact e)
def nI{mf:d2}{mo:bx}{ms:jV}{aU:List (Str×D)}{rs:List R}{r:R}(h:S[i]? = some (.bc c aU))(b:aD S (mo U) (.v (.ref i)))(a:aU.lookup m=none)(d:bH S (ms U) rs S)(ax:rs.all R.iB=true)(e:bH S (mf (.ref i::rs.map R.arg)) r S1):bH S (dZ c m mf mo ms U) r S1:=b.to.bind ((oo h).to.bind (by show bH S (if c=c/\aU.lookup m=none then _ else _) _ _;rw[if_pos ⟨rfl,a⟩];exact d.bind (by rw[if_pos ax];exact e)))
def Qh{mf:d2}{ms:cZ}{rs:List R}(h:aD S (ms U) rs)(ax:rs.all R.iB=true)(e:bH (S++[.bc c []]) (mf (.ref S.length::rs.map R.arg)) (.v .aJ) S1):bH S (o7 c mf (eF ms) U) (.v (.ref S.length)) S1:=(aD.to h).bind (by
 rw[if_pos ax];exact bH.bind (m:=yx) (a:=S) (S1:=S) rfl (bH.bind (m:=putN _) (a:=()) (S1:=S++[gd.bc c []]) rfl (bH.bind e rfl)))
def Gi{n N:Nat}{b:bX}{ds:List D}(h:ds.length=n)(e:bH S (b (ds.map b8++akW (N-n) .e)) (.cn (.v d)) S1):bH S (fnX n N b ds) (.v d) S1:=by
 unfold fnX;rw[if_pos h];exact e.bind rfl
def ue{n N:Nat}{b:bX}{ds xs:List D}(h:ds.length=n)(e:bH S (b (ds.map b8++akW (N-n) .e)) (.cn (.fr xs)) S1):bH S (fnX n N b ds) (.fr xs) S1:=by
 unfold fnX;rw[if_pos h];exact e.bind rfl
def xd{n N:Nat}{b:bX}{ds:List D}(h:ds.length=n)(e:bH S (b (ds.map b8++akW (N-n) .e)) (.bw U') S1):bH S (fnX n N b ds) (.v .aJ) S1:=by
 unfold fnX;rw[if_pos h];exact e.bind rfl
def x_at{mo:bx}{mv:eV}{aU:List (Str×D)}{r:R}(b:bH S (mv U) r S1)(e:r.dat=pure d)(a:aD S1 (mo U) (.v (.ref i)))(h:S1[i]? = some (.bc c aU))(hl:aU.length<1000):bH S (dT c f mo mv U) (.bw U) (S1.set i (.bc c (h6 f d aU))):=b.bind ((aD.of e).to.bind (a.to.bind ((oo h).to.bind (by
 show bH S1 (if c=c/\aU.length<1000 then _ else _) _ _;rw[if_pos ⟨rfl,hl⟩];rfl))))
def Gh{mo:bx}{ms:cZ}{xs:List D}(b:aD S (mo U) (.v (.ref i)))(c:aD S (ms U) [.v d])(h:S[i]? = some (.l xs))(z:xs.length<aki):bH S (nH kQ mo ms U) (.bw U) (S.set i (.l (xs++[d]))):=b.to.bind (c.to.bind ((oo h).to.bind ((aD.to (a:=(R.v .aJ,xs++[d])) (.of (by show(hx (xs.length<aki) >>= _)=_;rw[I6 z];rfl))).bind rfl)))
def Qi:bH S (lB (dJ (eD aj)) U) (.v (.ref S.length)) (S++[.l []]):=rfl
def Qg{it:fP}(h:aD S (it U) ds)(e:bH S (nG (λd U=>b (U.set i (.v d))) ds U) o S1):bH S (xc i it b U) o S1:=(aD.to h).bind e
def agZ{b:D->bX}(h:bH S (b d U) (.bw U') S1)(a:bH S1 (nG b ds U') o aZ):bH S (nG b (d::ds) U) o aZ:=h.bind a
def Fr(W:List Nat)(S a:bJ):Prop:=∀j o,j∉W->S[j]? = some o->a[j]? = some o
def Fr.set(h:i∈W):Fr W S (S.set i o):=λj b a e=>by
 rw[akn (λq:i=j=>a (q▸h))];exact e
def Fr.app:Fr W S (S++l):=λj o _ e=>by
 rw[akD (akd.mp e).1];exact e
def Fr.refl:Fr W S S:=λ_ _ _ e=>e
def Fr.trans(h:Fr W S S1)(b:Fr W S1 aZ):Fr W S aZ:=λj o a e=>b j o a (h j o a e)
def get_set(h:S[i]? = some o):(S.set i C)[i]? = some C:=by
 rw[akE (akd.mp h).1]
def C5:(S++[o])[S.length]? = some o:=by rw[akz (akk _),amw];rfl
end
end dV
namespace dV
open PySem PySem.Spec aB aF i5 gc jk
section
variable{t:aM->M Bool}{a b:aN}{U U':aM}{r:R}
def gh{p:Prop}[Decidable p](h:p):(pure (decide p):M Bool)=pure true:=by rw[decide_eq_true h]
def ir{p:Prop}[Decidable p](h:¬p):(pure (decide p):M Bool)=pure false:=by rw[decide_eq_false h]
def fG(e:t U=pure false)(h:b U=q):bO (b3 t a bT) b U=q:=(oO (od e)).trans h
def st(e:t U=pure true)(h:a U=pure (.cn r)):bO (b3 t a bT) b U=pure (.cn r):=FI ((sH e).trans h)
def cP(e:a U=pure (.bw U'))(h:b U'=q):bO a b U=q:=(oO e).trans h
def sj{α c:Type}{P:α->Prop}{A B:c}{f:α->c}(e:A=B)(h:∃x,B=f x/\P x):∃x,A=f x/\P x:=e▸h
def and_1{x y:bx}(e:x U=pure (.v (.ay true))):jY x y U=y U:=by show(x U >>= _)=_;rw[e];rfl
def vB{l:List Nat}(h:l.length<=1000):m7 [.v (.str (aY l))]=pure (.v (.int (l.length:Nat))):=by
 show(if(aY l).length<=aki then pure (R.v (.int ((aY l).length:Nat)))else bad)=_;rw[if_pos (by rw[oX,akB];omega),oX]
def x9{x y:List Nat}(h:x.length+y.length<=1000):oE (.v (.str (aY x))) (.v (.str (aY y)))=pure (.v (.str (aY (x++y)))):=by
 show(if(aY x).length+(aY y).length<=aki then pure (R.v (.str (aY x++aY y)))else bad)=_;rw[if_pos (by rw[oX,oX,akB];omega),afS]
def aec{m:bx}(e:m U=pure (.fr xs)):a4 m U=pure (.cn (.fr xs)):=by show(m U >>= _)=_;rw[e];rfl
end
structure bK where
 me:Int
 ct:Int
 h:D
 op:D
 bM:Bool
 c_:Int
 st:d1
 wi:Int
 dC:D
 bW:Str
 dE:D
 bZ:List ff
 nj:Nat
 dN:D
def bK.aU(a:bK)(g:Nat):List (Str×D):=[("me",.int a.me),("epoch",.int a.ct),("hall",a.h),("opening",a.op),("over_known",.ay a.bM),("greatest_round",.int a.c_),("last_stamp",dM a.st),("wishes",.int a.wi),("deed",a.dC),("standing",.str a.bW),("last_outcome",a.dE),("grants",.ref g),("kept_mask",a_ a.nj),("told_slate",a.dN)]
def kr(me ct:Int)(s:d1)(k:Nat):D:=.t [.str "ask",.int me,a_ k,.int ct,dM s,.t []]
def qb(me ct:Int)(s:d1)(l:D)(k:Nat):D:=.t [.str "tell",.int me,a_ k,.int ct,dM s,l]
def B5:D:=.t [.t [],.t [],.t [.int 0,.aJ],.aJ]
def tv(me:Int)(h:D):bK:=⟨me,0,h,B5,false,0,(0,0),0,.aJ,"calm",.aJ,[],0,.aJ⟩
structure dv(S:bJ)(i g:Nat)(a:bK):Prop where
 bc:S[i]? = some (.bc "Asker" (a.aU g))
 ls:S[g]? = some (.l (a.bZ.map dU))
structure en(S ao:bJ)(i g g':Nat)(b:bK):Prop where
 at':dv ao i g' b
 fr:Fr [i,g] S ao
 nw:g'=g\/S.length<=g'
 len:S.length<=ao.length
def dY(S:bJ)(i g:Nat)(m:N fc)(b:fc)(c:bK):Prop:=∃a g',bH S m b a/\en S a i g g' c
def bK.Do(a:bK)(mf:d2)(ds ys:List D)(b:bK):Prop:=∀(S:bJ)(i g:Nat),dv S i g a->∃c g',bH S (mf (.ref i::ds)) (.fr ys) c/\en S c i g g' b
section
variable{S S1 aZ:bJ}{U U':aM}{i g g1 g2 k:Nat}{a b c:bK}{f:Str}{d:D}{mv:bx}{r:R}{bd:bX}{aI:fc}
def lb(h:S[i]? = some o):i<S.length:=(akd.mp h).1
def dv.ne(h:dv S i g a):i≠g:=λe=>by have:=h.bc;rw[e,h.ls]at this;cases this
def en.refl(h:dv S i g a):en S S i g g a:=⟨h,.refl,.inl rfl,akk _⟩
def en.trans(h:en S S1 i g g1 b)(l:en S1 aZ i g1 g2 c):en S aZ i g g2 c:=by
 refine⟨l.at',λj o m e=>l.fr j o ?_ (h.fr j o m e),?_,akU h.len l.len⟩
 .have:=lb e
  simp only[akt,ak3,or_false,not_or]at m ⊢;rcases h.nw with q|q
  .rw[q];exact m
  .exact⟨m.1,by omega⟩
 .rcases l.nw with q|q
  .rw[q];exact h.nw
  .exact .inr (akU h.len q)
def c3(h:dv S i g a)(j:I k U=pure (.v (.ref i)))(e:(a.aU g).lookup f=some d):aD S (bb (bY "Asker" f) (I k) U) (.v d):=M4 h.bc (.of j) e
def D9:(a.aU g).length<1000:=by show 14<1000;omega
theorem iS(h:dv S i g a)(b:bK)(l:I k U=pure (.v (.ref i)))(m:aD S (mv U) r)(p:r.dat=pure d)(e:h6 f d (a.aU g)=b.aU g)(n:b.bZ=a.bZ)(q:∀S1,dv S1 i g b->dY S1 i g (bd U) aI c):dY S i g (bB (dT "Asker" f (I k) (dJ mv)) bd U) aI c:=by
 have j:dv (S.set i (.bc "Asker" (h6 f d (a.aU g)))) i g b:=⟨by rw[get_set h.bc,e],by rw[akn h.ne,n];exact h.ls⟩;obtain⟨aZ,g2,t,s⟩:=q _ j;exact⟨aZ,g2,df (x_at m.to p (.of l) h.bc D9) t,en.trans ⟨j,.set (by simp),.inl rfl,by rw[akS];exact akk _⟩ s⟩
theorem UX(h:dv S i g a)(b:bK)(p:I k U=pure (.v (.ref i)))(e:∀n,h6 ("grants":Str) (D.ref n) (a.aU g)=b.aU n)(u:b.bZ=[])(q:∀S1 g1,dv S1 i g1 b->dY S1 i g1 (bd U) aI c):dY S i g (bB (dT "Asker" "grants" (I k) (lB (dJ (eD aj)))) bd U) aI c:=by
 have m:(S++[gd.l []])[i]? = some (.bc "Asker" (a.aU g)):=Fr.app (W:=[]) _ _ (ak3) h.bc;have j:dv ((S++[gd.l []]).set i (.bc "Asker" (h6 ("grants":Str) (D.ref S.length) (a.aU g)))) i S.length b:=⟨by rw[get_set m,e],by rw[akn (akR (lb h.bc)),C5,u];rfl⟩;obtain⟨aZ,g2,t,s⟩:=q _ _ j;exact⟨aZ,g2,df (x_at Qi rfl (.of p) m D9) t,en.trans ⟨j,Fr.app.trans (.set (by simp)),.inr (akk _),by rw[akS,akg];omega⟩ s⟩
theorem LX{ms:cZ}(h:dv S i g a)(b:bK)(m:I k U=pure (.v (.ref i)))(n:aD S (ms U) [.v (dU x)])(e:b.aU g=a.aU g)(p:b.bZ=a.bZ++[x])(z:a.bZ.length<1000)(q:∀S1,dv S1 i g b->dY S1 i g (bd U) aI c):dY S i g (bB (nH kQ (bb (bY "Asker" "grants") (I k)) ms) bd U) aI c:=by
 have j:dv (S.set g (.l (a.bZ.map dU++[dU x]))) i g b:=⟨by rw[akn h.ne.symm,e];exact h.bc,by rw[get_set h.ls,p,alI];rfl⟩;obtain⟨aZ,g2,t,s⟩:=q _ j;exact⟨aZ,g2,df (Gh (c3 h m rfl) n h.ls (by rw[akh];exact f7 (by omega))) t,en.trans ⟨j,.set (by simp),.inl rfl,by rw[akS];exact akk _⟩ s⟩
def Bn(h:dv S i g a)(e:I k U=pure (.v (.ref i))):aD S (g7 (bb (bY "Asker" "grants") (I k)) U) (.mv (a.bZ.map dU)):=oj h.ls (c3 h e rfl)
def m_{m:aN}(h:dv S i g a)(e:aD S (m U) aI):dY S i g (b5 m U) aI a:=⟨S,g,e,.refl h⟩
theorem hC{t:aM->M Bool}(e:aD S (t U) false)(q:dY S i g (bd U) aI c):dY S i g (bB (b5 (b3 t m bT)) bd U) aI c:=by
 obtain⟨aZ,g2,t,s⟩:=q;exact⟨aZ,g2,AR e t,s⟩
theorem k6{t:aM->M Bool}(e:aD S (t U) false)(q:dY S i g (bd U) aI c):dY S i g (bB (fz (fH t) m (b5 bT)) bd U) aI c:=by
 obtain⟨aZ,g2,t,s⟩:=q;exact⟨aZ,g2,AQ e t,s⟩
def qX{t:aM->M Bool}{m:aN}{r:R}(h:dv S i g a)(e:aD S (t U) true)(aE:aD S (m U) (.cn r)):dY S i g (bB (b5 (b3 t m bT)) bd U) (.cn r) a:=⟨S,g,AO (oi e aE).to,.refl h⟩
theorem u5{t:aM->M Bool}{m:bX}{r:R}(e:aD S (t U) true)(q:dY S i g (m U) (.cn r) c):dY S i g (bB (fz (fH t) m (b5 bT)) bd U) (.cn r) c:=by
 obtain⟨aZ,g2,t,s⟩:=q;exact⟨aZ,g2,AO (o8 e t),s⟩
theorem yz{m:aN}(e:aD S (m U) (.bw U'))(q:dY S i g (bd U') aI c):dY S i g (bB (b5 m) bd U) aI c:=by
 obtain⟨aZ,g2,t,s⟩:=q;exact⟨aZ,g2,df (aD.to e) t,s⟩
theorem qW{ms:jV}{rs:List R}(h:dv S i g a)(q:a.Do mf (rs.map R.arg) ys c)(l:I k U=pure (.v (.ref i)))(e:(a.aU g).lookup m=none)(j:bH S (ms U) rs S)(ax:rs.all R.iB=true):dY S i g (jP (dZ "Asker" m mf (I k) ms) U) (.cn (.fr ys)) c:=by
 obtain⟨aZ,g2,t,s⟩:=q _ _ _ h;exact⟨aZ,g2,xe (nI h.bc (.of l) e j ax t),s⟩
theorem g8{n N:Nat}{bd:bX}{ds ys:List D}(h:ds.length+1=n)(q:∀S i g,dv S i g a->dY S i g (bd (.v (.ref i)::ds.map b8++akW (N-n) .e)) (.cn (.fr ys)) c):a.Do (fnX n N bd) ds ys c:=λS i g cR=>by
 obtain⟨aZ,g2,t,s⟩:=q S i g cR;exact⟨aZ,g2,ue h t,s⟩
end
def bK.asks(a:bK):bK:={ a with c_:=a.c_+1,st:=(a.c_+1,a.me),bW:="asking",bZ:=[] }
def Bt{a:bK}{ms:List Nat}(b:ma [a.h]=pure (.fr (ms.map a_)))(hl:ms.length<=6) :
  a.Do vF [] (ms.map (kr a.me a.ct (a.c_+1,a.me))) a.asks:=g8 rfl λS i g h=>
 iS h { a with c_:=a.c_+1 } rfl (cE rfl (c3 h rfl rfl) (.of rfl)) rfl rfl rfl λS h=>
 iS h { a with c_:=a.c_+1,st:=(a.c_+1,a.me) } rfl (oq (bS (c3 h rfl rfl) (bS (c3 h rfl rfl) cS)) rfl (ak5 rfl)) rfl rfl rfl λS h=>
 iS h { a with c_:=a.c_+1,st:=(a.c_+1,a.me),bW:="asking" } rfl (.of rfl) rfl rfl rfl λS h=>
 UX h a.asks rfl (λ_=>rfl) rfl λS g h=>
 m_ h (y6 (D2 (M6 (eN (bS (c3 h rfl rfl) cS) (.of b)) rfl) (by rw[akh];exact f7 (by omega))
  (y4 a_ (kr a.me a.ct (a.c_+1,a.me)) ms λk _=>eN (bS (c3 h rfl rfl) (bS (.of rfl) (bS (c3 h rfl rfl) (bS (c3 h rfl rfl) cS)))) (.of rfl))))
def Qf{S:bJ}{mv:bx}{aU:List (Str×D)}{a:bX}(h:S[i]? = some (.bc c aU))(e:mv U=pure (.v d))(b:I 0 U=pure (.v (.ref i)))(hl:aU.length<1000)(q:bH (S.set i (.bc c (h6 f d aU))) (a U) o C):bH S (bB (dT c f (I 0) (dJ mv)) a U) o C:=df (x_at (aD.of e).to rfl (.of b) h hl) q
def l9{n:Nat}(h:n.ble 999=true):n<1000:=Nat.lt_succ_of_le (ak5 h)
def Yo(S:bJ)(me:Int)(h:D)(cR:b8 h=.v h):∃b,bH (S++[.bc "Asker" []]) (sZ [.ref S.length,.int me,h]) (.v .aJ) b/\dv b S.length (S.length+1) (tv me h)/\b.length=S.length+2/\Fr [] S b:=by
 have ne:S.length+1≠S.length:=by omega
 have c:∀{o a:gd},(S++[o])++[a]=S++[o,a]:=λ{o a}=>by rw[amL];rfl
 have st:∀{o a:gd}{l:bJ},(S++o::l).set S.length a=S++a::l:=λ{o a l}=>by rw[List.set_append_right _ _ (akk _),amw];rfl
 have gt:∀{o:gd}{l:bJ},(S++o::l)[S.length]? = some o:=λ{o l}=>by rw[akz (akk _),amw];rfl
 refine⟨S++[.bc "Asker" ((tv me h).aU (S.length+1)),.l []],xd (U':=[.v (.ref S.length),.v (.int me),.v h]) rfl ?_,⟨gt,?_⟩,by rw[akg];rfl,.app⟩
 .show bH _ (G_ [.v (.ref S.length),.v (.int me),b8 h]) _ _
  rw[cR]
  repeat' (refine Qf gt (by rfl) rfl (l9 rfl) ?_;rw[st])
  refine df (x_at Qi rfl (.of rfl) (by rw[c];exact gt) (l9 rfl)) ?_;rw[c,st,akg];refine Qf gt (by rfl) rfl (l9 rfl) ?_;rw[st];have:=x_at (S:=S++[gd.bc "Asker" [("me",D.int me),("epoch",.int 0),("hall",h),("opening",B5),("over_known",.ay false),("greatest_round",.int 0),("last_stamp",dM (0,0)),("wishes",.int 0),("deed",.aJ),("standing",.str "calm"),("last_outcome",.aJ),("grants",.ref (S.length+1)),("kept_mask",a_ 0)],.l []]) (f:="told_slate") (mv:=dJ (af .aJ)) (U:=[.v (.ref S.length),.v (.int me),.v h]) (mo:=I 0) (i:=S.length) (d:=.aJ) (r:=.v .aJ) rfl rfl (.of rfl) gt (l9 rfl);rw[st]at this;exact this
 .rw[akz (by omega),Nat.add_sub_cancel_left];rfl
def hO(b:aku x=true)(a:aku y=true):oEq (.v (.str x)) (.v (.str y))=pure (.v (.ay (x==y))):=qL (x:=.v (.str x)) (y:=.v (.str y)) b a
def Af(b:aku x=true)(a:aku y=true):dA (.v (.str x)) (.v (.str y))=pure (.v (.ay (!(x==y)))):=se (x:=.v (.str x)) (y:=.v (.str y)) b a
def Oh:aku "calm"=true:=by decide +kernel
def Og:aku "asking"=true:=by decide +kernel
def Oj:aku "telling"=true:=by decide +kernel
def wu:aku "late"=true:=by decide +kernel
def bK.jU(a:bK):Prop:=a.bW="calm"\/a.bW="asking"\/a.bW="telling"
def tV{a:bK}(h:a.jU):aku a.bW=true:=by rcases h with h|h|h<;>rw[h]<;>decide +kernel
def calm_eq{a:bK}(h:a.jU):oEq (.v (.str a.bW)) (.v (.str "calm"))=pure (.v (.ay (a.bW == "calm"))):=hO (tV h) Oh
def x8{a:bK}(h:a.jU):dA (.v (.str a.bW)) (.v (.str "calm"))=pure (.v (.ay (!(a.bW == "calm")))):=Af (tV h) Oh
structure nK(h:D)(ms:List Nat)(fa fk:Nat->Bool):Prop where
 mem:ma [h]=pure (.fr (ms.map a_))
 len:ms.length<=6
 lt:∀k∈ms,k<6
 ne:ms≠[]
 ex:∃x y,h=.t [x,y]/\b8 x=.v x/\b8 y=.v y/\(∀m:Nat,je 12 [x,a_ m]=pure (.v (.ay (fa m))))/\∀m:Nat,je 12 [y,a_ m]=pure (.v (.ay (fk m)))
def bK.tells(a:bK)(t:D):bK:={ a with bW:="telling",nj:=0,dN:=t }
def bK.ends(a:bK)(o:D):bK:={ a with bW:="calm",dE:=o }
def bK.uo(a:bK)(mf:d2)(ds:List D)(b:bK):Prop:=∀(S:bJ)(i g:Nat),dv S i g a->∃c g',bH S (mf (.ref i::ds)) (.v .aJ) c/\en S c i g g' b
section
variable{S S1 aZ:bJ}{U U':aM}{i g k:Nat}{a b c:bK}{f:Str}{d:D}{mv:bx}{r:R}{bd:bX}{aI:fc}
def adT(h:dv S i g a)(b:bK)(j:I k U=pure (.v (.ref i)))(l:aD S (mv U) r)(n:r.dat=pure d)(e:h6 f d (a.aU g)=b.aU g)(m:b.bZ=a.bZ):dY S i g (dT "Asker" f (I k) (dJ mv) U) (.bw U) b:=
 ⟨_,g,x_at l.to n (.of j) h.bc D9,⟨by rw[get_set h.bc,e],by rw[akn h.ne,m];exact h.ls⟩,.set (by simp),.inl rfl,by rw[akS];exact akk _⟩
theorem sv{t:aM->M Bool}{m n:bX}(e:aD S (t U) true)(q:dY S i g (m U) aI c):dY S i g (fz (fH t) m n U) aI c:=by
 obtain⟨aZ,h,t,s⟩:=q;exact⟨aZ,h,o8 (aD.to e) t,s⟩
theorem pL{t:aM->M Bool}{m n:bX}(e:aD S (t U) false)(q:dY S i g (n U) aI c):dY S i g (fz (fH t) m n U) aI c:=by
 obtain⟨aZ,h,t,s⟩:=q;exact⟨aZ,h,ql (aD.to e) t,s⟩
theorem r'{ms:jV}{rs:List R}(h:dv S i g a)(q:a.uo mf (rs.map R.arg) c)(l:I k U=pure (.v (.ref i)))(e:(a.aU g).lookup m=none)(j:bH S (ms U) rs S)(ax:rs.all R.iB=true):dY S i g (hn (dZ "Asker" m mf (I k) ms) U) (.bw U) c:=by
 obtain⟨aZ,n,t,s⟩:=q _ _ _ h;exact⟨aZ,n,AN (nI h.bc (.of l) e j ax t),s⟩
theorem C8{m:bX}(q:dY S i g (m U) (.bw U') b)(p:∀S1 e,dv S1 i e b->dY S1 i e (bd U') aI c):dY S i g (bB m bd U) aI c:=by
 obtain⟨S1,e,n,h⟩:=q;obtain⟨aZ,l,j,s2⟩:=p S1 e h.at';exact⟨aZ,l,df n j,h.trans s2⟩
theorem CB{n N:Nat}{bd:bX}{ds:List D}(h:ds.length+1=n)(q:∀S i g,dv S i g a->∃U',dY S i g (bd (.v (.ref i)::ds.map b8++akW (N-n) .e)) (.bw U') c):a.uo (fnX n N bd) ds c:=λS i g cR=>by
 obtain⟨U',aZ,j,t,s⟩:=q S i g cR;exact⟨aZ,j,xd h t,s⟩
end
def yh{a:bK}(b:b8 o=.v o):a.uo pV [o] (a.ends o):=CB rfl λS i g h=>by
 show ∃U',dY S i g (Hc [.v (.ref i),b8 o]) (.bw U') _;rw[b];exact⟨_,iS h { a with bW:="calm" } rfl (.of rfl) rfl rfl rfl λS h=>adT h (a.ends o) rfl (.of rfl) rfl rfl rfl⟩
def f5:D->Bool
 |.aJ=>true|_=>false
def zN(d:D):iX (.v d) (.v .aJ)=pure (.v (.ay (!f5 d))):=by cases d<;>rfl
def yZ(d:D):jI (.v d) (.v .aJ)=pure (.v (.ay (f5 d))):=by cases d<;>rfl
def jw(k:Nat)(a e:Int)(s kp:d1)(w:D):D:=.t [.str "grant",a_ k,.int a,.int e,dM s,.t [dM kp,w]]
def gY(k:Nat)(a e:Int)(s:d1):D:=.t [.str "kept",a_ k,.int a,.int e,dM s,.t []]
def sT(k:Nat)(a e:Int)(s p:d1):D:=.t [.str "late",a_ k,.int a,.int e,dM s,.t [dM p]]
def bK.got(a:bK)(k:Nat)(kp:d1)(w:D):bK:={ a with bZ:=a.bZ++[⟨k,kp,w⟩] }
section
variable{a:bK}{ms:List Nat}{fa fk:Nat->Bool}(H:nK a.h ms fa fk){k:Nat}{me e:Int}{s kp:d1}{w:D}(aQ:∀g∈a.bZ,g.k<6)(hl:a.bZ.length<60)(au:k<6)
def C9{a:bK}{S:bJ}{i g:Nat}(h:dv S i g a)(aQ:∀g∈a.bZ,g.k<6)(hl:a.bZ.length<=1000)(U:aM):aD S (bf oy (aa (g7 (bb (bY "Asker" "grants") (I 0))) aj) (.v (.ref i)::U)) (.v (a_ (maskOf (a.bZ.map (·.k))))):=
 eN (bS (Bn h rfl) cS) (.of (U4 a.bZ aQ hl))
def aey{a:bK}(H:nK a.h ms fa fk){S:bJ}{i g:Nat}(h:dv S i g a)(d:a.bZ=p::ps)(aQ:∀g∈a.bZ,g.k<6)(hl:a.bZ.length<=1000){z:Bool}(hw:b8 w=.v w)(hz:l_ [w]=pure (.v (.ay z))) :
  aD S (vG [.ref i,w]) (.v (.ay (!z&&(a.bZ.all λg=>decide (g.s=p.s))&&fk (maskOf (a.bZ.map (·.k)))))):=by
 obtain⟨x,y,j,m,l,_,f⟩:=H.ex;have c:=Q8 ps p (by rw[<-d];exact hl);rw[<-d]at c;have al:aD S (aL (bf vL (aa (g7 (bb (bY "Asker" "grants") (I 0))) aj)) [.v (.ref i),.v w]) (a.bZ.all λg=>decide (g.s=p.s)):=cy (eN (bS (Bn h rfl) cS) (.of c));refine j_ rfl ?_;show aD S (Hh [.v (.ref i),b8 w]) _;rw[hw];generalize(a.bZ.all λg=>decide (g.s=p.s))=o at *;have b:aD S (aL (bf l_ (aa (I 1) aj)) [.v (.ref i),.v w]) z:=.of (iO (call_of (rs:=[.v w]) rfl hz))
 cases z with
 |true=>exact y7 (oi (y5 b) (iy (.of rfl)))|false=>
  cases o with
  |false=>exact y7 (oi (j' b (ix al)) (iy (.of rfl)))| true=>exact sP (l5 (j' b (ix al)) (.of rfl)) (iy (eN (bS (cE (x:=.v (.t [x,y])) (r:=.v y) rfl (c3 h rfl (by show some a.h=_;rw[j])) (.of rfl)) (bS (C9 h aQ hl _) cS)) (.of (f _))))
def bK.xG(a:bK)(w:D)(b:Bool):Prop:=∀S i g,dv S i g a->aD S (vG [.ref i,w]) (.v (.ay b))
def UZ{a:bK}{s:d1}(hd:a.dC=.aJ)(ax:a.xG w true):a.Do s7 [.t [dM s,w]] [] (a.ends (.t [.str "saw",.t [.int a.ct,dM s,w]])):=g8 rfl λS i g h=>
 u5 (jb (cy (cE (by rw[yZ,hd];rfl) (c3 (d:=a.dC) h rfl rfl) (.of rfl))) (cy (iw h.bc (.of rfl) rfl (bS (x:=.v w) (.of rfl) cS) (ax S i g h))))<|
  C8 (r' (rs:=[.v (.t [.str "saw",.t [.int a.ct,dM s,w]])]) h (yh rfl) rfl rfl (aD.to (bS (oq (bS (.of rfl) (bS (oq (bS (c3 h rfl rfl) (bS (.of rfl) (bS (.of rfl) cS))) rfl (ak5 rfl)) cS)) rfl (ak5 rfl)) cS)) rfl) λS g h=>m_ h (.of rfl)
theorem U0{a:bK}{ms:List Nat}{s:d1}{w:D}(d:ma [a.h]=pure (.fr (ms.map a_)))(hl:ms.length<=6)(hd:f5 a.dC=false\/a.xG w false){t:D}
  (c:nq [w,.int a.me,.int a.wi,a.dC]=pure (.v t)) :
  a.Do s7 [.t [dM s,w]] (ms.map (qb a.me a.ct a.st (.t [dM s,.int a.wi,a.dC,t]))) (a.tells t):=g8 rfl λS i g h=>by
 have f:aD S (gN (aL (ab jI (bb (bY "Asker" "deed") (I 0)) (af .aJ))) (aL (dk "Asker" "sees_at_once" vG (I 0) (aa (ab aH (I 1) (af (.int 1))) aj))) [.v (.ref i),.v (.t [dM s,w]),.e]) false:=by
  have b:aD S (aL (ab jI (bb (bY "Asker" "deed") (I 0)) (af .aJ)) [.v (.ref i),.v (.t [dM s,w]),.e]) (f5 a.dC):=cy (cE (yZ a.dC) (c3 h rfl rfl) (.of rfl))
  cases q:f5 a.dC with
  |false=>rw[q]at b;exact ni b|true=>
   rw[q]at b;rcases hd with z|z
   .rw[q]at z;cases z
   .exact jb b (cy (iw h.bc (.of rfl) rfl (bS (x:=.v w) (.of rfl) cS) (z S i g h)))
 exact k6 f<|
  iS h { a with bW:="telling" } rfl (.of rfl) rfl rfl rfl λS h=>
  iS h { a with bW:="telling",nj:=0 } rfl (.of rfl) rfl rfl rfl λS h=>
  iS h (a.tells t) rfl (eN (bS (.of rfl) (bS (c3 h rfl rfl) (bS (c3 h rfl rfl) (bS (c3 h rfl rfl) cS)))) (.of c)) rfl rfl rfl λS h=>
  yz (iW (oq (bS (.of rfl) (bS (c3 h rfl rfl) (bS (c3 h rfl rfl) (bS (c3 h rfl rfl) cS)))) rfl (ak5 rfl)) rfl)<|
  m_ h (y6 (D2 (M6 (eN (bS (c3 h rfl rfl) cS) (.of d)) rfl) (by rw[akh];exact f7 (by omega))
   (y4 a_ (qb a.me a.ct a.st (.t [dM s,.int a.wi,a.dC,t])) ms λk _=>eN (bS (c3 h rfl rfl) (bS (.of rfl) (bS (c3 h rfl rfl) (bS (c3 h rfl rfl) (bS (.of rfl) cS))))) (.of rfl))))
include aQ hl
theorem Dt{S:bJ}(h:dv S i g a):aD S (aL (bf pY (aa (bf oy (aa (g7 (bb (bY "Asker" "grants") (I 0))) aj)) (aa (ab aH (I 1) (af (.int 1))) aj))) [.v (.ref i),.v (jw k me e s kp w)]) (cB (maskOf (a.bZ.map (·.k))) k):=
 cy (eN (bS (C9 h aQ (by omega) _) (bS (.of rfl) cS)) (.of (De _ k)))
theorem W'(q:cB (maskOf (a.bZ.map (·.k))) k=true):a.Do s8 [jw k me e s kp w] [] a:=g8 rfl λS i g h=>
 qX h (by have:=Dt (k:=k) (me:=me) (e:=e) (s:=s) (kp:=kp) (w:=w) aQ hl h;rw[q]at this;exact this) (.of rfl)
include H au
theorem LY{S:bJ}(h:dv S i g (a.got k kp w)):aD S (d_ (aL (bf (je 12) (aa (ab aH (bb (bY "Asker" "hall") (I 0)) (af (.int 0))) (aa (bf oy (aa (g7 (bb (bY "Asker" "grants") (I 0))) aj)) aj)))) [.v (.ref i),.v (jw k me e s kp w)]) (!fa (maskOf ((a.got k kp w).bZ.map (·.k)))):=by
 obtain⟨x,y,d,_,_,b,_⟩:=H.ex;have c:=C9 h (λg h=>by
  rcases alc.mp h with h|h
  .exact aQ g h
  .rw[akF.mp h];exact au) (by show(a.bZ++[_]).length<=1000;rw[akg];show _+1<=_;omega) [.v (jw k me e s kp w)]
 exact ix (cy (eN (bS (cE (x:=.v (.t [x,y])) (r:=.v x) rfl (c3 h rfl (by show some a.h=_;rw[d])) (.of rfl)) (bS c cS)) (.of (b _))))
theorem W7(q:cB (maskOf (a.bZ.map (·.k))) k=false)(bP:fa (maskOf ((a.got k kp w).bZ.map (·.k)))=false):a.Do s8 [jw k me e s kp w] [] (a.got k kp w):=g8 rfl λS i g h=>
 hC (by have:=Dt (k:=k) (me:=me) (e:=e) (s:=s) (kp:=kp) (w:=w) aQ hl h;rw[q]at this;exact this)<|
 LX h (a.got k kp w) rfl (bS (x:=.v (dU ⟨k,kp,w⟩)) (.of rfl) cS) rfl rfl (by omega) λS h=>
 qX h (by have:=LY (me:=me) (e:=e) (s:=s) H aQ hl au h;rw[bP]at this;exact this) (.of rfl)
theorem W_{Y:List D}{t:bK}{p:ff}{ps:List ff}(b:(a.got k kp w).bZ=p::ps)(c:b8 a.op=.v a.op)(q:cB (maskOf (a.bZ.map (·.k))) k=false)(bP:fa (maskOf ((a.got k kp w).bZ.map (·.k)))=true)
  (go:(a.got k kp w).Do s7 [yI a.op (jt p ps)] Y t):a.Do s8 [jw k me e s kp w] Y t:=by
 have hi:=Xs p ps a.op c (by rw[<-b];show(a.bZ++[_]).length<64;rw[akg];show _+1 < _;omega);rw[<-b]at hi;exact g8 rfl λS i g h=>
  hC (by have:=Dt (k:=k) (me:=me) (e:=e) (s:=s) (kp:=kp) (w:=w) aQ hl h;rw[q]at this;exact this)<|
  LX h (a.got k kp w) rfl (bS (x:=.v (dU ⟨k,kp,w⟩)) (.of rfl) cS) rfl rfl (by omega) λS h=>
  hC (by have:=LY (me:=me) (e:=e) (s:=s) H aQ hl au h;rw[bP]at this;exact this)<|
  qW (rs:=[.v (yI a.op (jt p ps))]) h go rfl rfl (aD.to (bS (eN (bS (Bn h rfl) (bS (c3 h rfl rfl) cS)) (.of hi)) cS)) rfl
end
structure Told(dN:D)(me n:Int)(dt aW:D)(bM:Bool):Prop where
 pF:∃x,pX [dN,.int me]=pure (.v (.t [x,.int n,dt]))
 dX:oA [dN]=pure (.v aW)
 is:l_ [dN]=pure (.v (.ay (!f5 aW)))
 lS:oEq (.v aW) (.v (.str "over"))=pure (.v (.ay bM))
 ss:b8 aW=.v aW
def bK.gx(a:bK)(n:Int)(dt aW:D)(bM:Bool):bK:=
 if(!f5 a.dC)=true then(if n=a.wi then a.ends (.t [.str "did",dt])else a)
 else if(f5 aW)=true then a.ends (.t [.str "saw",.t [.int a.ct,dM a.st,a.dN]])
 else if bM=true then a.ends (.t [.str "saw",.t [.int a.ct,.aJ,a.dN]])else a
def TR{a:bK}{n:Int}{dt aW:D}(t:Told a.dN a.me n dt aW bM):a.uo Ep [] (a.gx n dt aW bM):=CB rfl λS i g h=>by
 obtain⟨⟨x,p⟩,l,s,j,_⟩:=t;have q:aD S (aL (ab iX (bb (bY "Asker" "deed") (I 0)) (af .aJ)) [.v (.ref i),.v a.dN,.e]) (!f5 a.dC):=cy (cE (zN a.dC) (c3 h rfl rfl) (.of rfl));have is:aD S (d_ (aL (bf l_ (aa (I 1) aj))) [.v (.ref i),.v a.dN,.e]) (!!f5 aW):=ix (cy (eN (rs:=[.v a.dN]) (.of rfl) (.of s)));have dX:aD S (aL (ab oEq (bf oA (aa (I 1) aj)) (af (.str "over"))) [.v (.ref i),.v a.dN,.e]) bM:=cy (cE j (eN (rs:=[.v a.dN]) (.of rfl) (.of l)) (.of rfl));unfold bK.gx;have st:∀{o c},dY S i g (Hb [.v (.ref i),.v a.dN,.e]) o c->dY S i g (Ha [.v (.ref i),.e,.e]) o c:=λq=>yz (iW (r:=.v a.dN) (c3 h rfl rfl) rfl) q
 cases e:f5 a.dC with
 |false=>
  rw[e]at q;rw[if_pos (by rfl)];have pF:∀{m:bX}{o c},dY S i g (m [.v (.ref i),.v a.dN,.v (.t [x,.int n,dt])]) o c->dY S i g (bB (b5 (b' 2 (bf pX (aa (I 1) (aa (bb (bY "Asker" "me") (I 0)) aj))))) m [.v (.ref i),.v a.dN,.e]) o c:=λq=>yz (iW (r:=.v (.t [x,.int n,dt])) (eN (rs:=[.v a.dN,.v (.int a.me)]) (bS (.of rfl) (bS (c3 h rfl rfl) cS)) (.of p)) rfl) q
  have eq:aD S (aL (ab oEq (ab aH (I 2) (af (.int 1))) (bb (bY "Asker" "wishes") (I 0))) [.v (.ref i),.v a.dN,.v (.t [x,.int n,dt])]) (decide (n=a.wi)):=cy (cE yi (.of rfl) (c3 (d:=.int a.wi) h rfl rfl))
  by_cases c:n=a.wi
  .rw[if_pos c]
   rw[decide_eq_true c]at eq;exact⟨_,st<|sv q<|pF<|sv eq<|r' (rs:=[.v (.t [.str "did",dt])]) h (yh rfl) rfl rfl (aD.to (.of rfl)) rfl⟩
  .rw[if_neg c]
   rw[decide_eq_false c]at eq;exact⟨_,st<|sv q<|pF<|pL eq<|m_ h (.of rfl)⟩
 |true=>
  rw[e]at q;rw[if_neg (by simp)];have f:∀{b:bx}{w:D},aD S (b [.v (.ref i),.v a.dN,.e]) (.v w)->dY S i g (hn (dZ "Asker" "end_wish" pV (I 0) (eF (aa (bU (aa (af (.str "saw")) (aa (bU (aa (bb (bY "Asker" "epoch") (I 0)) (aa b (aa (I 1) aj)))) aj))) aj))) [.v (.ref i),.v a.dN,.e]) (.bw [.v (.ref i),.v a.dN,.e]) (a.ends (.t [.str "saw",.t [.int a.ct,w,a.dN]])):=λ{b w} k=>
   r' (rs:=[.v (.t [.str "saw",.t [.int a.ct,w,a.dN]])]) h (yh rfl) rfl rfl (aD.to (bS (oq (bS (.of rfl) (bS (oq (bS (c3 h rfl rfl) (bS k (bS (.of rfl) cS))) rfl (ak5 rfl)) cS)) rfl (ak5 rfl)) cS)) rfl
  cases aE:f5 aW with
  |true=>
   rw[aE]at is;rw[if_pos rfl];exact⟨_,st<|pL q<|sv is<|f (c3 h rfl rfl)⟩
  |false=>
   rw[aE]at is;rw[if_neg akl]
   cases bM with
   |true=>rw[if_pos rfl];exact⟨_,st<|pL q<|pL is<|sv dX<|f (.of rfl)⟩|false=>rw[if_neg akl];exact⟨_,st<|pL q<|pL is<|pL dX<|m_ h (.of rfl)⟩
def bK.q_(a:bK):bK:=if(a.bW == "calm")=true then{ a with bM:=true }else{ a with bM:=true,bW:="calm",dE:=.t [.str "over",.aJ] }
def Zs{a:bK}(ax:a.jU):a.uo Es [] a.q_:=CB rfl λS i g h=>by
 have ne:∀{S},dv S i g { a with bM:=true }->aD S (aL (ab dA (bb (bY "Asker" "standing") (I 0)) (af (.str "calm"))) [.v (.ref i)]) (!(a.bW == "calm")):=λh=>cy (cE (x8 ax) (c3 (d:=.str a.bW) h rfl rfl) (.of rfl))
 unfold bK.q_
 by_cases c:(a.bW == "calm")=true
 .rw[if_pos c]
  exact⟨_,iS h { a with bM:=true } rfl (.of rfl) rfl rfl rfl λS h=>pL (by have:=ne h;rw[c]at this;exact this) (m_ h (.of rfl))⟩
 .rw[if_neg c]
  exact⟨_,iS h { a with bM:=true } rfl (.of rfl) rfl rfl rfl λS h=>sv (by have:=ne h;rw[show(a.bW == "calm")=false by simpa using c]at this;exact this) (r' (rs:=[.v (.t [.str "over",.aJ])]) h (yh rfl) rfl rfl (aD.to (.of rfl)) rfl)⟩
def bK.over(a:bK)(h o:D):bK:={ a with ct:=a.ct+1,h:=h,op:=o }
section
variable{a:bK}(ax:a.jU){cR o:D}(hl:b8 cR=.v cR)(a3:tl [a.dN]=pure (.v o))
include hl a3
theorem Ov{S:bJ}(h:dv S i g a)(p:∀S1,dv S1 i g (a.over cR o)->dY S1 i g (He [.v (.ref i),.v cR]) C c):dY S i g (Hd [.v (.ref i),b8 cR]) C c:=by
 rw[hl];exact iS h { a with ct:=a.ct+1 } rfl (cE rfl (c3 h rfl rfl) (.of rfl)) rfl rfl rfl λS h=>
  iS h { a with ct:=a.ct+1,h:=cR } rfl (.of rfl) rfl rfl rfl λS h=>
  iS h (a.over cR o) rfl (eN (rs:=[.v a.dN]) (bS (c3 h rfl rfl) cS) (.of a3)) rfl rfl rfl p
include ax
theorem U1(c:a.bW="calm"):a.Do rd [cR] [] (a.over cR o):=g8 rfl λS i g h=>Ov hl a3 h λS h=>
 qX h (cy (cE (by rw[calm_eq ax,c,beq_self_eq_true]) (c3 (d:=.str a.bW) h rfl rfl) (.of rfl))) (.of rfl)
theorem U2(c:a.bW≠"calm"){ms:List Nat}(e:ma [cR]=pure (.fr (ms.map a_)))(b:ms.length<=6):a.Do rd [cR] (ms.map (kr a.me (a.ct+1) (a.c_+1,a.me))) (a.over cR o).asks:=g8 rfl λS i g h=>Ov hl a3 h λS h=>
 hC (cy (cE (by rw[calm_eq ax,show(a.bW == "calm")=false by simpa using c]) (c3 (d:=.str a.bW) h rfl rfl) (.of rfl)))<|qW (rs:=[]) h (Bt (a:=a.over cR o) e b) rfl rfl rfl rfl
end
def uY(a:bK)(n:Int)(dt aW:D)(bM:Bool):(∃o,a.gx n dt aW bM=a.ends o)\/a.gx n dt aW bM=a:=by
 unfold bK.gx;split
 .split
  .exact .inl ⟨_,rfl⟩
  .exact .inr rfl
 .split
  .exact .inl ⟨_,rfl⟩
  .split
   .exact .inl ⟨_,rfl⟩
   .exact .inr rfl
def Li(a:bK)(n:Int)(dt aW:D)(bM:Bool):(a.gx n dt aW bM).dN=a.dN:=by rcases uY a n dt aW bM with⟨o,e⟩|e<;>rw[e]<;>rfl
def TU(a:bK)(n:Int)(dt aW:D)(bM:Bool):(a.gx n dt aW bM).ct=a.ct:=by rcases uY a n dt aW bM with⟨o,e⟩|e<;>rw[e]<;>rfl
def CG(a:bK)(n:Int)(dt aW:D)(bM:Bool):(a.gx n dt aW bM).wi=a.wi:=by rcases uY a n dt aW bM with⟨o,e⟩|e<;>rw[e]<;>rfl
def TX{a:bK}(h:a.jU)(n:Int)(dt aW:D)(bM:Bool):(a.gx n dt aW bM).jU:=by
 rcases uY a n dt aW bM with⟨o,e⟩|e<;>rw[e]
 .exact .inl rfl
 .exact h
def or_eq(m n:Nat):tx (.v (a_ m)) (.v (a_ n))=pure (.v (a_ (m ||| n))):=by
 rw[gZ,gZ,gZ,<-E7];rfl
def bK.gK(a:bK)(k:Nat):bK:={ a with nj:=a.nj ||| maskOf [k] }
section
variable{a:bK}{ms:List Nat}{fa fk:Nat->Bool}(H:nK a.h ms fa fk){k:Nat}{me e:Int}{s:d1}(au:k<6)
include H au
theorem M8{S:bJ}(h:dv S i g (a.gK k)):aD S (d_ (aL (bf (je 12) (aa (ab aH (bb (bY "Asker" "hall") (I 0)) (af (.int 1))) (aa (bb (bY "Asker" "kept_mask") (I 0)) aj)))) [.v (.ref i),.v (gY k me e s),s2]) (!fk (a.gK k).nj):=by
 obtain⟨x,y,c,_,_,_,b⟩:=H.ex;exact ix (cy (eN (bS (cE (x:=.v (.t [x,y])) (r:=.v y) rfl (c3 h rfl (by show some a.h=_;rw[c])) (.of rfl)) (bS (c3 h rfl rfl) cS)) (.of (b _))))
theorem M9{S:bJ}(h:dv S i g a)(p:∀S1,dv S1 i g (a.gK k)->dY S1 i g (Hf [.v (.ref i),.v (gY k me e s),.e]) o c):dY S i g (BA [.v (.ref i),.v (gY k me e s),.e]) o c:=
 iS h (a.gK k) rfl (cE (or_eq a.nj (maskOf [k])) (c3 h rfl rfl) (eN (rs:=[.fr [a_ k]]) (.of (cons_of (NI (cons_of (fi rfl rfl rfl) rfl) rfl (ak5 rfl)) rfl)) (.of (v5 [k] λj b=>by rw[akF.mp b];omega)))) rfl rfl rfl p
theorem Xa(q:fk (a.gK k).nj=false):a.Do rf [gY k me e s] [] (a.gK k):=g8 rfl λS i g h=>
 M9 H au h λS h=>qX h (by have:=M8 (me:=me) (e:=e) (s:=s) (s2:=.e) H au h;rw[q]at this;exact this) (.of rfl)
variable{n:Int}{dt aW:D}{bM:Bool}(t:Told a.dN a.me n dt aW bM)(q:fk (a.gK k).nj=true)
include t q
theorem D5{S:bJ}(h:dv S i g a)(p:∀S1 b,dv S1 i b ((a.gK k).gx n dt aW bM)->dY S1 i b (BB [.v (.ref i),.v (gY k me e s),.v aW]) o c):dY S i g (BA [.v (.ref i),.v (gY k me e s),.e]) o c:=
 M9 H au h λS h=>hC (by have:=M8 (me:=me) (e:=e) (s:=s) (s2:=.e) H au h;rw[q]at this;exact this)<|
 C8 (U':=[.v (.ref i),.v (gY k me e s),.e]) (r' (rs:=[]) h (TR t) rfl rfl rfl rfl) λS g h=>
 yz (iW (r:=.v aW) (eN (rs:=[.v a.dN]) (bS (c3 h rfl (by show some ((a.gK k).gx n dt aW bM).dN=_;rw[Li];rfl)) cS) (.of t.dX)) rfl) (p S g h)
theorem Xd(b:f5 aW=true):a.Do rf [gY k me e s] [] ((a.gK k).gx n dt aW bM):=g8 rfl λS i g h=>D5 H au t q h λS g h=>
 qX h (cy (cE ((yZ aW).trans (by rw[b])) (.of rfl) (.of rfl))) (.of rfl)
variable(aA:f5 aW=false)
include aA
theorem M_{S:bJ}(p:dY S i g (Hg [.v (.ref i),.v (gY k me e s),.v aW]) o c):dY S i g (BB [.v (.ref i),.v (gY k me e s),.v aW]) o c:=
 hC (cy (cE ((yZ aW).trans (by rw[aA])) (.of rfl) (.of rfl))) p
theorem Xe(ax:a.jU)(b:bM=true):a.Do rf [gY k me e s] [] ((a.gK k).gx n dt aW bM).q_:=g8 rfl λS i g h=>D5 H au t q h λS g h=>M_ H au t q aA<|
 u5 (cy (cE (t.lS.trans (by rw[b])) (.of rfl) (.of rfl)))<|C8 (U':=[.v (.ref i),.v (gY k me e s),.v aW]) (r' (rs:=[]) h (Zs (TX (a:=a.gK k) ax _ _ _ _)) rfl rfl rfl rfl) λS g h=>m_ h (.of rfl)
theorem Mi(b:bM=false)(lo:((a.gK k).gx n dt aW bM).Do rd [aW] Y c):a.Do rf [gY k me e s] Y c:=g8 rfl λS i g h=>D5 H au t q h λS g h=>M_ H au t q aA<|
 k6 (cy (cE (t.lS.trans (by rw[b])) (.of rfl) (.of rfl)))<|qW (rs:=[.v aW]) h lo rfl rfl (aD.to (.of rfl)) rfl
end
def Ym(j:Nat)(a:List Nat):kK false (.v (a_ j)) (.fr (a.map a_))=pure (.v (.ay (a.contains j))):=Yl j a
def ER{a b:Int}:dA (.v (.int a)) (.v (.int b))=pure (.v (.ay (!decide (a=b)))):=rfl
def bK.now(a:bK)(ms:List Nat)(k:Nat)(e:Int)(s:d1):Bool:=decide (e=a.ct)&&decide (s=a.st)&&ms.contains k
def Yw{a:bK}{S:bJ}(h:dv S i g a)(H:nK a.h ms fa fk)(w c:D)(k:Nat)(b e:Int)(s:d1):aD S (zl [.ref i,.t [w,a_ k,.int b,.int e,dM s,c]]) (.v (.ay (a.now ms k e s))):=by
 refine j_ rfl ?_;have d:aD S (aL (ab dA (ab aH (I 1) (af (.int 3))) (bb (bY "Asker" "epoch") (I 0))) [.v (.ref i),.v (.t [w,a_ k,.int b,.int e,dM s,c])]) (!decide (e=a.ct)):=cy (cE ER (.of rfl) (c3 h rfl rfl));have f:aD S (aL (ab dA (ab aH (I 1) (af (.int 4))) (bb (bY "Asker" "last_stamp") (I 0))) [.v (.ref i),.v (.t [w,a_ k,.int b,.int e,dM s,c])]) (!decide (s=a.st)):=cy (cE (abn s a.st) (.of rfl) (c3 h rfl rfl));unfold bK.now;generalize decide (e=a.ct)=o at *;generalize decide (s=a.st)=C at *
 cases o with
 |false=>exact y7 (oi (y5 d) (.of rfl))|true=>
  cases C with
  |false=>exact y7 (oi (j' d f) (.of rfl))|true=>exact sP (l5 (j' d f) (.of rfl)) (iy (cE (Ym k ms) (.of rfl) (eN (bS (c3 h rfl rfl) cS) (.of H.mem))))
def tD:aku "grant"=true:=by decide +kernel
def Oi:aku "kept"=true:=by decide +kernel
def ZC:oEq (.v (.str "late")) (.v (.str "late"))=pure (.v (.ay true)):=by rw[hO wu wu,beq_self_eq_true]
def C7:oEq (.v (.str "grant")) (.v (.str "late"))=pure (.v (.ay false)):=by rw[hO tD wu];rfl
def LU:oEq (.v (.str "grant")) (.v (.str "grant"))=pure (.v (.ay true)):=by rw[hO tD tD,beq_self_eq_true]
def UU:oEq (.v (.str "grant")) (.v (.str "kept"))=pure (.v (.ay false)):=by rw[hO tD Oi];rfl
def bK.ze(a:bK)(r:Int):bK:={ a with c_:=if r > a.c_ then r else a.c_ }
section
variable{a:bK}{ms:List Nat}{fa fk:Nat->Bool}{S:bJ}{i g:Nat}(H:nK a.h ms fa fk){k:Nat}{e:Int}{s kp:d1}{w:D}
def tI(h:dv S i g a)(x b:D)(k:Nat)(e:Int)(s:d1):aD S (aL (ab dA (ab aH (I 1) (af (.int 2))) (bb (bY "Asker" "me") (I 0))) [.v (.ref i),.v (.t [x,a_ k,.int a.me,.int e,dM s,b])]) false:=
 cy (cE (ER.trans (by rw[decide_eq_true rfl];rfl)) (.of rfl) (c3 (d:=.int a.me) h rfl rfl))
theorem Xf(p:d1):a.Do kb [sT k a.me e s p] [] (a.ze p.1):=g8 rfl λS i g h=>
 hC (tI h (.str "late") (.t [dM p]) k e s)<|u5 (cy (cE ZC (.of rfl) (.of rfl)))<|
 iS h (a.ze p.1) rfl (sO (r:=.v (.int (a.ze p.1).c_)) rfl (bS (c3 h rfl rfl) (bS (.of rfl) cS))) rfl rfl rfl λS h=>m_ h (.of rfl)
include H
theorem wg(h:dv S i g a)(x c:D)(k:Nat)(b e:Int)(s:d1):aD S (d_ (aL (dk "Asker" "is_for_now" zl (I 0) (aa (I 1) aj))) [.v (.ref i),.v (.t [x,a_ k,.int b,.int e,dM s,c])]) (!a.now ms k e s):=
 ix (cy (iw h.bc (.of rfl) rfl (bS (.of rfl) cS) (Yw h H x c k b e s)))
theorem Mj(x b:D)(c:oEq (.v x) (.v (.str "late"))=pure (.v (.ay false)))(q:a.now ms k e s=false):a.Do kb [.t [x,a_ k,.int a.me,.int e,dM s,b]] [] a:=g8 rfl λS i g h=>
 hC (tI h x b k e s)<|k6 (cy (cE c (.of rfl) (.of rfl)))<|qX h (by have:=wg H h x b k a.me e s;rw[q]at this;exact this) (.of rfl)
variable(ax:a.jU)
include ax
theorem Dj(q:a.now ms k e s=true)(c:a.bW="asking")(g:a.Do s8 [jw k a.me e s kp w] Y t):a.Do kb [jw k a.me e s kp w] Y t:=g8 rfl λS i j h=>
 hC (tI h (.str "grant") (.t [dM kp,w]) k e s)<|k6 (cy (cE C7 (.of rfl) (.of rfl)))<|
 hC (by have:=wg H h (.str "grant") (.t [dM kp,w]) k a.me e s;rw[q]at this;exact this)<|
 u5 (jb (cy (cE LU (.of rfl) (.of rfl))) (cy (cE (by rw[hO (tV ax) Og,c,beq_self_eq_true]) (c3 h rfl rfl) (.of rfl))))<|
 qW (rs:=[.v (jw k a.me e s kp w)]) h g rfl rfl (aD.to (.of rfl)) rfl
theorem W8(q:a.now ms k e s=true)(c:a.bW≠"asking"):a.Do kb [jw k a.me e s kp w] [] a:=g8 rfl λS i j h=>
 hC (tI h (.str "grant") (.t [dM kp,w]) k e s)<|k6 (cy (cE C7 (.of rfl) (.of rfl)))<|
 hC (by have:=wg H h (.str "grant") (.t [dM kp,w]) k a.me e s;rw[q]at this;exact this)<|
 k6 (jb (cy (cE LU (.of rfl) (.of rfl))) (cy (cE (by rw[hO (tV ax) Og,show(a.bW == "asking")=false by simpa using c]) (c3 h rfl rfl) (.of rfl))))<|
 k6 (ni (cy (cE UU (.of rfl) (.of rfl))))<|m_ h (.of rfl)
end
section
variable{a:bK}{ms:List Nat}(hm:ma [a.h]=pure (.fr (ms.map a_)))(hl:ms.length<=6)
include hm hl
theorem Sr(ax:a.jU)(c:a.bW≠"calm"):a.Do s6 [] (ms.map (kr a.me a.ct (a.c_+1,a.me))) a.asks:=g8 rfl λS i g h=>
 hC (cy (cE (by rw[calm_eq ax,show(a.bW == "calm")=false by simpa using c]) (c3 h rfl rfl) (.of rfl)))<|qW (rs:=[]) h (Bt hm hl) rfl rfl rfl rfl
def bK.qz(a:bK)(d:D):bK:={ a with wi:=a.wi+1,dC:=d,dE:=.aJ }
theorem Sn(ax:a.bW="calm")(c:a.bM=false)(hd:b8 d=.v d)(b:d=.aJ\/nr [d]=pure (.v (.ay true))):a.Do zk [d] (ms.map (kr a.me a.ct (a.c_+1,a.me))) (a.qz d).asks:=g8 rfl λS i g h=>by
 show dY S i g (G' [.v (.ref i),b8 d]) _ _;rw[hd];have nn:aD S (aL (ab iX (I 1) (af .aJ)) [.v (.ref i),.v d]) (!f5 d):=cy (cE (zN d) (.of rfl) (.of rfl));have e:aD S (gN (aL (ab iX (I 1) (af .aJ))) (d_ (aL (bf nr (aa (I 1) aj)))) [.v (.ref i),.v d]) false:=by
  rcases b with rfl|b
  .exact ni nn
  .cases q:f5 d with
   |true=>rw[q]at nn;exact ni nn|false=>rw[q]at nn;exact jb nn (ix (cy (eN (bS (x:=.v d) (.of rfl) cS) (.of b))))
 exact hC e<|
  hC (cy (c3 h rfl (by show some (D.ay a.bM)=_;rw[c])))<|
  hC (cy (cE (by rw[x8 (a:=a) (.inl ax),ax,beq_self_eq_true];rfl) (c3 h rfl rfl) (.of rfl)))<|
  iS h { a with wi:=a.wi+1 } rfl (cE rfl (c3 h rfl rfl) (.of rfl)) rfl rfl rfl λS h=>
  iS h { a with wi:=a.wi+1,dC:=d } rfl (.of rfl) rfl rfl rfl λS h=>
  iS h (a.qz d) rfl (.of rfl) rfl rfl rfl λS h=>
  qW (rs:=[]) h (Bt (a:=a.qz d) hm hl) rfl rfl rfl rfl
end
def So{a:bK}(c:a.bW="calm"):a.Do s6 [] [] a:=g8 rfl λS i g h=>
 qX h (cy (cE (by rw[calm_eq (.inl c),c,beq_self_eq_true]) (c3 (d:=.str a.bW) h rfl rfl) (.of rfl))) (.of rfl)
def zX:aku "kept"=true:=by decide +kernel
def D8:oEq (.v (.str "kept")) (.v (.str "late"))=pure (.v (.ay false)):=by rw[hO zX wu];rfl
def Nh:oEq (.v (.str "kept")) (.v (.str "grant"))=pure (.v (.ay false)):=by rw[hO zX tD];rfl
def Ni:oEq (.v (.str "kept")) (.v (.str "kept"))=pure (.v (.ay true)):=by rw[hO zX zX,beq_self_eq_true]
section
variable{a:bK}{ms:List Nat}{fa fk:Nat->Bool}(H:nK a.h ms fa fk)(ax:a.jU){k:Nat}{e:Int}{s:d1}
include H ax
theorem vh(q:a.now ms k e s=true)(c:a.bW="telling")(g:a.Do rf [gY k a.me e s] Y t):a.Do kb [gY k a.me e s] Y t:=g8 rfl λS i j h=>
 hC (tI h (.str "kept") (.t []) k e s)<|k6 (cy (cE D8 (.of rfl) (.of rfl)))<|
 hC (by have:=wg H h (.str "kept") (.t []) k a.me e s;rw[q]at this;exact this)<|
 k6 (ni (cy (cE Nh (.of rfl) (.of rfl))))<|
 u5 (jb (cy (cE Ni (.of rfl) (.of rfl))) (cy (cE (by rw[hO (tV ax) Oj,c,beq_self_eq_true]) (c3 h rfl rfl) (.of rfl))))<|
 qW (rs:=[.v (gY k a.me e s)]) h g rfl rfl (aD.to (.of rfl)) rfl
theorem Xb(q:a.now ms k e s=true)(c:a.bW≠"telling"):a.Do kb [gY k a.me e s] [] a:=g8 rfl λS i j h=>
 hC (tI h (.str "kept") (.t []) k e s)<|k6 (cy (cE D8 (.of rfl) (.of rfl)))<|
 hC (by have:=wg H h (.str "kept") (.t []) k a.me e s;rw[q]at this;exact this)<|
 k6 (ni (cy (cE Nh (.of rfl) (.of rfl))))<|
 k6 (jb (cy (cE Ni (.of rfl) (.of rfl))) (cy (cE (by rw[hO (tV ax) Oj,show(a.bW == "telling")=false by simpa using c]) (c3 h rfl rfl) (.of rfl))))<|
 m_ h (.of rfl)
end
structure cY where
 as:List bK
 bs:List D
 ls:List D
 rs:List D
structure hQ where
 a:Nat
 b:Nat
 l:Nat
 r:Nat
 q:List (Nat×Nat)
def hQ.has(p:hQ)(i y:Nat):Prop:=y=i\/y∈[p.a,p.b,p.l,p.r]\/∃x∈p.q,y=x.1\/y=x.2
def hQ.aU(p:hQ):List (Str×D):=[("askers",.ref p.a),("books",.ref p.b),("letters",.ref p.l),("rows",.ref p.r)]
structure dn(S:bJ)(i:Nat)(p:hQ)(h:cY):Prop where
 bc:S[i]? = some (.bc "House" p.aU)
 al:S[p.a]? = some (.l (p.q.map λx=>.ref x.1))
 bs:S[p.b]? = some (.l h.bs)
 ls:S[p.l]? = some (.l h.ls)
 rs:S[p.r]? = some (.l h.rs)
 len:p.q.length=h.as.length
 as:∀(k:Nat)(x:Nat×Nat)(a:bK),p.q[k]? = some x->h.as[k]? = some a->dv S x.1 x.2 a
 nl:[p.a,p.b,p.l,p.r].Nodup
 wh:∀x∈p.q,x.2∉[p.a,p.b,p.l,p.r]
 fM:∀(j k:Nat)(x y:Nat×Nat),p.q[j]? = some x->p.q[k]? = some y->j≠k->x.1≠y.1/\x.2≠y.2
structure hq(S ao:bJ)(i:Nat)(p e0:hQ)(h:cY):Prop where
 at':dn ao i e0 h
 fr:∀j o,¬p.has i j->S[j]? = some o->ao[j]? = some o
 nw:∀x,e0.has i x->p.has i x\/S.length<=x
 len:S.length<=ao.length
def i7(S:bJ)(i:Nat)(p:hQ)(m:N fc)(b:fc)(h:cY):Prop:=∃a c,bH S m b a/\hq S a i p c h
def cY.Do(h:cY)(mf:d2)(ds:List D)(r:R)(h':cY):Prop:=∀(S:bJ)(i:Nat)(p:hQ),dn S i p h->∃a b,bH S (mf (.ref i::ds)) r a/\hq S a i p b h'
def cY.put(h:cY)(k:Nat)(a:bK):cY:={ h with as:=h.as.set k a }
def cY.wr(h:cY)(L:List D):cY:={ h with ls:=h.ls++L }
def cY.row(h:cY)(r:D):cY:={ h with rs:=h.rs++[r] }
def cY.bk(h:cY)(k:Nat)(b:D):cY:={ h with bs:=h.bs.set k b }
def tu{S:bJ}{x y:Nat}{o b:gd}(a:S[x]? = some o)(c:S[y]? = some b)(n:o≠b):x≠y:=λe=>n (by rw[e,c]at a;exact(akI a).symm)
section
variable{S S1 aZ:bJ}{i k:Nat}{p p1 ck:hQ}{h ag ah:cY}{x:Nat×Nat}{a b:bK}{U:aM}
def hq.refl(H:dn S i p h):hq S S i p p h:=⟨H,λ_ _ _ e=>e,λ_ h=>.inl h,akk _⟩
theorem hq.trans(s:hq S S1 i p p1 ag)(t:hq S1 aZ i p1 ck ah):hq S aZ i p ck ah:=
 ⟨t.at',λj o c e=>t.fr j o (λz=>(s.nw j z).elim c λz=>by have:=lb e;omega) (s.fr j o c e),λx z=>(t.nw x z).elim (s.nw x) λz=>.inr (akU s.len z),akU s.len t.len⟩
theorem dn.lt(H:dn S i p h)(d:p.has i y):y<S.length:=by
 rcases d with rfl|z|⟨x,o,z⟩
 .exact lb H.bc
 .simp only[akt,ak3,or_false]at z
  rcases z with rfl|rfl|rfl|rfl
  .exact lb H.al
  .exact lb H.bs
  .exact lb H.ls
  .exact lb H.rs
 .obtain⟨k,c⟩:=anA.mp o
  have hl:=(akd.mp c).1;have A:=H.as k x _ c (akx (by rw[<-H.len];exact hl));rcases z with rfl|rfl
  .exact lb A.bc
  .exact lb A.ls
def dn.ex(H:dn S i p h)(e:h.as[k]? = some a):∃x,p.q[k]? = some x/\dv S x.1 x.2 a:=by
 have hl:k<p.q.length:=by rw[H.len];exact(akd.mp e).1
 exact⟨_,akx hl,H.as k _ a (akx hl) e⟩
def dn.step(H:dn S i p h)(t:p.q[k]? = some x)(N:h.as[k]? = some a)(s:en S S1 x.1 x.2 g' b):hq S S1 i p { p with q:=p.q.set k (x.1,g') } (h.put k b):=by
 have A:=H.as k x a t N;have I:=(akd.mp t).1;have u:=akM t;have keep:∀y o,S[y]? = some o->y≠x.1->y≠x.2->S1[y]? = some o:=λy o e f g=>s.fr y o (by simp[f,g]) e
 have K:∀y xs,y∈[p.a,p.b,p.l,p.r]->S[y]? = some (.l xs)->S1[y]? = some (.l xs):=λy xs F e=>keep y _ e (tu e A.bc (by intro z;cases z)) λz=>H.wh x u (z▸F)
 have br:(p.q.set k (x.1,g')).map (λx=>aF.D.ref x.1)=p.q.map λx=>aF.D.ref x.1:=by
  rw[List.map_set];refine List.ext_getElem? λj=>?_
  by_cases c:k=j
  .subst c
   rw[akE (by rw[akh];exact I),akA,t];rfl
  .rw[akn c]
 have L:g'∉[p.a,p.b,p.l,p.r]:=by
  rcases s.nw with z|z
  .rw[z];exact H.wh x u
  .intro O
   have:=H.lt (.inr (.inl O));omega
 refine⟨⟨keep i _ H.bc (tu H.bc A.bc (by intro z;injection z with z _;exact absurd z (by decide))) (tu H.bc A.ls (by intro z;cases z)),by rw[br];exact K _ _ (by simp) H.al,K _ _ (by simp) H.bs,K _ _ (by simp) H.ls,K _ _ (by simp) H.rs,by rw[akS];unfold cY.put;rw[akS];exact H.len,λj y c d E=>?_,H.nl,λy F=>?_,λj l y z n el ne=>?_⟩,
  λj o M e=>s.fr j o (by
   simp only[akt,ak3,or_false,not_or];exact⟨λz=>M (.inr (.inr ⟨x,u,.inl z⟩)),λz=>M (.inr (.inr ⟨x,u,.inr z⟩))⟩) e,λy F=>?_,s.len⟩
 .have d:(p.q.set k (x.1,g'))[j]? = some y:=d
  have E:(h.as.set k b)[j]? = some c:=E
  by_cases q:k=j
  .subst q
   rw[akE I]at d;rw[akE (akd.mp N).1]at E;cases d;cases E;exact s.at'
  .rw[akn q]at d E
   have B:=H.as j y c d E;obtain⟨f,g⟩:=H.fM j k y x d t (amV q);exact⟨keep _ _ B.bc f (tu B.bc A.ls (by intro z;cases z)),keep _ _ B.ls (tu B.ls A.bc (by intro z;cases z)) g⟩
 .rcases am1 F with z|rfl
  .exact H.wh y z
  .exact L
 .have n:(p.q.set k (x.1,g'))[j]? = some y:=n
  have el:(p.q.set k (x.1,g'))[l]? = some z:=el;have G:∀m w,k≠m->p.q[m]? = some w->x.1≠w.1/\g'≠w.2:=λm w Q P=>by
   obtain⟨f,g⟩:=H.fM k m x w t P Q;refine⟨f,?_⟩;rcases s.nw with z|z
   .rw[z];exact g
   .intro O
    have:=H.lt (.inr (.inr ⟨w,akM P,.inr rfl⟩));omega
  by_cases bb:k=j
  .subst bb
   rw[akE I]at n;rw[akn ne]at el;cases n;exact G l z ne el
  .rw[akn bb]at n
   by_cases ab:k=l
   .subst ab
    rw[akE I]at el;cases el;obtain⟨f,g⟩:=G j y (amV ne) n;exact⟨f.symm,g.symm⟩
   .rw[akn ab]at el
    exact H.fM j l y z n el ne
 .rcases F with z|z|⟨w,hw,z⟩
  .exact .inl (.inl z)
  .exact .inl (.inr (.inl z))
  .rcases am1 hw with v|rfl
   .exact .inl (.inr (.inr ⟨w,v,z⟩))
   .rcases z with z|z
    .exact .inl (.inr (.inr ⟨x,u,.inl z⟩))
    .rcases s.nw with v|v
     .exact .inl (.inr (.inr ⟨x,u,.inr (z.trans v)⟩))
     .exact .inr (by rw[z];exact v)
theorem dn.Fj{h':cY}(H:dn S i p h)(d:c∈[p.b,p.l,p.r])(g:h'.as=h.as)(av:(S.set c o)[p.b]? = some (.l h'.bs))(aE:(S.set c o)[p.l]? = some (.l h'.ls))(cJ:(S.set c o)[p.r]? = some (.l h'.rs)):hq S (S.set c o) i p p h':=by
 have hl:∃xs,S[c]? = some (.l xs):=by
  simp only[akt,ak3,or_false]at d;rcases d with rfl|rfl|rfl
  .exact⟨_,H.bs⟩
  .exact⟨_,H.ls⟩
  .exact⟨_,H.rs⟩
 obtain⟨xs,hl⟩:=hl;have m:c∈[p.a,p.b,p.l,p.r]:=akq _ d;have nb:∀{y:Nat}{cl:Str}{aU:List (Str×aF.D)},S[y]? = some (gd.bc cl aU)->(S.set c o)[y]? = some (gd.bc cl aU):=λe=>by rw[akn (tu hl e (by intro z;cases z))];exact e
 have na:c≠p.a:=λz=>(ale.mp H.nl).1 (z▸d)
 refine⟨⟨nb H.bc,by rw[akn na];exact H.al,av,aE,cJ,by rw[g];exact H.len,λk x a f he=>?_,H.nl,H.wh,H.fM⟩,λj q n e=>?_,λ_ z=>.inl z,by rw[akS];exact akk _⟩
 .rw[g]at he
  have A:=H.as k x a f he;exact⟨nb A.bc,by rw[akn λz:c=x.2=>H.wh x (akM f) (z▸m)];exact A.ls⟩
 .rw[akn λz:c=j=>n (z▸.inr (.inl m))];exact e
def dn.ns(H:dn S i p h):p.b≠p.l/\p.b≠p.r/\p.l≠p.r:=by
 have:=H.nl;simp only[ale,akt,ak3,or_false,not_or]at this;exact⟨this.2.1.1,this.2.1.2,this.2.2.1⟩
def dn.wr(H:dn S i p h)(L:List D):hq S (S.set p.l (.l (h.ls++L))) i p p (h.wr L):=by
 obtain⟨c,e,d⟩:=H.ns;exact H.Fj (by simp) rfl (by rw[akn c.symm];exact H.bs) (get_set H.ls) (by rw[akn d];exact H.rs)
def dn.row(H:dn S i p h)(r:D):hq S (S.set p.r (.l (h.rs++[r]))) i p p (h.row r):=by
 obtain⟨e,c,d⟩:=H.ns;exact H.Fj (by simp) rfl (by rw[akn c.symm];exact H.bs) (by rw[akn d.symm];exact H.ls) (get_set H.rs)
def dn.bk(H:dn S i p h)(j:Nat)(b:D):hq S (S.set p.b (.l (h.bs.set j b))) i p p (h.bk j b):=by
 obtain⟨c,d,e⟩:=H.ns;exact H.Fj (by simp) rfl (get_set H.bs) (by rw[akn c];exact H.ls) (by rw[akn d];exact H.rs)
def D0{f g:R->R->M R}{a b c:bx}{x y w r:R}(ag:aD S (a U) x)(ah:aD S (b U) y)(e:f x y=pure (.v (.ay true)))(d:aD S (c U) w)(aE:g y w=pure r):aD S (fD f g a b c U) r:=
 ag.bind (ah.bind ((aD.of e).bind ((aD.of (m:=R.rG (.v (.ay true))) (a:=true) rfl).bind (d.bind (.of aE)))))
def YP{n N:Nat}{b:aN}{ds xs:List D}(h:ds.length=n)(e:aD S (b (ds.map b8++akW (N-n) .e)) (.cn (.fr xs))):aD S (fnOf n N b ds) (.fr xs):=by
 rw[ye,if_pos h];exact e.bind (.of rfl)
def sM{i:Int}{v:D}(e:d3 xs i=some v):aH (.mv xs) (.v (.int i))=pure (.v v):=by
 show(match d3 xs i with|some d=>pure (R.v d)|none=>bad)=_;rw[e]
def M3{ms:cZ}{a b:Int}(h:aD S (ms U) [.v (.int a),.v (.int b)])(e:sW [.v (.int a),.v (.int b)]=pure (.fr ys)):aD S (uO ms U) (.fr ys):=h.bind (.of e)
theorem agX{mo:bx}{ms:cZ}{xs ys:List D}{r:R}(ag:aD S (mo U) (.v (.ref i)))(ah:aD S (ms U) [r])(c:r.fu=some ys)(h:S[i]? = some (.l xs))(z:xs.length+ys.length<=aki):bH S (nH w5 mo ms U) (.bw U) (S.set i (.l (xs++ys))):=
 ag.to.bind (ah.to.bind ((oo h).to.bind ((aD.to (a:=(R.v .aJ,xs++ys)) (.of (by show(match r.fu with|some ys=>_|none=>_)=_;rw[c];show(hx (xs.length+ys.length<=aki) >>= _)=_;rw[I6 z];rfl))).bind rfl)))
def agY{mo mk:bx}{mv:eV}{xs:List D}{r:R}{d:D}{j:Nat}(c:bH S (mv U) r S1)(e:r.dat=pure d)(ag:aD S1 (mo U) (.v (.ref i)))(ah:aD S1 (mk U) (.v (.int j)))(h:S1[i]? = some (.l xs))(f:j<xs.length):bH S (AL mo mk mv U) (.bw U) (S1.set i (.l (xs.set j d))):=
 c.bind ((aD.of e).to.bind (ag.to.bind (ah.to.bind ((oo h).to.bind (by show bH S1 (if 0<=(j:Int)/\(j:Int)<xs.length then _ else _) _ _;rw[if_pos ⟨by omega,by omega⟩];rfl)))))
def Gj{mf:d2}{mo:bx}{ms:jV}{aU:List (Str×D)}{rs:List R}{r:R}(h:S[i]? = some (.bc c aU))(ag:aD S (mo U) (.v (.ref i)))(d:aU.lookup m=none)(ah:bH S (ms U) rs S1)(ax:rs.all R.iB=true)(e:bH S1 (mf (.ref i::rs.map R.arg)) r aZ):bH S (dZ c m mf mo ms U) r aZ:=ag.to.bind ((oo h).to.bind (by show bH S (if c=c/\aU.lookup m=none then _ else _) _ _;rw[if_pos ⟨rfl,d⟩];exact ah.bind (by rw[if_pos ax];exact e)))
def Gk{m:eV}{r:R}(h:bH S (m U) r S1):bH S (ud m aj U) [r] S1:=h.bind rfl
def k'(H:dn S i p h)(c:I k U=pure (.v (.ref i)))(e:p.aU.lookup f=some d):aD S (bb (bY "House" f) (I k) U) (.v d):=M4 H.bc (.of c) e
def ZX(H:dn S i p h):aD S (jG [.ref i]) (.v (.int h.ls.length)):=j_ rfl (iy (sO rfl (bS (oj H.ls (k' H rfl rfl)) cS)))
def om(H:dn S i p h)(c:I k U=pure (.v (.ref i))):aD S (dk "House" "many" jG (I k) aj U) (.v (.int h.ls.length)):=iw H.bc (.of c) rfl cS (ZX H)
def Ej(H:dn S i p h)(e:h.ls[k]? = some d):aD S (vJ [.ref i,.int k]) (.v d):=by
 have c:=(akd.mp e).1;exact j_ rfl (sP (l5 (j' (ix (cy (eN (rs:=[.v (.int k)]) (.of rfl) (.of (o6 _))))) (ix (cy (D0 (y:=.v (.int k)) (.of rfl) (.of rfl) (by show pure (R.v (.ay (decide ((0:Int)<=k))))=_;rw[decide_eq_true (by omega)]) (om H rfl) (r:=.v (.ay true)) (by show pure (R.v (.ay (decide ((k:Int)<h.ls.length))))=_;rw[decide_eq_true (by omega)]))))) (.of rfl))
  (iy (cE (sM (jW k e)) (oj H.ls (k' H rfl rfl)) (.of rfl))))
def Ri(H:dn S i p h)(e:p.q[k]? = some x):aD S (pW [.ref i,.int k]) (.v (.ref x.1)):=by
 have c:=(akd.mp e).1;exact j_ rfl (sP (l5 (j' (ix (cy (eN (rs:=[.v (.int k)]) (.of rfl) (.of (o6 _))))) (ix (cy (D0 (y:=.v (.int k)) (.of rfl) (.of rfl) (by show pure (R.v (.ay (decide ((0:Int)<=k))))=_;rw[decide_eq_true (by omega)]) (sO rfl (bS (oj H.al (k' H rfl rfl)) cS)) (r:=.v (.ay true)) (by show pure (R.v (.ay (decide ((k:Int)<((p.q.map λx=>aF.D.ref x.1).length:Nat)))))=_;rw[akh,decide_eq_true (by omega)]))))) (.of rfl))
  (iy (cE (sM (jW k (by rw[akA,e];rfl))) (oj H.al (k' H rfl rfl)) (.of rfl))))
def vy(H:dn S i p h)(e:p.q[k]? = some x)(c:I j U=pure (.v (.ref i)))(hl:I l U=pure (.v (.int k))):aD S (dk "House" "asker_of" pW (I j) (aa (I l) aj) U) (.v (.ref x.1)):=iw H.bc (.of c) rfl (bS (.of hl) cS) (Ri H e)
def acN(A:dv S j g a):aD S (Et [.ref j]) (.v a.dE):=j_ rfl (iy (c3 A rfl rfl))
def N'(A:dv S j g a):aD S (zm [.ref j]) (.v (.int a.wi)):=j_ rfl (iy (c3 A rfl rfl))
def FQ(A:dv S j g a):aD S (s9 [.ref j]) (.v (.str a.bW)):=j_ rfl (iy (c3 A rfl rfl))
def adz(A:dv S j g a):aD S (Eu [.ref j]) (.v (.t [.int a.ct,a.h,a.op])):=j_ rfl (iy (oq (bS (c3 A rfl rfl) (bS (c3 A rfl rfl) (bS (c3 A rfl rfl) cS))) rfl (ak5 rfl)))
def Y5(A:dv S j g a):aD S (Er [.ref j]) (.v (.ay a.bM)):=j_ rfl (iy (c3 A rfl rfl))
def vx{mf:bq}{r:R}(A:dv S j g a)(d:I l U=pure (.v (.ref j)))(c:(a.aU g).lookup m=none)(e:aD S (mf [.ref j]) r):aD S (dk "Asker" m mf (I l) aj U) r:=iw A.bc (.of d) c cS e
theorem XX(H:dn S i p h)(e:h.as[k]? = some a):aD S (zr [.ref i,.int k]) (.v (.str a.bW)):=by
 obtain⟨x,ex,A⟩:=H.ex e;exact j_ rfl (iy (iw A.bc (vy H ex rfl rfl) rfl cS (FQ A)))
theorem XW(H:dn S i p h)(e:h.as[k]? = some a):aD S (vK [.ref i,.int k]) (.v (.t [.int a.ct,a.h,a.op])):=by
 obtain⟨x,ex,A⟩:=H.ex e;exact j_ rfl (iy (iw A.bc (vy H ex rfl rfl) rfl cS (adz A)))
theorem XU(H:dn S i p h)(e:h.as[k]? = some a):aD S (zp [.ref i,.int k]) (.v (.ay a.bM)):=by
 obtain⟨x,ex,A⟩:=H.ex e;exact j_ rfl (iy (iw A.bc (vy H ex rfl rfl) rfl cS (Y5 A)))
end
variable{S:bJ}{i k:Nat}{p:hQ}{h:cY}
def Pc(H:dn S i p h):aD S (zq [.ref i]) (.fr h.ls):=YP rfl (y6 (sO rfl (bS (oj H.ls (k' H rfl rfl)) cS)))
def SD(H:dn S i p h)(e:h.bs[k]? = some d):aD S (vH [.ref i,.int k]) (.v d):=j_ rfl (iy (cE (sM (jW k e)) (oj H.bs (k' H rfl rfl)) (.of rfl)))
end dV
namespace dV
open PySem PySem.Spec aB aF i5 gc jk
section
variable{h h':cY}{k:Nat}{a b:bK}{Y:List D}{d:D}
def AJ(h:cY)(L:List D)(hz:h.ls.length+L.length<=1000000):h.Do s_ [.l L] (.fr (dH h.ls.length L.length)) (h.wr L):=λS i p H=>by
 have W:=H.wr L;have g:(1000000:Int)<2 ^ 62:=by decide
 have f:1000000<=2 ^ 24:=by decide
 have c:∀n,n<=1000000->n<=aki:=λn m=>by rw[akB];omega
 have j:sW [.v (.int (h.ls.length:Nat)),.v (.int ((h.wr L).ls.length:Nat))]=pure (.fr (dH h.ls.length L.length)):=by
  have e:(h.wr L).ls.length=h.ls.length+L.length:=akg;rw[La,e,show(((h.ls.length+L.length:Nat):Int)-(h.ls.length:Nat)).toNat=L.length by omega,if_pos ⟨⟨by omega,by omega,by omega,by omega⟩,by omega,c _ (by omega)⟩];rfl
 exact⟨_,p,ue rfl<|df (aD.to (iW (om H rfl) rfl))<|df (agX (k' H rfl rfl) (bS (x:=.bN L) (.of rfl) cS) rfl H.ls (c _ hz))<|aD.to (y6 (M3 (bS (.of rfl) (bS (om W.at' rfl) cS)) j)),W⟩
def Sp(e:h.as[k]? = some a)(g:a.Do s6 [] Y b)(hz:h.ls.length+Y.length<=1000000):h.Do zo [.int k] (.fr (dH h.ls.length Y.length)) ((h.put k b).wr Y):=λS i p H=>by
 obtain⟨x,ex,A⟩:=H.ex e;obtain⟨S1,n,m,l⟩:=g S x.1 x.2 A;have c:=H.step ex e l;obtain⟨f,ck,j,s2⟩:=AJ (h.put k b) Y hz S1 i _ c.at';exact⟨f,ck,ue rfl (xe (Gj (rs:=[.fr Y]) H.bc (.of rfl) rfl (Gk (nI (rs:=[]) A.bc (vy H ex rfl rfl) rfl rfl rfl m)) rfl j)),c.trans s2⟩
def XQ(e:h.as[k]? = some a)(hd:b8 d=.v d)(g:a.Do zk [d] Y b)(hz:h.ls.length+Y.length<=1000000)(r:h.rs.length<=100000) :
  h.Do rg [.int k,d] (.fr (dH h.ls.length Y.length)) (((h.put k b).row (.t [.str "begin",.int k,.int b.wi,d,.int h.ls.length])).wr Y):=λS i p H=>by
 obtain⟨x,ex,A⟩:=H.ex e;obtain⟨S1,s,n,j⟩:=g S x.1 x.2 A;have c:=H.step ex e j;have f:=c.at'.row (.t [.str "begin",.int k,.int b.wi,d,.int h.ls.length]);obtain⟨cK,m,q,s3⟩:=AJ ((h.put k b).row _) Y hz _ i _ f.at';refine⟨cK,m,ue rfl ?_,(c.trans f).trans s3⟩;show bH S (Hj [.v (.ref i),.v (.int k),b8 d,.e,.e]) _ _;rw[hd];refine df (U':=[.v (.ref i),.v (.int k),.v d,.v (.ref x.1),.e]) (aD.to (iW (vy H ex rfl rfl) rfl)) ?_;refine df (U':=[.v (.ref i),.v (.int k),.v d,.v (.ref x.1),.v (.l Y)]) (AP (nI (rs:=[.v d]) A.bc (.of rfl) rfl (aD.to (.of rfl)) rfl n) rfl) ?_;refine df (Gh (k' c.at' rfl rfl) (bS (oq (bS (.of rfl) (bS (.of rfl) (bS (vx j.at' rfl rfl (N' j.at')) (bS (x:=.v d) (.of rfl) (bS (om c.at' rfl) cS))))) rfl (ak5 rfl)) cS) c.at'.rs (by show h.rs.length < _;rw[akB];omega)) ?_;exact xe (nI (rs:=[.v (.l Y)]) f.at'.bc (.of rfl) rfl (aD.to (.of rfl)) rfl q)
theorem afH{w x f b c y e s:D}(l:h.bs[k]? = some b)(g:kH [b,.t [w,x,.int k,e,s,f]]=pure (.v (.t [c,y]))) :
  h.Do vI [.t [w,x,.int k,e,s,f]] (.fr [y]) (h.bk k c):=λS i p H=>
 ⟨_,p,ue rfl<|df (U':=[.v (.ref i),.v (.t [w,x,.int k,e,s,f]),.v (.t [c,y])]) (aD.to (iW (eN (rs:=[.v b,.v (.t [w,x,.int k,e,s,f])]) (bS (cE (sM (jW k l)) (oj H.bs (k' H rfl rfl)) (.of rfl)) (bS (.of rfl) cS)) (.of g)) rfl))<|
  df (agY (j:=k) (aD.to (a:=.v c) (.of rfl)) rfl (k' H rfl rfl) (.of rfl) H.bs (akd.mp l).1) (aD.to (.of rfl)),H.bk k c⟩
def afF{w x f e s:D}(n:h.as[k]? = some a)(ax:a.jU)(F:b.jU)(g:a.Do kb [.t [w,x,.int k,e,s,f]] Y b)(G:h.rs.length<=100000) :
  h.Do rh [.t [w,x,.int k,e,s,f]] (.v (.l Y)) (if(!(a.bW == "calm")&&(b.bW == "calm"))=true then(h.put k b).row (.t [.str "end",.int k,.int b.wi,b.dE,.int h.ls.length])else h.put k b):=λS i p H=>by
 obtain⟨q,ex,A⟩:=H.ex n;obtain⟨S1,K,E,r⟩:=g S q.1 q.2 A;have j:=H.step ex n r;have B:=r.at';have pre:∀{m:bJ},bH S1 (Hl [.v (.ref i),.v (.t [w,x,.int k,e,s,f]),.v (.ref q.1),.v (.str a.bW),.v (.l Y)]) (.cn (.v (.l Y))) m->bH S (rh [.ref i,.t [w,x,.int k,e,s,f]]) (.v (.l Y)) m:=λt=>by
  refine Gi rfl ?_;refine df (U':=[.v (.ref i),.v (.t [w,x,.int k,e,s,f]),.v (.ref q.1),.e,.e]) (aD.to (iW (cE (sM (jW k (by rw[akA,ex];rfl))) (oj H.al (k' H rfl rfl)) (.of rfl)) rfl)) ?_;refine df (U':=[.v (.ref i),.v (.t [w,x,.int k,e,s,f]),.v (.ref q.1),.v (.str a.bW),.e]) (aD.to (iW (vx A rfl rfl (FQ A)) rfl)) ?_;exact df (U':=[.v (.ref i),.v (.t [w,x,.int k,e,s,f]),.v (.ref q.1),.v (.str a.bW),.v (.l Y)]) (AP (nI (rs:=[.v (.t [w,x,.int k,e,s,f])]) A.bc (.of rfl) rfl (aD.to (.of rfl)) rfl E) rfl) t
 have bb:aD S1 (aL (ab dA (I 3) (af (.str "calm"))) [.v (.ref i),.v (.t [w,x,.int k,e,s,f]),.v (.ref q.1),.v (.str a.bW),.v (.l Y)]) (!(a.bW == "calm")):=cy (cE (x8 ax) (.of rfl) (.of rfl));have ab:aD S1 (aL (ab oEq (dk "Asker" "stand" s9 (I 2) aj) (af (.str "calm"))) [.v (.ref i),.v (.t [w,x,.int k,e,s,f]),.v (.ref q.1),.v (.str a.bW),.v (.l Y)]) (b.bW == "calm"):=cy (cE (calm_eq F) (vx B rfl rfl (FQ B)) (.of rfl));have no:(!(a.bW == "calm")&&(b.bW == "calm"))=false->∃m y,bH S (rh [.ref i,.t [w,x,.int k,e,s,f]]) (.v (.l Y)) m/\hq S m i p y (h.put k b):=λz=>by
  refine⟨_,_,pre (df (ql (aD.to (a:=false) ?_) rfl) (aD.to (.of rfl))),j⟩
  cases av:(!(a.bW == "calm"))with
  |false=>rw[av]at bb;exact ni bb|true=>rw[av]at bb z;rw[Bool.true_and]at z;rw[z]at ab;exact jb bb ab
 by_cases c:(!(a.bW == "calm")&&(b.bW == "calm"))=true
 .rw[if_pos c]
  rw[akH]at c;rw[c.1]at bb;rw[c.2]at ab;have u:=j.at'.row (.t [.str "end",.int k,.int b.wi,b.dE,.int h.ls.length]);exact⟨_,_,pre (df (o8 (aD.to (jb bb ab)) (Gh (k' j.at' rfl rfl) (bS (oq (bS (.of rfl) (bS (.of rfl) (bS (vx B rfl rfl (N' B)) (bS (vx B rfl rfl (acN B)) (bS (om j.at' rfl) cS))))) rfl (ak5 rfl)) cS) j.at'.rs (by show h.rs.length < _;rw[akB];omega))) (aD.to (.of rfl))),j.trans u⟩
 .rw[if_neg c]
  exact no (by simpa using c)
def IW{S c:bJ}(H:dn S i p h)(e:h.ls[k]? = some d)(t:bH S (Hk [.v (.ref i),.v (.int k),.v d]) (.cn (.fr Z)) c):bH S (lg [.ref i,.int k]) (.fr Z) c:=
 ue rfl (df (U':=[.v (.ref i),.v (.int k),.v d]) (aD.to (iW (iw H.bc (.of rfl) rfl (bS (x:=.v (.int k)) (.of rfl) cS) (Ej H e)) rfl)) t)
def SH(e:h.ls[k]? = some d)(q:ox [d]=pure (.v (.ay true)))(g:h.Do vI [d] (.fr Y) h')(hl:h'.ls=h.ls)(hz:h.ls.length+Y.length<=1000000):h.Do lg [.int k] (.fr (dH h.ls.length Y.length)) (h'.wr Y):=λS i p H=>by
 obtain⟨S1,p1,l,c⟩:=g S i p H;have w:=AJ h' Y (by rw[hl];exact hz);rw[hl]at w;obtain⟨f,ck,j,s2⟩:=w S1 i p1 c.at';exact⟨f,ck,IW H e (AO (o8 (aD.to (cy (eN (rs:=[.v d]) (.of rfl) (.of q)))) (xe (Gj (rs:=[.fr Y]) H.bc (.of rfl) rfl (Gk (nI (rs:=[.v d]) H.bc (.of rfl) rfl (aD.to (.of rfl)) rfl l)) rfl j)))),c.trans s2⟩
def SG(e:h.ls[k]? = some d)(q:ox [d]=pure (.v (.ay false)))(g:h.Do rh [d] (.v (.l Y)) h')(hl:h'.ls=h.ls)(hz:h.ls.length+Y.length<=1000000):h.Do lg [.int k] (.fr (dH h.ls.length Y.length)) (h'.wr Y):=λS i p H=>by
 obtain⟨S1,p1,m,c⟩:=g S i p H;have w:=AJ h' Y (by rw[hl];exact hz);rw[hl]at w;obtain⟨f,ck,j,s2⟩:=w S1 i p1 c.at';exact⟨f,ck,IW H e (AQ (aD.to (cy (eN (rs:=[.v d]) (.of rfl) (.of q)))) (xe (Gj (rs:=[.v (.l Y)]) H.bc (.of rfl) rfl (Gk (nI (rs:=[.v d]) H.bc (.of rfl) rfl (aD.to (.of rfl)) rfl m)) rfl j))),c.trans s2⟩
end
def p5(n:Nat)(a:D):cY:=⟨(akG n).map λ(i:Nat)=>tv (i:Int) a,akW 6 (.t []),[],[]⟩
def kh(T n:Nat):List (Nat×Nat):=(akG n).map λj=>(T+2*j,T+2*j+1)
def wF(e:(kh T n)[k]? = some x):k<n/\x=(T+2*k,T+2*k+1):=by
 unfold kh at e;rw[akA]at e
 by_cases a:k<n
 .rw[alR a]at e;cases e;exact⟨a,rfl⟩
 .rw[amR (by simpa using a)]at e;cases e
theorem NV(cR:b8 hall=.v hall):∀(n m:Nat)(T:bJ),∃a,bH T (AS (o7 "Asker" sZ (eF (aa (I 0) (aa (I 1) aj)))) [.e,.v hall] ((List.range' m n).map λ(i:Nat)=>D.int (i:Int))) ((kh T.length n).map λx=>.ref x.1) a/\Fr [] T a/\a.length=T.length+2*n/\
  ∀j,j<n->dv a (T.length+2*j) (T.length+2*j+1) (tv ((m+j:Nat):Int) hall)
 |0,m,T=>⟨T,rfl,.refl,rfl,λj f=>absurd f (alJ _)⟩
 |n+1,m,T=>by
  obtain⟨c,l,A,d,k⟩:=Yo T (m:Int) hall cR;obtain⟨g,h,b,p,B⟩:=NV cR n (m+1) c;have mk:bH T (o7 "Asker" sZ (eF (aa (I 0) (aa (I 1) aj))) [.v (.int m),.v hall]) (.v (.ref T.length)) c:=Qh (rs:=[.v (.int m),.v hall]) (.of rfl) rfl l;have eq:kh T.length (n+1)=(T.length,T.length+1)::kh c.length n:=by
   unfold kh;rw[List.range_succ_eq_map,aks,amf,d];refine List.cons_eq_cons.mpr ⟨rfl,anP λj _=>?_⟩;show(T.length+2*(j+1),T.length+2*(j+1)+1)=_;rw[show T.length+2*(j+1)=T.length+2+2*j by omega]
  refine⟨g,?_,k.trans b,by omega,λj f=>?_⟩
  .rw[eq,List.range'_succ]
   exact mk.bind (h.bind rfl)
  .cases j with
   |zero=>exact⟨b _ _ ak3 A.bc,b _ _ ak3 A.ls⟩|succ j=>
    have:=B j (by omega);rw[d,show m+1+j=m+(j+1)by omega,show T.length+2+2*j=T.length+2*(j+1)by omega]at this;exact this
def z4{σ a:bJ}{aU:List (Str×D)}{m:eV}(h:bH σ (m U) (.fr xs) a)(hi:a[i]? = some (.bc "House" aU))(g:I 0 U=pure (.v (.ref i)))(hl:aU.length<1000):∃b,bH σ (dT "House" f (I 0) (lB m) U) (.bw U) b/\b[i]? = some (.bc "House" (h6 f (.ref a.length) aU))/\b[a.length]? = some (.l xs)/\(∀y o,y≠i->a[y]? = some o->b[y]? = some o)/\b.length=a.length+1:=by
 have c:(a++[gd.l xs])[i]? = some (.bc "House" aU):=Fr.app (W:=[]) _ _ ak3 hi;have d:bH σ (lB m U) (.v (.ref a.length)) (a++[gd.l xs]):=bH.bind h (show bH a (do let S <-yx;putN (S++[gd.l xs]);pure (R.v (D.ref S.length))) _ _ from rfl);refine⟨_,x_at d rfl (.of g) c hl,get_set c,?_,λy o j e=>?_,by rw[akS,akg];rfl⟩
 .rw[akn (akR (lb hi)),C5]
 .rw[akn (amV j)]
  exact Fr.app (W:=[]) _ _ ak3 e
def XT(S:bJ){n:Nat}(ag:1<=n)(fZ:n<=6){b:D}(cR:b8 b=.v b)(q:pZ [b]=pure (.v (.ay true))):∃d p,bH (S++[.bc "House" []]) (Ew [.ref S.length,b,.int n]) (.v .aJ) d/\dn d S.length p (p5 n b)/\Fr [] S d/\S.length<=d.length/\∀y,p.has S.length y->S.length<=y:=by
 have V:(S++[gd.bc "House" []])[S.length]? = some (.bc "House" []):=C5;have q9:(S++[gd.bc "House" []]).length=S.length+1:=by rw[akg];rfl
 obtain⟨h,K,N,bE,A⟩:=NV cR n 0 (S++[.bc "House" []]);rw[q9]at K bE A;have bb:bH (S++[gd.bc "House" []]) (xb 1 [1] (h2 (aa (I 2) aj)) (o7 "Asker" sZ (eF (aa (I 0) (aa (I 1) aj)))) [.v (.ref S.length),.v b,.v (.int n)]) (.fr ((kh (S.length+1) n).map λx=>.ref x.1)) h:=by
  have wI:-4611686018427387904<=(n:Int)/\(n:Int)<4611686018427387904:=by omega
  have n3:((List.range' 0 n).map λ(i:Nat)=>D.int (i:Int))=dH 0 n:=by
   rw[<-List.range_eq_range'];exact anP λi _=>by rw[Int.zero_add]
  rw[n3]at K;refine bH.bind (a:=dH 0 n) (aD.to (.of (by simp[wI]))) ?_;rw[if_pos (by rw[oN,akB];omega)];exact K.bind rfl
 obtain⟨G,d5,fq,a2,dW,b6⟩:=z4 (f:="askers") bb (N _ _ ak3 V) rfl (l9 rfl);have fD:aD G (eX 1 [] (h2 (aa (af (.int 6)) aj)) fx (bU aj) [.v (.ref S.length),.v b,.v (.int n)]) (.fr (akW 6 (.t []))):=.of (ya (ds:=dH 0 6) rfl (by rw[oN,akB];omega) rfl);obtain⟨u,t3,Q,eW,P,C⟩:=z4 (f:="books") (m:=dJ (eX 1 [] (h2 (aa (af (.int 6)) aj)) fx (bU aj))) fD.to fq rfl (l9 rfl);obtain⟨L,T,X,iN,H,J⟩:=z4 (σ:=u) (U:=[.v (.ref S.length),.v b,.v (.int n)]) (f:="letters") (m:=dJ (eD aj)) (xs:=[]) rfl Q rfl (l9 rfl);obtain⟨M,w,Y,jq,s,ajL⟩:=z4 (σ:=L) (U:=[.v (.ref S.length),.v b,.v (.int n)]) (f:="rows") (m:=dJ (eD aj)) (xs:=[]) rfl X rfl (l9 rfl);have up:∀y o,y≠S.length->h[y]? = some o->M[y]? = some o:=λy o l e=>s y o l (H y o l (P y o l (dW y o l e)))
 have F:h.length≠S.length:=by omega
 have O:G.length≠S.length:=by omega
 have hI:u.length≠S.length:=by omega
 refine⟨M,⟨h.length,G.length,u.length,L.length,kh (S.length+1) n⟩,xd (U':=[.v (.ref S.length),.v b,.v (.int n)]) rfl ?_,⟨Y,s _ _ F (H _ _ F (P _ _ F a2)),s _ _ O (H _ _ O eW),s _ _ hI iN,jq,?_,λk x a ex g=>?_,?_,λx E=>?_,λj k x y hB iu ne=>?_⟩,λj o bg e=>up j o (by have:=lb e;omega) (N _ _ ak3 (Fr.app (W:=[]) _ _ ak3 e)),by omega,λy Z=>?_⟩
 .show bH _ (Hi [.v (.ref S.length),b8 b,.v (.int n)]) _ _
  rw[cR];refine AR (ix (cy (eN (rs:=[.v b]) (.of rfl) (.of q)))) ?_;refine AR (j' (ix (cy (eN (rs:=[.v (.int n)]) (.of rfl) (.of (o6 _))))) (ix (cy (D0 (y:=.v (.int n)) (.of rfl) (.of rfl) (by show pure (R.v (.ay (decide ((1:Int)<=n))))=_;rw[decide_eq_true (by omega)]) (.of rfl) (r:=.v (.ay true)) (by show pure (R.v (.ay (decide ((n:Int)<=6))))=_;rw[decide_eq_true (by omega)]))))) ?_;exact df d5 (df t3 (df T w))
 .unfold kh p5;simp
 .obtain⟨c,rfl⟩:=wF ex
  have g:((akG n).map λ(i:Nat)=>tv (i:Int) b)[k]? = some a:=g;rw[akA,alR c]at g;cases g;have B:=A k c;rw[amv]at B;exact⟨up _ _ (by show _+1+2*k≠_;omega) B.bc,up _ _ (by show _+1+2*k+1≠_;omega) B.ls⟩
 .simp only[ale,akt,ak3,or_false,not_or,not_false_eq_true,anY,and_true]
  omega
 .obtain⟨k,c⟩:=anA.mp E
  obtain⟨c,rfl⟩:=wF c;simp only[akt,ak3,or_false,not_or];omega
 .obtain⟨_,rfl⟩:=wF hB
  obtain⟨_,rfl⟩:=wF iu;constructor<;>dsimp only<;>omega
 .rcases Z with z|z|⟨x,E,z⟩
  .omega
  .simp only[akt,ak3,or_false]at z
   omega
  .obtain⟨k,c⟩:=anA.mp E
   obtain⟨c,rfl⟩:=wF c;rcases z with z|z<;>rw[z]<;>dsimp only<;>omega
abbrev mO:=ft.κ.toKeyOrd
structure dc where
 cs:r0
 ds:List (Int×D)
 f:Int
 t:D
 aW:D
def dc.D(s:dc):aF.D:=.t [.t (s.cs.map (·.2)),.t (s.ds.map (·.2)),.t [.int s.f,s.t],s.aW]
inductive cH where
 |put (a:List Nat) (n:Int)|add (a:List Nat) (n:Int)|swap (a:List Nat) (o n:Int)|take (g:Int)|renew (g:Int)|free (g:Int)|sure (g:Int) (a:List Nat) (n:Int)|move (h:D)|fin
def cH.D:cH->aF.D
 |.put a n=>.t [.str "put",.str (aY a),.int n]|.add a n=>.t [.str "add",.str (aY a),.int n]|.swap a o n=>.t [.str "swap",.str (aY a),.int o,.int n]|.take g=>.t [.str "take",.int g]|.renew g=>.t [.str "renew",.int g]|.free g=>.t [.str "free",.int g]|.sure g a n=>.t [.str "sure",.int g,.str (aY a),.int n]|.move h=>.t [.str "move",h]|.fin=>.t [.str "end"]
def ez:Option cH->aF.D
 |none=>.aJ|some d=>d.D
def dc.cell(s:dc)(a:List Nat):Int:=k3 (fl (Q:=e5) s.cs a)
def dc.put(s:dc)(a:List Nat)(n:Int):dc:={ s with cs:=kR s.cs a n }
def dc.tn(s:dc)(g i:Int):Bool:=s.f==g&&es s.t (.int i)
def eI(s:dc)(i:Int):cH->dc×aF.D
 |.put a n=>(s.put a n,.int (s.cell a))
 |.add a n=>(s.put a (s.cell a+n),.int (s.cell a+n))
 |.swap a o n=>if s.cell a=o then(s.put a n,.int 1)else(s,.int 0)
 |.take g=>if s.f=g then({ s with f:=g+1,t:=.int i },.t [.int 1,.int (g+1),.int i])else(s,.t [.int 0,.int s.f,s.t])
 |.renew g=>if s.tn g i=true then({ s with f:=g+1,t:=.int i },.t [.int 1,.int (g+1),.int i])else(s,.t [.int 0,.int s.f,s.t])
 |.free g=>if s.tn g i=true then({ s with f:=g+1,t:=.aJ },.t [.int 1,.int (g+1),.aJ])else(s,.t [.int 0,.int s.f,s.t])
 |.sure g a n=>if s.tn g i=true then(s.put a n,.int 1)else(s,.int 0)
 |.move h=>({ s with aW:=h },.int 1)
 |.fin=>({ s with aW:=.str "over" },.int 1)
structure gs(G:aF.D->Prop)(W:List (List Nat))(s:dc):Prop where
 row:∀x∈s.cs,lE x
 rise:kZ e5 s.cs
 nm:∀x∈s.cs,x.1∈W
 num:∀x∈s.ds,qq x
 n0:kZ mO s.ds
 cQ:∀x∈s.ds,0<=x.1/\x.1<6
 eT:s.t=.aJ\/∃i:Int,s.t=.int i
 aW:s.aW=.aJ\/s.aW=.str "over"\/(∃xs,s.aW=.t xs)/\G s.aW
 sa:∀x∈s.ds,aF.Ok 2 x.2
def ji(G:aF.D->Prop)(W:List (List Nat)):cH->Prop
 |.put a _=>lJ a/\a∈W|.add a _=>lJ a/\a∈W|.swap a _ _=>lJ a/\a∈W|.sure _ a _=>lJ a/\a∈W|.move h=>(∃xs,h=.t xs)/\G h|_=>True
def aeD{z:Int}(b:0<=z)(a:z<6):z∈([0,1,2,3,4,5]:List Int):=by
 have e:z=0\/z=1\/z=2\/z=3\/z=4\/z=5:=by omega
 rcases e with e|e|e|e|e|e<;>rw[e]<;>simp
section
variable{G:aF.D->Prop}{W:List (List Nat)}{s:dc}(h:gs G W s)
include h
theorem gs.cl:s.cs.length<=W.length:=by
 have:=alK (l₂:=W) h.rise.nodup λx b=>by
  obtain⟨y,a,rfl⟩:=akK.mp b;exact h.nm y a
 rwa[akh]at this
theorem gs.dl:s.ds.length<=6:=by
 have:=alK (l₂:=([0,1,2,3,4,5]:List Int)) h.n0.nodup λx b=>by
  obtain⟨y,a,rfl⟩:=akK.mp b;exact aeD (h.cQ y a).1 (h.cQ y a).2
 rw[akh]at this;exact this
theorem gs.cg:s.t.b1 63=true:=by rcases h.eT with e|⟨i,e⟩<;>rw[e]<;>rfl
theorem gs.ss:b8 s.aW=.v s.aW:=by rcases h.aW with e|e|⟨⟨xs,e⟩,_⟩<;>rw[e]<;>rfl
theorem acs(b:W.length<63)(i:Int)(hd:ji G W d):e8 [s.D,.int i,d.D]=pure (.v (.t [(eI s i d).1.D,(eI s i d).2])):=by
 have hl:s.cs.length<63:=by have:=h.cl;omega
 have cg:=h.cg;obtain⟨cs,ds,f,t,aW⟩:=s
 cases d with
 |put a n=>exact acI h.row h.rise hl _ _ _ hd.1 n i|add a n=>exact acE h.row h.rise hl _ _ _ hd.1 n i|swap a o n=>
  refine(acL h.row h.rise hl _ _ _ hd.1 n i o).trans ?_;unfold eI dc.cell;dsimp only
  by_cases c:k3 (fl (Q:=e5) cs a)=o
  .rw[if_pos c,if_pos c];rfl
  .rw[if_neg c,if_neg c];rfl
 |take g=>
  refine(acM _ _ _ i f g t).trans ?_;unfold eI;dsimp only
  by_cases c:f=g
  .rw[if_pos c,if_pos c];rfl
  .rw[if_neg c,if_neg c];rfl
 |renew g=>
  refine(acJ _ _ _ i f g t cg).trans ?_;unfold eI dc.tn;dsimp only
  by_cases c:(f==g&&es t (.int i))=true
  .rw[if_pos c,if_pos c];rfl
  .rw[if_neg c,if_neg c];rfl
 |free g=>
  refine(acG _ _ _ i f g t cg).trans ?_;unfold eI dc.tn;dsimp only
  by_cases c:(f==g&&es t (.int i))=true
  .rw[if_pos c,if_pos c];rfl
  .rw[if_neg c,if_neg c];rfl
 |sure g a n=>
  refine(acK h.row h.rise hl _ _ hd.1 n i f g t cg).trans ?_;unfold eI dc.tn;dsimp only
  by_cases c:(f==g&&es t (.int i))=true
  .rw[if_pos c,if_pos c];rfl
  .rw[if_neg c,if_neg c];rfl
 |move z=>
  obtain⟨⟨xs,rfl⟩,_⟩:=hd;exact acH _ _ _ _ i _ rfl
 |fin=>exact acF _ _ _ _ i
end
def dc.last(s:dc)(i:Int):Int:=rm (fl (Q:=mO) s.ds i)
def pG(s:dc)(i n:Int):Option cH->dc
 |none=>s|some d=>if(f5 s.aW)=true/\s.last i<n then{ (eI s i d).1 with ds:=kg (Q:=mO) s.ds (i,.t [.int i,.int n,(eI s i d).2]) }else s
def acq(s:dc)(i:Int)(d:cH):(eI s i d).1.ds=s.ds:=by
 cases d<;>unfold eI<;>first|rfl|(dsimp only;split<;>rfl)
section
variable{G:aF.D->Prop}{W:List (List Nat)}{s:dc}(h:gs G W s)
include h
theorem acz(i:Int)(d:cH):b8 (eI s i d).2=.v (eI s i d).2:=by
 cases d<;>unfold eI<;>first|rfl|(dsimp only;split<;>rfl)
theorem TM(p:W.length<63)(i n:Int)(hd:∀x,d=some x->ji G W x):nq [s.D,.int i,.int n,ez d]=pure (.v (pG s i n d).D):=by
 cases d with
 |none=>exact K4 h.num _ _ _ i n .aJ rfl (.inl rfl)|some d=>
  have hd:=hd d rfl;unfold pG;dsimp only;have qI:∃xs,d.D=.t xs:=by cases d<;>exact⟨_,rfl⟩
  obtain⟨xs,qI⟩:=qI
  by_cases c:(f5 s.aW)=true/\s.last i<n
  .rw[if_pos c]
   have a:=acs h p i hd;have b:=acq s i d;have os:=acz h i d;have g:s.aW=.aJ:=by
    rcases h.aW with e|e|⟨⟨xs,e⟩,_⟩
    .exact e
    .rw[e]at c;cases c.1
    .rw[e]at c;cases c.1
   have r:=h.dl;have k:=h.n0.nodup;have l:=h.num;generalize eI s i d=o at *;obtain⟨⟨j,m,q,t',sh'⟩,v⟩:=o;obtain⟨cs,ds,f,t,aW⟩:=s;dsimp only at b os g a r ⊢;subst b g;show nq [_,_,_,d.D]=_;unfold dc.D at a ⊢;dsimp only at a ⊢;rw[qI]at a ⊢;have av:=TL l (.t (cs.map (·.2))) (.t [.int f,t]) i n xs c.2 (show m.length<63 by omega) k (c':=.t (j.map (·.2))) (le':=.t [.int q,t']) (sh':=sh') (v:=v);exact av a os
  .rw[if_neg c]
   show nq [_,_,_,d.D]=_;rw[qI];refine K4 h.num _ _ _ i n (.t xs) rfl (.inr ⟨⟨_,rfl⟩,?_⟩);rcases h.aW with e|e|⟨⟨zs,e⟩,_⟩
   .refine .inr (.inr ⟨e,?_⟩)
    rw[e]at c;have:¬s.last i<n:=λz=>c ⟨rfl,z⟩
    unfold dc.last at this;omega
   .exact .inl e
   .exact .inr (.inl ⟨zs,e⟩)
end
section
variable{G:aF.D->Prop}{W:List (List Nat)}{s:dc}(h:gs G W s)
include h
theorem gs.put(c:lJ a)(hw:a∈W)(n:Int):gs G W (s.put a n) where
 row:=af9 h.row c n
 rise:=af8 h.rise a n
 nm:=λx b=>by
  have b:x∈kR s.cs a n:=b;unfold kR at b;split at b
  .exact h.nm x ((uX (Q:=e5)).mp b).1
  .rcases(tL (Q:=e5)).mp b with⟨b,_⟩|rfl
   .exact h.nm x b
   .exact hw
 num:=h.num
 n0:=h.n0
 cQ:=h.cQ
 eT:=h.eT
 aW:=h.aW
 sa:=h.sa
theorem gs.lease(f:Int)(a:t=.aJ\/∃i:Int,t=.int i):gs G W { s with f:=f,t:=t }:=⟨h.row,h.rise,h.nm,h.num,h.n0,h.cQ,a,h.aW,h.sa⟩
theorem gs.shut{z:aF.D}(hz:z=.aJ\/z=.str "over"\/(∃xs,z=.t xs)/\G z):gs G W { s with aW:=z }:=⟨h.row,h.rise,h.nm,h.num,h.n0,h.cQ,h.eT,hz,h.sa⟩
theorem acw(i:Int)(hd:ji G W d):gs G W (eI s i d).1:=by
 cases d with
 |put a n=>exact h.put hd.1 hd.2 n|add a n=>exact h.put hd.1 hd.2 _|swap a o n=>
  unfold eI;dsimp only;split
  .exact h.put hd.1 hd.2 n
  .exact h
 |take g=>
  unfold eI;dsimp only;split
  .exact h.lease _ (.inr ⟨_,rfl⟩)
  .exact h
 |renew g=>
  unfold eI;dsimp only;split
  .exact h.lease _ (.inr ⟨_,rfl⟩)
  .exact h
 |free g=>
  unfold eI;dsimp only;split
  .exact h.lease _ (.inl rfl)
  .exact h
 |sure g a n=>
  unfold eI;dsimp only;split
  .exact h.put hd.1 hd.2 n
  .exact h
 |move z=>exact h.shut (.inr (.inr hd))|fin=>exact h.shut (.inr (.inl rfl))
theorem acp(i:Int)(d:cH):aF.Ok 1 (eI s i d).2:=by
 have b:aF.Ok 0 s.t:=by
  rcases h.eT with e|⟨i,e⟩
  .rw[e];exact tE
  .rw[e];exact c7
 cases d with
 |put a n=>exact c7|add a n=>exact c7|swap a o n=>
  unfold eI;dsimp only;split<;>exact c7
 |take g=>
  unfold eI;dsimp only;split
  .exact oI c7 c7 c7
  .exact oI c7 c7 b
 |renew g=>
  unfold eI;dsimp only;split
  .exact oI c7 c7 c7
  .exact oI c7 c7 b
 |free g=>
  unfold eI;dsimp only;split
  .exact oI c7 c7 tE
  .exact oI c7 c7 b
 |sure g a n=>
  unfold eI;dsimp only;split<;>exact c7
 |move z=>exact c7|fin=>exact c7
theorem K3{i:Int}(c:0<=i)(b:i<6)(n:Int)(hd:∀x,d=some x->ji G W x):gs G W (pG s i n d):=by
 cases d with
 |none=>exact h|some d=>
  have o:=acw h i (hd d rfl);unfold pG;dsimp only;split
  .refine⟨o.row,o.rise,o.nm,?_,?_,?_,o.eT,o.aW,?_⟩
   .exact abR h.num i n _
   .exact Fn _ h.n0.nodup
   .intro x a
    rcases(tL (Q:=mO)).mp a with⟨a,_⟩|rfl
    .exact h.cQ x a
    .exact⟨c,b⟩
   .intro x a
    rcases(tL (Q:=mO)).mp a with⟨a,_⟩|rfl
    .exact h.sa x a
    .exact oI c7 c7 (acp h i d)
  .exact h
def dc.dt(s:dc)(i:Int):aF.D:=match fl (Q:=mO) s.ds i with
 |some (.t [_,_,z])=>z|_=>.aJ
def dc.jK(s:dc):Bool:=match s.aW with
 |.str _=>true|_=>false
theorem TK(i:Int):pX [s.D,.int i]=pure (.v (.t [.int i,.int (s.last i),s.dt i])):=by
 have e:=CA (λx a=>(h.num x a).pF) (.t (s.cs.map (·.2))) (.t [.int s.f,s.t]) s.aW i;refine e.trans ?_;unfold dc.last dc.dt
 cases q:fl (Q:=ft.κ.toKeyOrd) s.ds i with
 |none=>rfl|some d=>
  obtain⟨n,z,e⟩:=h.num _ (yy q);have e:d=.t [.int i,.int n,z]:=e;subst e;rfl
omit h in
theorem aeC(s:dc):oA [s.D]=pure (.v s.aW):=by unfold dc.D;simp[oA,B0]
omit h in
theorem MS(s:dc):l_ [s.D]=pure (.v (.ay (!f5 s.aW))):=by
 have:=vu (.t (s.cs.map (·.2))) (.t (s.ds.map (·.2))) (.t [.int s.f,s.t]) s.aW;exact this.trans (zN s.aW)
def dc.ke(s:dc):dc:={ s with aW:=.aJ }
omit h in
theorem acj(s:dc):tl [s.D]=pure (.v s.ke.D):=by
 have:=Gb (.t (s.cs.map (·.2))) (.t (s.ds.map (·.2))) (.t [.int s.f,s.t]) s.aW .aJ rfl;unfold dc.D dc.ke;simp[tl,Ir,this]
theorem gs.ke:gs G W s.ke:=h.shut (.inl rfl)
theorem gs.ok(f:W.length<=1000)(c:∀z,G z->aF.Ok 9 z):aF.Ok 10 s.D:=by
 have d:=h.cl;have hd:=h.dl;refine wo (n:=9) (wx (n:=3) (oJ (n:=2) (by rw[akh];omega) λx b=>?_) (by decide)) (wx (n:=3) (oJ (n:=2) (by rw[akh];omega) λx b=>?_) (by decide)) (wx (n:=1) (mh c7 ?_) (by decide)) ?_
 .obtain⟨y,a,rfl⟩:=akK.mp b
  obtain⟨w,n,_,e⟩:=h.row y a;rw[e];exact wx (n:=1) (mh (hK w.1) c7) (by decide)
 .obtain⟨y,a,rfl⟩:=akK.mp b
  exact h.sa y a
 .rcases h.eT with e|⟨i,e⟩
  .rw[e];exact tE
  .rw[e];exact c7
 .rcases h.aW with e|e|⟨_,g⟩
  .rw[e];exact tE
  .rw[e];exact hK (by decide +kernel)
  .exact c _ g
end
end dV
namespace dV
open PySem PySem.Spec aB aF
def Oz(bk:List dp)(e:Int):vZ [.t (bk.map dG),.int e]=pure (.v (.t [bL (e9 bk e).p1 (e9 bk e).ck,bL (e9 bk e).eo (e9 bk e).dW,(e9 bk e).bh])):=by
 have cut:∀g:dp,oH (.v (dG g)) (some 1) none=pure (.v (.t [bL g.p1 g.ck,bL g.eo g.dW,g.bh])):=λg=>by
  unfold dG;rw[Lb,if_neg (by simp only[akO,alz];decide)];rfl
 have L:=sl (b:=λd U=>zb (U.set 2 (.v d))) dG (λg=>g.e==e) (λg=>.v (.t [bL g.p1 g.ck,bL g.eo g.dW,g.bh])) (λU=>∃s2,U=[.v (.t (bk.map dG)),.v (.int e),s2]) bk [.v (.t (bk.map dG)),.v (.int e),.e] ⟨_,rfl⟩
  (λg U _ ⟨s2,a⟩=>by
   subst a;have ef:aH (.v (dG g)) (.v (.int 0))=pure (.v (.int g.e)):=by unfold dG;simp
   refine⟨λh=>?_,λh=>⟨[.v (.t (bk.map dG)),.v (.int e),.v (dG g)],?_,_,rfl⟩⟩
   .simp only[zb]
    simp[ef,cut,eq_of_beq h]
   .have h':¬g.e=e:=by simpa using h
    simp only[zb];simp[ef,h'])
 simp only[vZ,It,Iu];unfold e9
 cases h:bk.find? (λg=>g.e==e)with
 |some g=>
  have:=L.1 g h;simp[this]
 |none=>
  obtain⟨U',c,s2,rfl⟩:=L.2 h;simp[c,blank,bL]
def Zc(g:dp):fnOf 1 1 (a4 (ab aH (I 0) (af (.int 0)))) [dG g]=pure (.v (.int g.e)):=by
 unfold dG;simp
def Qa{bk:List dp}(g:dp)(f:(bk.map dp.e).Nodup)(hl:bk.length<63)(ax:b8 g.bh=.v g.bh):v3 [.t (bk.map dG),.int g.e,bL g.p1 g.ck,bL g.eo g.dW,g.bh]=pure (.v (.t (oQ (putL bk g)))):=by
 have c:gk (aL (ab dA (ab aH (I 0) (af (.int 0))) (I 1))) (I 0) [.e,.v (.int g.e)] (bk.map dG)=pure ((bk.filter λh=>!(h.e==g.e)).map dG):=
  nY dG (λh=>!(h.e==g.e)) dG bk (λh _=>by
   have ef:aH (.v (dG h)) (.v (.int 0))=pure (.v (.int h.e)):=by unfold dG;simp
   simp[ef]) λh _ _=>by simp
 have j:bk.length<aki:=f7 (by omega);have l:=alY (λh:dp=>!(h.e==g.e)) bk;have i:(bk.filter λh=>!(h.e==g.e)).length<aki:=f7 (by omega);have pl:=OU bk g;have dX:n5 ft (fnOf 1 1 (a4 (ab aH (I 0) (af (.int 0))))) (.mv ((bk.filter λh=>!(h.e==g.e)).map dG++[dG g]))=pure (.fr (oQ (putL bk g))):=
  aeO Zc (by show some _=some _;unfold putL;rw[alI];rfl) (OV f) (by omega)
 have d:dG g=.t [.int g.e,bL g.p1 g.ck,bL g.eo g.dW,g.bh]:=rfl;have k:∀a b,b8 (bL a b)=.v (bL a b):=λ_ _=>rfl
 simp only[v3,B3,IE,IF];rw[d]at dX;simp[k,ax,c,j,i,dX]
def xM(w:Str)(a b e s l:D)(d:D)(c:D)(f:b8 d=.v d)(g:b8 c=.v c):vM [.t [.str w,a,b,e,s,l],d,c]=pure (.v (.t [d,b,a,e,s,c])):=by
 exact hT rfl (jg (by simp[f,g]))
def Xh{bk:List dp}(j:lI bk)(hl:bk.length<63)(m:∀g∈bk,b8 g.bh=.v g.bh)(e b s2:Int)(a k:D)(l:D) :
  kH [.t (bk.map dG),.t [.str "ask",a,k,.int e,bL b s2,l]]=pure (.v (if lexLe [b,s2] [(e9 bk e).p1,(e9 bk e).ck]=true then .t [.t (bk.map dG),.t [.str "late",k,a,.int e,bL b s2,.t [bL (e9 bk e).p1 (e9 bk e).ck]]]
   else .t [.t (oQ (putL bk ⟨e,b,s2,(e9 bk e).eo,(e9 bk e).dW,(e9 bk e).bh⟩)),.t [.str "grant",k,a,.int e,bL b s2,.t [bL (e9 bk e).eo (e9 bk e).dW,(e9 bk e).bh]]])):=by
 have kL:=Oz bk e;have c:b8 (e9 bk e).bh=.v (e9 bk e).bh:=by
  unfold e9
  cases q:bk.find? (λx=>x.e==e)with
  |none=>rfl|some g=>exact m g (find_eq q).2
 generalize e9 bk e=g at kL c ⊢;have n:=Qa (bk:=bk) ⟨e,b,s2,g.eo,g.dW,g.bh⟩ j.nodup hl c;have cut:oH (.v (.t [bL g.p1 g.ck,bL g.eo g.dW,g.bh])) (some 1) none=pure (.v (.t [bL g.eo g.dW,g.bh])):=by
  rw[Lb,if_neg (by simp only[akO,alz];decide)];rfl
 have f:=xM "ask" a k (.int e) (bL b s2) l (.str "late") (.t [bL g.p1 g.ck]) rfl rfl;have i:=xM "ask" a k (.int e) (bL b s2) l (.str "grant") (.t [bL g.eo g.dW,g.bh]) rfl rfl;have br:oEq (.v (.str "ask")) (.v (.str "ask"))=pure (.v (.ay true)):=eq_str (by decide +kernel);have pre:∀{d},HD [.v (.t (bk.map dG)),.v (.t [.str "ask",a,k,.int e,bL b s2,l]),.v (bL b s2),.v (.t [bL g.p1 g.ck,bL g.eo g.dW,g.bh])]=pure (.cn (.v d))->kH [.t (bk.map dG),.t [.str "ask",a,k,.int e,bL b s2,l]]=pure (.v d):=λh=>
  hT rfl (st (iO (fi br rfl rfl)) (jg (call_of rfl (hT rfl (cP rfl (cP (kk (call_of rfl kL)) h))))))
 cases hle:lexLe [b,s2] [g.p1,g.ck]with
 |true=>exact pre (st (congrArg pure hle) (jg (call_of rfl (hT rfl (jg (rH rfl (call_of rfl f)))))))|false=>exact pre (fG (congrArg pure hle) (jg (rH (call_of rfl n) (call_of (cons_of rfl (cons_of rfl (cons_of cut rfl))) i))))
end dV
namespace dV
open PySem PySem.Spec aB aF i5 gc jk
structure g4(h:aF.D):Prop where
 ex:∃ms fa fk,nK h ms fa fk
 no:oEq (.v h) (.v (.str "over"))=pure (.v (.ay false))
 ok:aF.Ok 9 h
structure fe where
 W:List (List Nat)
 na:Nat
 mS:Int->Int->Option cH->Prop
 E:Int->dc->Prop
structure fe.Ok(Γ:fe):Prop where
 w:Γ.W.length<63
 n:Γ.na<=6
 done:∀{e s i n d},gs g4 Γ.W s->Γ.E e s->Γ.mS i n d->Γ.E e (pG s i n d)
 ke:∀{e s},gs g4 Γ.W s->Γ.E e s->(∃xs,s.aW=.t xs)->Γ.E (e+1) s.ke
 hv:∀{e s},Γ.E e s->0<=e/\e<=60
 iC:∀{i n d x},Γ.mS i n d->d=some x->ji g4 Γ.W x
def fe.S(Γ:fe)(e:Int)(w:aF.D):Prop:=∃s,gs g4 Γ.W s/\Γ.E e s/\w=s.D
def dc.slot(s:dc):b8 s.D=.v s.D:=rfl
def P4(d:Option cH):b8 (ez d)=.v (ez d):=by
 cases d with
 |none=>rfl|some d=>cases d<;>rfl
structure fA(Γ:fe)(a:bK)(k:Nat):Prop where
 me:a.me=k
 lt:k < Γ.na
 bW:a.jU
 hl:g4 a.h
 op:Γ.S a.ct a.op
 dC:∃d,a.dC=ez d/\(a.bW≠"calm"->Γ.mS k a.wi d)
 bZ:a.bW="asking"->(∀g∈a.bZ,g.k<6/\(g.s=(0,0)\/Γ.S a.ct g.w)/\b8 g.w=.v g.w)/\(a.bZ.map (·.k)).Nodup
 dN:a.bW="telling"->Γ.S a.ct a.dN
inductive iK(Γ:fe):aF.D->Prop
 |ask {me k:Nat}{e:Int}{s:d1}(ag:me < Γ.na) (ah:k<6) (bD:0<=e/\e<=60):iK Γ (kr me e s k)
 |tell {me k:Nat}{e:Int}{s p:d1}{n:Int}{d:Option cH}{w:aF.D}(ag:me < Γ.na) (ah:k<6) (bD:Γ.S e w) (cM:∀x,d=some x->ji g4 Γ.W x):iK Γ (qb me e s (.t [dM p,.int n,ez d,w]) k)
 |grant {k a:Nat}{e:Int}{s kp:d1}{w:aF.D}(ag:a < Γ.na) (ah:k<6) (bD:kp=(0,0)\/Γ.S e w) (cM:b8 w=.v w) (eK:aF.Ok 10 w):iK Γ (jw k a e s kp w)
 |kept {k a:Nat}{e:Int}{s:d1}(ag:a < Γ.na) (ah:k<6):iK Γ (gY k a e s)
 |late {k a:Nat}{e:Int}{s p:d1}(ag:a < Γ.na) (ah:k<6):iK Γ (sT k a e s p)
def xr(k:Nat)(y:aF.D):Prop:=(∃e s j,y=kr k e s j)\/∃e s l j,y=qb k e s l j
structure lK(Γ:fe)(k:Nat)(Y:List aF.D):Prop where
 ok:∀y∈Y,iK Γ y
 fr:∀y∈Y,xr k y
 len:Y.length<=6
def lK.nil:lK Γ k []:=⟨by simp,by simp,by simp⟩
section
variable{Γ:fe}(O:Γ.Ok){a:bK}{k:Nat}(h:fA Γ a k)
include O h
theorem Gd{ms:List Nat}{e:Int}{s:d1}(H:nK cR ms fa fk)(he:0<=e/\e<=60):lK Γ k (ms.map (kr a.me e s)):=by
 rw[h.me];refine⟨λy b=>?_,λy b=>?_,by rw[akh];exact H.len⟩
 .obtain⟨j,c,rfl⟩:=akK.mp b
  exact .ask h.lt (H.lt j c) he
 .obtain⟨j,c,rfl⟩:=akK.mp b
  exact .inl ⟨_,_,_,rfl⟩
theorem G1(b:∃d,a.dC=ez d/\Γ.mS k a.wi d):fA Γ a.asks k where
 me:=h.me
 lt:=h.lt
 bW:=.inr (.inl rfl)
 hl:=h.hl
 op:=h.op
 dC:=by obtain⟨d,av,aE⟩:=b;exact⟨d,av,λ_=>aE⟩
 bZ:=λ_=>⟨λg c=>(nomatch c),anY⟩
 dN:=λz=>by cases z
theorem Sq:∃Y b,a.Do s6 [] Y b/\fA Γ b k/\lK Γ k Y/\b.wi=a.wi:=by
 obtain⟨ms,fa,fk,H⟩:=h.hl.ex
 by_cases c:a.bW="calm"
 .exact⟨_,a,So c,h,.nil,rfl⟩
 .obtain⟨d,av,aE⟩:=h.dC
  obtain⟨s,_,s2,_⟩:=h.op;exact⟨_,_,Sr H.mem H.len h.bW c,G1 O h ⟨d,av,aE c⟩,Gd O h H (O.hv s2),rfl⟩
theorem Ze(r:Int):fA Γ (a.ze r) k:=⟨h.me,h.lt,h.bW,h.hl,h.op,h.dC,h.bZ,h.dN⟩
end
def r8:¬("calm":Str)="asking":=by decide
def r9:¬("calm":Str)="telling":=by decide
def afC:¬("telling":Str)="asking":=by decide
def Sw{a:List Nat}(b:∀k∈a,k<6)(c:j<6):cB (maskOf a) j=a.contains j:=by
 rw[zE a b];exact zJ _ j c
def SI(p:ff):∀(ps:List ff),jt p ps∈p::ps:=by
 have key:∀(ps:List ff)(b:ff),jt b ps=b\/jt b ps∈ps:=by
  intro ps
  induction ps with
  |nil=>intro b;exact .inl rfl|cons q ps a=>
   intro b;have e:jt b (q::ps)=jt (v_ b q) ps:=rfl;rw[e];rcases a (v_ b q)with z|z
   .rw[z]
    unfold v_;split
    .exact .inr akw
    .exact .inl rfl
   .exact .inr (akq _ z)
 intro ps;rcases key ps p with z|z
 .rw[z];exact akw
 .exact akq _ z
section
variable{Γ:fe}(O:Γ.Ok){a:bK}{k:Nat}(h:fA Γ a k)
include O h
theorem UY(H:nK a.h ms fa fk)(c:a.bW="asking")(R:a.bZ=p::ps){s2:d1}(hw:Γ.S a.ct w) :
  ∃Y b,a.Do s7 [.t [dM s2,w]] Y b/\fA Γ b k/\lK Γ k Y/\b.wi=a.wi:=by
 obtain⟨s,m,K,rfl⟩:=hw;obtain⟨d,l,f⟩:=h.dC;have Q:a.bW≠"calm":=by rw[c];decide
 have f:=f Q;have G:=h.bZ c;have V:a.bZ.length<=6:=by
  have:=alK (l₂:=akG 6) G.2 λx e=>by
   obtain⟨g,F,rfl⟩:=akK.mp e;exact akZ.mpr (G.1 g F).1
  rw[akh,alu]at this;exact this
 have r:a.xG s.D (!!f5 s.aW&&(a.bZ.all λg=>decide (g.s=p.s))&&fk (maskOf (a.bZ.map (·.k)))):=λS i g A=>aey H A R (λg F=>(G.1 g F).1) (by omega) s.slot (MS s)
 generalize T:(!!f5 s.aW&&(a.bZ.all λg=>decide (g.s=p.s))&&fk (maskOf (a.bZ.map (·.k))))=b at r
 by_cases q:d=none/\b=true
 .obtain⟨rfl,rfl⟩:=q
  refine⟨_,_,UZ l r,?_,.nil,rfl⟩;exact⟨h.me,h.lt,.inl rfl,h.hl,h.op,⟨none,l,λz=>absurd rfl z⟩,(λz=>absurd z r8),(λz=>absurd z r9)⟩
 .have P:=TM m O.w a.me a.wi (d:=d) λx e=>O.iC f e
  have hd:f5 a.dC=false\/a.xG s.D false:=by
   cases d with
   |some x=>left;rw[l];cases x<;>rfl
   |none=>
    right;have:b=false:=by cases b with|false=>rfl|true=>exact absurd ⟨rfl,rfl⟩ q
    rw[this]at r;exact r
  have M:=l;refine⟨_,_,U0 H.mem H.len hd (by rw[l];exact P),?_,?_,rfl⟩
  .have N:=h.lt
   have L:=O.n;have ok:=K3 m (i:=a.me) (by rw[h.me];omega) (by rw[h.me];omega) a.wi (d:=d) λx e=>O.iC f e
   have u:Γ.E a.ct (pG s a.me a.wi d):=O.done m K (by rw[h.me];exact f);exact⟨h.me,h.lt,.inr (.inr rfl),h.hl,h.op,⟨d,l,λ_=>f⟩,(λz=>absurd z afC),λ_=>⟨_,ok,u,rfl⟩⟩
  .have N:=h.lt
   have L:=O.n;have ok:=K3 m (i:=a.me) (by rw[h.me];omega) (by rw[h.me];omega) a.wi (d:=d) λx e=>O.iC f e
   have u:Γ.E a.ct (pG s a.me a.wi d):=O.done m K (by rw[h.me];exact f);refine⟨λy B=>?_,λy B=>?_,by rw[akh];exact H.len⟩
   .obtain⟨j,I,rfl⟩:=akK.mp B
    rw[h.me,l];rw[h.me]at ok u;exact .tell h.lt (H.lt j I) ⟨_,ok,u,rfl⟩ λx e=>O.iC f e
   .obtain⟨j,I,rfl⟩:=akK.mp B
    rw[h.me];exact .inr ⟨_,_,_,_,rfl⟩
end
section
variable{Γ:fe}(O:Γ.Ok){a:bK}{k:Nat}(h:fA Γ a k)
include O h
theorem W9{e:Int}{s kp:d1}(i:j<6)(A:kp=(0,0)\/Γ.S e w)(hw:b8 w=.v w) :
  ∃Y b,a.Do kb [jw j k e s kp w] Y b/\fA Γ b k/\lK Γ k Y/\b.wi=a.wi:=by
 rw[<-h.me];obtain⟨ms,fa,fk,H⟩:=h.hl.ex
 cases q:a.now ms j e s with
 |false=>exact⟨_,a,Mj H (.str "grant") (.t [dM kp,w]) C7 q,h,.nil,rfl⟩|true=>
  by_cases c:a.bW="asking"
  .have l:=h.bZ c
   have k5:∀g∈a.bZ,g.k<6:=λg d=>(l.1 g d).1
   have E:a.bZ.length<=6:=by
    have:=alK (l₂:=akG 6) l.2 λx f=>by
     obtain⟨g,d,rfl⟩:=akK.mp f;exact akZ.mpr (k5 g d)
    rw[akh,alu]at this;exact this
   have D:∀x∈a.bZ.map (·.k),x<6:=λx f=>by
    obtain⟨g,d,rfl⟩:=akK.mp f;exact k5 g d
   cases bP:cB (maskOf (a.bZ.map (·.k))) j with
   | true=>exact⟨_,a,Dj H h.bW q c (W' k5 (by omega) bP),h,.nil,rfl⟩|false=>
    have n:j∉a.bZ.map (·.k):=λz=>by
     rw[Sw D i,List.contains_iff_mem.mpr z]at bP;cases bP
    have he:e=a.ct:=by
     unfold bK.now at q;rw[akH,akH]at q;exact of_decide_eq_true q.1.1
    have r:fA Γ (a.got j kp w) k:=by
     refine⟨h.me,h.lt,h.bW,h.hl,h.op,h.dC,λz=>⟨λg d=>?_,?_⟩,h.dN⟩
     .rcases alc.mp d with d|d
      .exact l.1 g d
      .rw[akF]at d
       subst d;subst he;exact⟨i,A,hw⟩
     .unfold bK.got
      dsimp only;rw[alI];refine anb.mpr ⟨l.2,by simp,λx f y m=>?_⟩;have m:y=j:=by simpa using m
      subst m;rintro rfl;exact n f
    cases o:fa (maskOf ((a.got j kp w).bZ.map (·.k)))with
    | false=>exact⟨_,_,Dj H h.bW q c (W7 H k5 (by omega) i bP o),r,.nil,rfl⟩|true=>
     have ne:(a.got j kp w).bZ≠[]:=by unfold bK.got;simp
     obtain⟨p,ps,u⟩:=List.exists_cons_of_ne_nil ne;have bm:=SI p ps;rw[<-u]at bm;have B:Γ.S (a.got j kp w).ct (if(jt p ps).s=(0,0)then a.op else(jt p ps).w):=by
      split
      .exact h.op
      .rename_i z
       exact((r.bZ c).1 _ bm).2.1.resolve_left z
     obtain⟨Y,b,av,aE,cJ,eJ⟩:=UY O r (ms:=ms) (fa:=fa) (fk:=fk) H c u (s2:=(jt p ps).s) B;obtain⟨dX,_,_,lS⟩:=h.op;exact⟨Y,b,Dj H h.bW q c (W_ H k5 (by omega) i u (by rw[lS];rfl) bP o av),aE,cJ,eJ⟩
  .exact⟨_,a,W8 H h.bW q c,h,.nil,rfl⟩
end
def acO:oEq (.v (.str "over")) (.v (.str "over"))=pure (.v (.ay true)):=by rw[hO (by decide +kernel) (by decide +kernel),beq_self_eq_true]
def Zt(a:bK):a.q_.wi=a.wi:=by unfold bK.q_;split<;>rfl
def afK{Γ:fe}{s:dc}(h:gs g4 Γ.W s)(i:Int):Told s.D i (s.last i) (s.dt i) s.aW s.jK:=by
 refine⟨⟨_,TK h i⟩,aeC s,MS s,?_,h.ss⟩;unfold dc.jK;rcases h.aW with e|e|⟨⟨xs,e⟩,g⟩
 .rw[e,qL (x:=.v .aJ) (y:=.v (.str "over")) rfl (by decide +kernel)];rfl
 .rw[e];exact acO
 .have:=g.no
  rw[e]at this ⊢;exact this
section
variable{Γ:fe}(O:Γ.Ok){a:bK}{k:Nat}(h:fA Γ a k)
include O h
theorem Y7(j:Nat):fA Γ (a.gK j) k:=⟨h.me,h.lt,h.bW,h.hl,h.op,h.dC,h.bZ,h.dN⟩
theorem TS(o:aF.D):fA Γ (a.ends o) k:=by
 obtain⟨d,b,_⟩:=h.dC;exact⟨h.me,h.lt,.inl rfl,h.hl,h.op,⟨d,b,λz=>absurd rfl z⟩,(λz=>absurd z r8),(λz=>absurd z r9)⟩
theorem TV(n:Int)(dt aW:aF.D)(bM:Bool):fA Γ (a.gx n dt aW bM) k:=by
 rcases uY a n dt aW bM with⟨o,e⟩|e<;>rw[e]
 .exact TS O h o
 .exact h
theorem Zr:fA Γ a.q_ k:=by
 unfold bK.q_;split
 .exact⟨h.me,h.lt,h.bW,h.hl,h.op,h.dC,h.bZ,h.dN⟩
 .obtain⟨d,b,_⟩:=h.dC
  exact⟨h.me,h.lt,.inl rfl,h.hl,h.op,⟨d,b,λz=>absurd rfl z⟩,(λz=>absurd z r8),(λz=>absurd z r9)⟩
theorem Xc{e:Int}{s:d1}(l:j<6) :
  ∃Y b,a.Do kb [gY j k e s] Y b/\fA Γ b k/\lK Γ k Y/\b.wi=a.wi:=by
 rw[<-h.me];obtain⟨ms,fa,fk,H⟩:=h.hl.ex
 cases q:a.now ms j e s with
 |false=>exact⟨_,a,Mj H (.str "kept") (.t []) D8 q,h,.nil,rfl⟩|true=>
  by_cases c:a.bW="telling"
  .obtain⟨bh,i,B,E⟩:=h.dN c
   have T:Told a.dN a.me (bh.last a.me) (bh.dt a.me) bh.aW bh.jK:=by rw[E];exact afK i a.me
   have x:=Y7 O h j;have f:=TV O x (bh.last a.me) (bh.dt a.me) bh.aW bh.jK
   cases bP:fk (a.nj ||| maskOf [j])with
   |false=>exact⟨_,_,vh H h.bW q c (Xa H l bP),x,.nil,rfl⟩|true=>
    cases o:f5 bh.aW with
    |true=>exact⟨_,_,vh H h.bW q c (Xd H l T bP o),f,.nil,CG _ _ _ _ _⟩|false=>
     cases C:bh.jK with
     |true=>
      refine⟨_,_,vh H h.bW q c (Xe H l T bP o h.bW C),?_,.nil,(Zt _).trans (CG _ _ _ _ _)⟩;exact Zr O f
     |false=>
      have m:(∃xs,bh.aW=.t xs)/\g4 bh.aW:=by
       rcases i.aW with e|e|e
       .rw[e]at o;cases o
       .unfold dc.jK at C;rw[e]at C;cases C
       .exact e
      obtain⟨N,I,K,H'⟩:=m.2.ex;have F:((a.gK j).gx (bh.last a.me) (bh.dt a.me) bh.aW bh.jK).dN=bh.D:=(Li _ _ _ _ _).trans E;have w:tl [((a.gK j).gx (bh.last a.me) (bh.dt a.me) bh.aW bh.jK).dN]=pure (.v bh.ke.D):=by rw[F];exact acj bh
      have p:((a.gK j).gx (bh.last a.me) (bh.dt a.me) bh.aW bh.jK).ct=a.ct:=TU _ _ _ _ _;have u:Γ.S (((a.gK j).gx (bh.last a.me) (bh.dt a.me) bh.aW bh.jK).ct+1) bh.ke.D:=by rw[p];exact⟨_,i.ke,O.ke i B m.1,rfl⟩
      have P:fA Γ (((a.gK j).gx (bh.last a.me) (bh.dt a.me) bh.aW bh.jK)) k:=f;have r:((a.gK j).gx (bh.last a.me) (bh.dt a.me) bh.aW bh.jK).wi=a.wi:=CG _ _ _ _ _;generalize y:(a.gK j).gx (bh.last a.me) (bh.dt a.me) bh.aW bh.jK=A at *
      by_cases ab:A.bW="calm"
      .have g:=U1 f.bW i.ss w ab
       have lo:((a.gK j).gx (bh.last a.me) (bh.dt a.me) bh.aW bh.jK).Do rd [bh.aW] [] (A.over bh.aW bh.ke.D):=by rw[y];exact g
       refine⟨_,_,vh H h.bW q c (Mi H l T bP o C lo),?_,.nil,r⟩;obtain⟨d,n,_⟩:=f.dC;refine⟨f.me,f.lt,f.bW,m.2,u,⟨d,n,λz=>absurd ab z⟩,λz=>?_,λz=>?_⟩
       .have z:A.bW="asking":=z
        rw[ab]at z;exact absurd z r8
       .have z:A.bW="telling":=z
        rw[ab]at z;exact absurd z r9
      .have g:=U2 f.bW i.ss w ab H'.mem H'.len
       have lo:((a.gK j).gx (bh.last a.me) (bh.dt a.me) bh.aW bh.jK).Do rd [bh.aW] (N.map (kr A.me (A.ct+1) (A.c_+1,A.me))) (A.over bh.aW bh.ke.D).asks:=by rw[y];exact g
       obtain⟨d,n,L⟩:=f.dC;have M:=O.hv (O.ke i B m.1);refine⟨_,_,vh H h.bW q c (Mi H l T bP o C lo),?_,Gd O f H' (by rw[p];exact M),r⟩;exact⟨f.me,f.lt,.inr (.inl rfl),m.2,u,⟨d,n,λ_=>L ab⟩,λ_=>⟨λg G=>(nomatch G),anY⟩,λz=>by cases z⟩
  .exact⟨_,a,Xb H h.bW q c,h,.nil,rfl⟩
theorem Xg{e:Int}{s p:d1}:∃Y b,a.Do kb [sT j k e s p] Y b/\fA Γ b k/\lK Γ k Y/\b.wi=a.wi:=by
 rw[<-h.me];exact⟨_,_,Xf p,Ze O h p.1,.nil,rfl⟩
end
end dV
namespace dV
open PySem PySem.Spec aB aF
def afB:oEq (.v (.str "tell")) (.v (.str "ask"))=pure (.v (.ay false)):=by
 have a:aku "tell"=true:=by decide +kernel
 have b:aku "ask"=true:=by decide +kernel
 have c:(("tell":Str) == "ask")=false:=by decide +kernel
 rw[qL (x:=.v (.str "tell")) (y:=.v (.str "ask")) a b];show pure (R.v (D.ay (("tell":Str) == "ask")))=_;rw[c]
def Xj{bk:List dp}(m:lI bk)(hl:bk.length<63)(e b s2:Int)(a k i f c x:D)(n:b8 x=.v x) :
  kH [.t (bk.map dG),.t [.str "tell",a,k,.int e,bL b s2,.t [i,f,c,x]]]=pure (.v (if aB.lexLt [b,s2] [(e9 bk e).p1,(e9 bk e).ck]=true then .t [.t (bk.map dG),.t [.str "late",k,a,.int e,bL b s2,.t [bL (e9 bk e).p1 (e9 bk e).ck]]]
   else .t [.t (oQ (putL bk ⟨e,b,s2,b,s2,x⟩)),.t [.str "kept",k,a,.int e,bL b s2,.t []]])):=by
 have kL:=Oz bk e;generalize e9 bk e=g at kL ⊢;have p:=Qa (bk:=bk) ⟨e,b,s2,b,s2,x⟩ m.nodup hl n;have j:=xM "tell" a k (.int e) (bL b s2) (.t [i,f,c,x]) (.str "late") (.t [bL g.p1 g.ck]) rfl rfl;have l:=xM "tell" a k (.int e) (bL b s2) (.t [i,f,c,x]) (.str "kept") (.t []) rfl rfl;have pre:∀{d},HE [.v (.t (bk.map dG)),.v (.t [.str "tell",a,k,.int e,bL b s2,.t [i,f,c,x]]),.v (bL b s2),.v (bL g.p1 g.ck)]=pure (.cn (.v d))->kH [.t (bk.map dG),.t [.str "tell",a,k,.int e,bL b s2,.t [i,f,c,x]]]=pure (.v d):=λh=>
  hT rfl (fG (iO (fi afB rfl rfl)) (jg (call_of rfl (hT rfl (cP rfl (cP (kk (fi rfl (call_of rfl kL) rfl)) h))))))
 cases hle:aB.lexLt [b,s2] [g.p1,g.ck]with
 |true=>exact pre (st (congrArg pure hle) (jg (call_of rfl (hT rfl (jg (rH rfl (call_of rfl j)))))))|false=>exact pre (fG (congrArg pure hle) (jg (rH (call_of rfl p) (call_of rfl l))))
end dV
namespace dV
open PySem PySem.Spec aB aF i5 gc jk
structure rY(Γ:fe)(g:dp):Prop where
 e:0<=g.e/\g.e<=60
 s:(g.eo,g.dW)=((0,0):d1)\/Γ.S g.e g.bh
 bh:b8 g.bh=.v g.bh
 ok:aF.Ok 10 g.bh
def nJ(Γ:fe)(b:aF.D):Prop:=∃bk:List dp,b=.t (bk.map dG)/\lI bk/\∀g∈bk,rY Γ g
def IQ{bk:List dp}(a:lI bk)(h:∀g∈bk,rY Γ g):bk.length<63:=by
 have:=alK (l₂:=(akG 61).map λ(i:Nat)=>(i:Int)) a.nodup λx c=>by
  obtain⟨g,b,rfl⟩:=akK.mp c;have:=(h g b).e;exact akK.mpr ⟨g.e.toNat,akZ.mpr (by omega),by omega⟩
 rw[akh,akh,alu]at this;omega
def acS{bk:List dp}(h:∀g∈bk,rY Γ g){e:Int}(he:0<=e/\e<=60):rY Γ (e9 bk e):=by
 unfold e9
 cases q:bk.find? (λx=>x.e==e)with
 |none=>exact⟨he,.inl rfl,rfl,tE⟩|some g=>exact h g (find_eq q).2
def OX{bk:List dp}(a:lI bk)(h:∀g∈bk,rY Γ g)(b:rY Γ g):nJ Γ (.t (oQ (putL bk g))):=by
 obtain⟨i,e,d,f,_⟩:=adS a g;refine⟨i,by rw[d],e,λx c=>?_⟩;rcases adR ((f x).mp c)with z|rfl
 .exact h x z
 .exact b
def Xi(O:Γ.Ok)(I:nJ Γ b){e:Int}{s:d1}(M:iK Γ L)(x:L=kr me e s j\/∃l,L=qb me e s l j) :
  ∃B y,kH [b,L]=pure (.v (.t [B,y]))/\nJ Γ B/\iK Γ y:=by
 obtain⟨bk,rfl,f,h⟩:=I;have hl:=IQ f h
 cases M with
 |@ask u r c a k m A=>
  have i:=acS h A;have E:=Oy bk c;have eq:=Xh f hl (λg H=>(h g H).bh) c a.1 a.2 (.int u) (a_ r) (.t []);have eq:kH [.t (bk.map dG),kr u c a r]=_:=eq;generalize e9 bk c=g at *
  cases q:lexLe [a.1,a.2] [g.p1,g.ck]with
  |true=>
   rw[if_pos q]at eq;exact⟨_,_,eq,⟨bk,rfl,f,h⟩,.late (p:=(g.p1,g.ck)) k m⟩
  |false=>
   rw[if_neg (by rw[q];decide)]at eq;subst E;exact⟨_,_,eq,OX f h ⟨i.e,i.s,i.bh,i.ok⟩,.grant (kp:=(g.eo,g.dW)) k m i.s i.bh i.ok⟩
 |@tell u r c a p n d w k m A N=>
  obtain⟨bh,G,F,rfl⟩:=A;have K:=O.hv F;have E:=Oy bk c;have eq:=Xj f hl c a.1 a.2 (.int u) (a_ r) (dM p) (.int n) (ez d) bh.D rfl;have eq:kH [.t (bk.map dG),qb u c a (.t [dM p,.int n,ez d,bh.D]) r]=_:=eq;generalize e9 bk c=g at *
  cases q:aB.lexLt [a.1,a.2] [g.p1,g.ck]with
  |true=>
   rw[if_pos q]at eq;exact⟨_,_,eq,⟨bk,rfl,f,h⟩,.late (p:=(g.p1,g.ck)) k m⟩
  |false=>
   rw[if_neg (by rw[q];decide)]at eq;exact⟨_,_,eq,OX f h ⟨K,.inr ⟨bh,G,F,rfl⟩,rfl,G.ok (by have:=O.w;omega) λz hz=>hz.ok⟩,.kept k m⟩
 |grant _ _ _ _ _=>rcases x with z|⟨l,z⟩<;>exact absurd z (by unfold jw;intro z;injection z with z;injection z with z _;injection z with z;exact absurd z (by decide))
 |kept _ _=>rcases x with z|⟨l,z⟩<;>exact absurd z (by unfold gY;intro z;injection z with z;injection z with z _;injection z with z;exact absurd z (by decide))
 |late _ _=>rcases x with z|⟨l,z⟩<;>exact absurd z (by unfold sT;intro z;injection z with z;injection z with z _;injection z with z;exact absurd z (by decide))
def Yn(w:Str)(hw:aku w=true):kK false (.v (.str w)) (.v (.t [.str "ask",.str "tell"]))=pure (.v (.ay (w == "ask" || w == "tell"))):=by
 have fa:([D.str "ask",D.str "tell"]).all D.flat=true:=by decide +kernel
 have b:(D.str w).flat=true:=by simpa[D.flat]using hw
 show(if(D.str w).flat=true/\([D.str "ask",D.str "tell"]).all D.flat=true then pure (R.v (D.ay (if false=true then !inD (D.str w) [D.str "ask",D.str "tell"]else inD (D.str w) [D.str "ask",D.str "tell"])))else bad)=_;rw[if_pos ⟨b,fa⟩,if_neg akl]
 congr 3
 show(es (D.str "ask") (D.str w)||(es (D.str "tell") (D.str w)||false))=_;rw[Bool.or_false,show es (D.str "ask") (D.str w)=(("ask":Str)==w)from rfl,show es (D.str "tell") (D.str w)=(("tell":Str)==w)from rfl,BEq.comm (a:=("ask":Str)),BEq.comm (a:=("tell":Str))]
def U3(w:Str)(hw:aku w=true)(ds:List aF.D):ox [.t (.str w::ds)]=pure (.v (.ay (w == "ask" || w == "tell"))):=by
 have e:=Yn w hw;have a:d3 (D.str w::ds) 0=some (.str w):=mV _ _;simp only[ox,HA];generalize kK=F at *;simp[e,a]
structure d8(Γ:fe)(h:cY):Prop where
 na:h.as.length=Γ.na
 as:∀(k:Nat)(a:bK),h.as[k]? = some a->fA Γ a k
 nb:h.bs.length=6
 bs:∀b∈h.bs,nJ Γ b
 ls:∀l∈h.ls,iK Γ l
def abZ:aku "ask"=true:=by decide +kernel
def ab0:aku "tell"=true:=by decide +kernel
def cY.il(h h':cY):Prop:=∀i:Nat,(h'.as[i]?).map bK.wi=(h.as[i]?).map bK.wi
def Fo{h:cY}{a b:bK}(d:h.as[k]? = some a)(e:b.wi=a.wi):h.il (h.put k b):=λi=>by
 unfold cY.put;dsimp only
 by_cases c:k=i
 .subst c
  rw[akE (akd.mp d).1,d];exact congrArg some e
 .rw[akn c]
inductive uk(h:cY)(L:aF.D)(Y:List aF.D)(h':cY):Prop
 |keeper {me j:Nat}{e:Int}{s:d1}{b dR y:aF.D}(gH:L=kr me e s j\/∃l,L=qb me e s l j) (bg:j<6) (cL:h.bs[j]? = some b) (g:kH [b,L]=pure (.v (.t [dR,y]))) (K':Y=[y]) (bC:h'.bs=h.bs.set j dR):uk h L Y h'
 |asker {a j:Nat}{e:Int}{s:d1}(gH:(∃kp w,L=jw j a e s kp w)\/L=gY j a e s\/∃p,L=sT j a e s p) (fr:∀y∈Y,xr a y) (bC:h'.bs=h.bs):uk h L Y h'
section
variable{Γ:fe}{h:cY}(H:d8 Γ h)
include H
theorem d8.wr(a:∀y∈Y,iK Γ y):d8 Γ (h.wr Y):=⟨H.na,H.as,H.nb,H.bs,λl hl=>(alc.mp hl).elim (H.ls l) (a l)⟩
theorem d8.put(f:k<h.as.length)(d:fA Γ b k):d8 Γ (h.put k b):=by
 refine⟨by unfold cY.put;dsimp only;rw[akS];exact H.na,λi a e=>?_,H.nb,H.bs,H.ls⟩;have e:(h.as.set k b)[i]? = some a:=e
 by_cases c:k=i
 .subst c
  rw[akE f]at e;cases e;exact d
 .rw[akn c]at e
  exact H.as i a e
theorem d8.row(r:aF.D):d8 Γ (h.row r):=⟨H.na,H.as,H.nb,H.bs,H.ls⟩
theorem d8.bk(a:nJ Γ b):d8 Γ (h.bk k b):=by
 refine⟨H.na,H.as,by unfold cY.bk;dsimp only;rw[akS];exact H.nb,λx c=>?_,H.ls⟩;rcases am1 c with z|rfl
 .exact H.bs x z
 .exact a
theorem d8.asker{k:Nat}(b:k < Γ.na):∃a,h.as[k]? = some a/\fA Γ a k:=by
 have e:h.as[k]? = some (h.as[k]'(by rw[H.na];exact b)):=akx _;exact⟨_,e,H.as k _ e⟩
theorem afG(O:Γ.Ok){k:Nat}(m:k < Γ.na){L w x e s n:aF.D}(p:L=.t [w,x,.int k,e,s,n])(j:h.rs.length<=100000)
  (g:∀a,fA Γ a k->∃Y b,a.Do kb [L] Y b/\fA Γ b k/\lK Γ k Y/\b.wi=a.wi) :
  ∃Y h',h.Do rh [L] (.v (.l Y)) h'/\d8 Γ h'/\lK Γ k Y/\h'.ls=h.ls/\h'.bs=h.bs/\h'.rs.length<=h.rs.length+1/\h.il h':=by
 obtain⟨a,c,d⟩:=H.asker m;obtain⟨Y,b,av,aE,cJ,f⟩:=g a d;subst p;have i:k<h.as.length:=(akd.mp c).1;have eJ:=afF c d.bW aE.bW av j;refine⟨Y,_,eJ,?_,cJ,?_,?_,?_,?_⟩
 .split
  .exact(H.put i aE).row _
  .exact H.put i aE
 .split<;>rfl
 .split<;>rfl
 .split
  .unfold cY.row cY.put;dsimp only;rw[akg];exact akk _
  .exact an1 _
 .split
  .exact Fo c f
  .exact Fo c f
theorem u7(hw:aku w=true)(a:(w == "ask" || w == "tell")=b):ox [.t (.str w::ds)]=pure (.v (.ay b)):=by rw[U3 w hw,a]
theorem B8(O:Γ.Ok)(R:k<h.ls.length)(hz:h.ls.length<=900000)(M:h.rs.length<=100000) :
  ∃Y h',h.Do lg [.int k] (.fr (dH h.ls.length Y.length)) h'/\d8 Γ h'/\h'.ls=h.ls++Y/\Y.length<=6/\h'.rs.length<=h.rs.length+1/\h.il h'/\uk h h.ls[k] Y h':=by
 have e:h.ls[k]? = some h.ls[k]:=akx _;have G:=H.ls _ (amd R);generalize h.ls[k]=L at *;have key:∀(me j:Nat)(c:Int)(s:d1),j<6->(L=kr me c s j\/∃l,L=qb me c s l j)->b8 L=.v L->ox [L]=pure (.v (.ay true))->(∃w x e s q,L=.t [w,x,.int j,e,s,q])->
   ∃Y h',h.Do lg [.int k] (.fr (dH h.ls.length Y.length)) h'/\d8 Γ h'/\h'.ls=h.ls++Y/\Y.length<=6/\h'.rs.length<=h.rs.length+1/\h.il h'/\uk h L Y h':=λme j c s r E bh go ⟨w,x,X,ss,q,D⟩=>by
  have F:h.bs[j]? = some (h.bs[j]'(by rw[H.nb];exact r)):=akx _;have N:=H.bs _ (amd (by rw[H.nb];exact r:j<h.bs.length));generalize h.bs[j]'(by rw[H.nb];exact r)=b at *;obtain⟨T,y,g,W,K⟩:=Xi O N G E;have J:=g;have tk:h.Do vI [L] (.fr [y]) (h.bk j T):=by rw[D]at g ⊢;exact afH F g
  refine⟨[y],_,SH e go tk rfl (by simp;omega),(H.bk W).wr (by intro z hz;rw[akF]at hz;subst hz;exact K),rfl,by simp,an1 _,(λ_=>rfl),.keeper E r F g rfl rfl⟩
 have u:∀(a:Nat),a < Γ.na->(∃(j:Nat)(e:Int)(s:d1),(∃kp w,L=jw j a e s kp w)\/L=gY j a e s\/∃p,L=sT j a e s p)->b8 L=.v L->ox [L]=pure (.v (.ay false))->(∃w x e s q,L=.t [w,x,.int a,e,s,q])->(∀A,fA Γ A a->∃Y b,A.Do kb [L] Y b/\fA Γ b a/\lK Γ a Y/\b.wi=A.wi)->
   ∃Y h',h.Do lg [.int k] (.fr (dH h.ls.length Y.length)) h'/\d8 Γ h'/\h'.ls=h.ls++Y/\Y.length<=6/\h'.rs.length<=h.rs.length+1/\h.il h'/\uk h L Y h':=λa Q ⟨P,o,C,I⟩ bh go ⟨w,x,X,ss,q,D⟩ g=>by
  obtain⟨Y,h',av,aE,cJ,eJ,k4,n1,Z⟩:=afG H O Q D M g;have V:=cJ.len;refine⟨Y,_,SG e go av eJ (by omega),aE.wr cJ.ok,?_,V,n1,Z,.asker I cJ.fr k4⟩;unfold cY.wr;dsimp only;rw[eJ]
 cases G with
 |@ask me j c s i f B=>exact key me j c s f (.inl rfl) rfl (u7 H abZ rfl) ⟨_,_,_,_,_,rfl⟩|@tell me j c s p n d w i f B _=>exact key me j c s f (.inr ⟨_,rfl⟩) rfl (u7 H ab0 rfl) ⟨_,_,_,_,_,rfl⟩|@grant j a c s kp w i f B S _=>exact u a i ⟨_,_,_,.inl ⟨_,_,rfl⟩⟩ rfl (u7 H tD rfl) ⟨_,_,_,_,_,rfl⟩ λA m=>W9 O m f B S
 |@kept j a c s i f=>exact u a i ⟨_,_,_,.inr (.inl rfl)⟩ rfl (u7 H Oi rfl) ⟨_,_,_,_,_,rfl⟩ λA m=>Xc O m f
 |@late j a c s p i f=>exact u a i ⟨_,_,_,.inr (.inr ⟨_,rfl⟩)⟩ rfl (u7 H wu rfl) ⟨_,_,_,_,_,rfl⟩ λA m=>Xg O m
end
structure fe.Bb(Γ mC:fe):Prop where
 w:mC.W=Γ.W
 n:mC.na=Γ.na
 wi:∀{i n d},Γ.mS i n d->mC.mS i n d
 e:∀{e s},Γ.E e s->mC.E e s
section
variable{Γ mC:fe}(le:Γ.Bb mC)
include le
theorem fe.Bb.s{e:Int}{w:aF.D}(h:Γ.S e w):mC.S e w:=by
 obtain⟨s,a,b,c⟩:=h;exact⟨s,by rw[le.w];exact a,le.e b,c⟩
theorem fA.mono(h:fA Γ a k):fA mC a k:=by
 refine⟨h.me,by rw[le.n];exact h.lt,h.bW,h.hl,le.s h.op,?_,λc=>⟨λg b=>?_,(h.bZ c).2⟩,λc=>le.s (h.dN c)⟩
 .obtain⟨d,f,e⟩:=h.dC
  exact⟨d,f,λz=>le.wi (e z)⟩
 .obtain⟨x,y,z⟩:=(h.bZ c).1 g b
  exact⟨x,y.imp id le.s,z⟩
theorem iK.mono(h:iK Γ l):iK mC l:=by
 cases h with
 |ask a b c=>exact .ask (by rw[le.n];exact a) b c| tell a b c d=>exact .tell (by rw[le.n];exact a) b (le.s c) λx e=>by have:=d x e;rw[le.w];exact this
 |grant a b c d f=>exact .grant (by rw[le.n];exact a) b (c.imp id le.s) d f| kept a b=>exact .kept (by rw[le.n];exact a) b| late a b=>exact .late (by rw[le.n];exact a) b
theorem nJ.mono(h:nJ Γ b):nJ mC b:=by
 obtain⟨bk,e,r,p⟩:=h;exact⟨bk,e,r,λg a=>⟨(p g a).e,(p g a).s.imp id le.s,(p g a).bh,(p g a).ok⟩⟩
theorem d8.mono(H:d8 Γ h):d8 mC h:=⟨by rw[le.n];exact H.na,λk a e=>(H.as k a e).mono le,H.nb,λb c=>(H.bs b c).mono le,λl hl=>(H.ls l hl).mono le⟩
end
section
variable{Γ:fe}(O:Γ.Ok){h:cY}(H:d8 Γ h)
include O H
theorem XS(e:k < Γ.na)(hz:h.ls.length<=900000):∃Y h',h.Do zo [.int k] (.fr (dH h.ls.length Y.length)) h'/\d8 Γ h'/\h'.ls=h.ls++Y/\Y.length<=6/\h'.rs=h.rs/\h.il h':=by
 obtain⟨a,c,d⟩:=H.asker e;have g:k<h.as.length:=(akd.mp c).1;obtain⟨Y,b,av,aE,cJ,f⟩:=Sq O d;have i:=cJ.len;exact⟨Y,_,Sp c av (by omega),(H.put g aE).wr cJ.ok,rfl,i,rfl,Fo c f⟩
theorem XR{k:Nat}{a:bK}(e:h.as[k]? = some a)(ax:a.bW="calm")(g:a.bM=false){d:Option cH}(hd:d=none\/nr [ez d]=pure (.v (.ay true)))(hw:Γ.mS k (a.wi+1) d)(hz:h.ls.length<=900000)(j:h.rs.length<=100000) :
  ∃Y h',h.Do rg [.int k,ez d] (.fr (dH h.ls.length Y.length)) h'/\d8 Γ h'/\h'.ls=h.ls++Y/\Y.length<=6/\h'.rs.length=h.rs.length+1/\h'.as=h.as.set k (a.qz (ez d)).asks/\Y≠[]:=by
 have b:=H.as k a e;have n:k<h.as.length:=(akd.mp e).1;obtain⟨ms,fa,fk,c⟩:=b.hl.ex;have i:ez d=.aJ\/nr [ez d]=pure (.v (.ay true)):=hd.imp (λz=>by rw[z];rfl) id;have av:=Sn (a:=a) c.mem c.len ax g (P4 d) i;obtain⟨dX,q,s2,s3⟩:=b.op;have l:fA Γ (a.qz (ez d)) k:=⟨b.me,b.lt,b.bW,b.hl,b.op,⟨d,rfl,λ_=>hw⟩,(λz=>by rw[show(a.qz (ez d)).bW=a.bW from rfl,ax]at z;exact absurd z r8),(λz=>by rw[show(a.qz (ez d)).bW=a.bW from rfl,ax]at z;exact absurd z r9)⟩;have m:=G1 O l ⟨d,rfl,hw⟩;have f:=Gd O b (s:=(a.c_+1,a.me)) c (O.hv s2);have p:=f.len;refine⟨_,_,XQ e (P4 d) av (by omega) j,((H.put n m).row _).wr f.ok,rfl,p,?_,rfl,λz=>c.ne (List.map_eq_nil_iff.mp z)⟩;unfold cY.wr cY.row cY.put;dsimp only;rw[akg];rfl
end
def sL:Option cH->Bool
 |some (.move _)=>true|_=>false
def hG(l:List (Option cH))(n:Nat):Nat:=((l.take n).filter sL).length
def tr(l:List (Option cH))(n:Nat):hG l n<=l.length:=akU (alY _ _) (by rw[alC];omega)
def aac(l:List (Option cH))(h:m<=n):hG l m<=hG l n:=by
 unfold hG;have:l.take m=(l.take n).take m:=by rw[List.take_take,am0 h]
 rw[this];exact((List.take_sublist m (l.take n)).filter sL).length_le
def aad{l:List (Option cH)}(e:l[n]? = some d):hG l (n+1)=hG l n+if sL d=true then 1 else 0:=by
 unfold hG;rw[aol,e,List.filter_append,akg];cases q:sL d<;>simp[q]
def mj(w:Nat->List (Option cH))(s:dc):Nat:=hG (w 0) (s.last (0:Nat)).toNat+hG (w 1) (s.last (1:Nat)).toNat+hG (w 2) (s.last (2:Nat)).toNat+hG (w 3) (s.last (3:Nat)).toNat+hG (w 4) (s.last (4:Nat)).toNat+hG (w 5) (s.last (5:Nat)).toNat
def F5:aF.D->Bool
 |.t _=>true|_=>false
def many(w:Nat->List (Option cH)):Nat:=(w 0).length+(w 1).length+(w 2).length+(w 3).length+(w 4).length+(w 5).length
def i'(W:List (List Nat))(na:Nat)(w:Nat->List (Option cH)):fe where
 W:=W
 na:=na
 mS:=λi n d=>∃(k m:Nat),k<6/\i=k/\n=(m:Int)+1/\(w k)[m]? = some d
 E:=λe s=>0<=e/\e.toNat+(if F5 s.aW=true then 1 else 0)<=mj w s
def Zd{G:aF.D->Prop}{s:dc}(h:gs G W s)(t:dc)(i n:Int)(v:aF.D)(a:t.ds=kg (Q:=mO) s.ds (i,.t [.int i,.int n,v]))(j:Int):t.last j=if j=i then n else s.last j:=by
 unfold dc.last;rw[a,UO (Q:=mO) _ h.n0.nodup j]
 by_cases c:j=i
 .rw[if_pos c,if_pos c];rfl
 .rw[if_neg c,if_neg c]
def acD{s:dc}(ax:s.aW=.aJ)(i:Int)(x:cH):F5 (eI s i x).1.aW=true->sL (some x)=true:=by
 cases x<;>unfold eI<;>dsimp only<;>(try split)<;>(try unfold dc.put)<;>(try dsimp only)<;>(try rw[ax])<;>intro z<;>first|rfl|cases z
def adE{w:Nat->List (Option cH)}{s t:dc}(d:k<6)(a:∀j:Nat,j≠k->t.last (j:Nat)=s.last (j:Nat))(ax:hG (w k) (s.last (k:Nat)).toNat+c<=hG (w k) (t.last (k:Nat)).toNat):mj w s+c<=mj w t:=by
 have key:∀j:Nat,j≠k->hG (w j) (t.last (j:Nat)).toNat=hG (w j) (s.last (j:Nat)).toNat:=λj b=>by rw[a j b]
 unfold mj;have e:k=0\/k=1\/k=2\/k=3\/k=4\/k=5:=by omega
 rcases e with rfl|rfl|rfl|rfl|rfl|rfl
 .rw[key 1 (by decide),key 2 (by decide),key 3 (by decide),key 4 (by decide),key 5 (by decide)];omega
 .rw[key 0 (by decide),key 2 (by decide),key 3 (by decide),key 4 (by decide),key 5 (by decide)];omega
 .rw[key 0 (by decide),key 1 (by decide),key 3 (by decide),key 4 (by decide),key 5 (by decide)];omega
 .rw[key 0 (by decide),key 1 (by decide),key 2 (by decide),key 4 (by decide),key 5 (by decide)];omega
 .rw[key 0 (by decide),key 1 (by decide),key 2 (by decide),key 3 (by decide),key 5 (by decide)];omega
 .rw[key 0 (by decide),key 1 (by decide),key 2 (by decide),key 3 (by decide),key 4 (by decide)];omega
def su{W:List (List Nat)}{w:Nat->List (Option cH)}(E:W.length<63)(y:na<=6)(H:many w<=60)(hd:∀(k:Nat)(d:Option cH)(x:cH),d∈w k->d=some x->ji g4 W x):(i' W na w).Ok where
 w:=E
 n:=y
 done:=λ{e s i n d} h a hw=>by
  obtain⟨k,m,A,rfl,rfl,g⟩:=hw
  cases d with
  |none=>exact a|some x=>
   unfold pG;dsimp only
   by_cases c:(f5 s.aW)=true/\s.last (k:Nat)<(m:Int)+1
   .rw[if_pos c]
    have q:s.aW=.aJ:=by
     rcases h.aW with e|e|⟨⟨xs,e⟩,_⟩
     .exact e
     .rw[e]at c;cases c.1
     .rw[e]at c;cases c.1
    have l:=Zd h { (eI s (k:Nat) x).1 with ds:=kg (Q:=mO) s.ds ((k:Nat),.t [.int (k:Nat),.int ((m:Int)+1),(eI s (k:Nat) x).2]) } (k:Nat) ((m:Int)+1) _ rfl;have B:=acD q (k:Nat) x;refine⟨a.1,?_⟩;have b:=a.2;rw[q]at b;have b:e.toNat<=mj w s:=b;generalize D:({ (eI s (k:Nat) x).1 with ds:=kg (Q:=mO) s.ds ((k:Nat),.t [.int (k:Nat),.int ((m:Int)+1),(eI s (k:Nat) x).2]) }:dc)=T at l ⊢;have u:T.aW=(eI s (k:Nat) x).1.aW:=by rw[<-D]
    have r:=l (k:Nat);rw[if_pos rfl]at r;have st:=aad g;have mo:=aac (w k) (m:=(s.last (k:Nat)).toNat) (n:=m) (by omega);have eT:(T.last (k:Nat)).toNat=m+1:=by rw[r];omega
    have ps:=adE (w:=w) (s:=s) (t:=T) (c:=if sL (some x)=true then 1 else 0) A (λj G=>by rw[l (j:Nat),if_neg (by omega)]) (by rw[eT,st];omega);rw[u]
    by_cases z:F5 (eI s (k:Nat) x).1.aW=true
    .rw[if_pos z]
     rw[if_pos (B z)]at ps;omega
    .rw[if_neg z]
     omega
   .rw[if_neg c];exact a
 ke:=λ{e s} h a ⟨xs,f⟩=>by
  have b:=a.2;rw[f]at b;have b:e.toNat+1<=mj w s:=b;have p:=a.1;refine⟨by omega,?_⟩;show(e+1).toNat+0<=mj w s;omega
 hv:=λ{e s} a=>by
  have b:=a.2;have p:=a.1;have F:mj w s<=many w:=by
   unfold mj many;have I:=tr (w 0) (s.last (0:Nat)).toNat;have a1:=tr (w 1) (s.last (1:Nat)).toNat;have a2:=tr (w 2) (s.last (2:Nat)).toNat;have eW:=tr (w 3) (s.last (3:Nat)).toNat;have iN:=tr (w 4) (s.last (4:Nat)).toNat;have jq:=tr (w 5) (s.last (5:Nat)).toNat;omega
  refine⟨p,?_⟩;have:e.toNat<=mj w s:=akU (amy _ _) b;omega
 iC:=λ{i n d x} ⟨k,m,_,_,_,g⟩ f=>hd k d x (akM g) f
def ts(h:l <+: o)(n:Nat):hG l n<=hG o n:=by
 obtain⟨r,rfl⟩:=h;unfold hG;rw[List.take_append,List.filter_append,akg];omega
def US{w g:Nat->List (Option cH)}(h:∀k,w k <+: g k):(i' W na w).Bb (i' W na g) where
 w:=rfl
 n:=rfl
 wi:=λ{i n d} ⟨k,m,a,b,c,e⟩=>⟨k,m,a,b,c,by
  obtain⟨r,j⟩:=h k;rw[<-j,akD (akd.mp e).1];exact e⟩
 e:=λ{e s} f=>⟨f.1,akU f.2 (by
  unfold mj;have l:=ts (h 0) (s.last (0:Nat)).toNat;have a1:=ts (h 1) (s.last (1:Nat)).toNat;have a2:=ts (h 2) (s.last (2:Nat)).toNat;have eW:=ts (h 3) (s.last (3:Nat)).toNat;have iN:=ts (h 4) (s.last (4:Nat)).toNat;have jq:=ts (h 5) (s.last (5:Nat)).toNat;omega)⟩
def addW(w:Nat->List (Option cH))(k:Nat)(d:Option cH):Nat->List (Option cH):=λj=>if j=k then w k++[d]else w j
def Q5(w:Nat->List (Option cH))(k:Nat)(d:Option cH)(j:Nat):w j <+: addW w k d j:=by
 unfold addW;split
 .rename_i e;subst e;exact am6 _ _
 .exact anq _
def Q3(a:k<6)(d:Option cH):many (addW w k d)=many w+1:=by
 unfold many addW;have e:k=0\/k=1\/k=2\/k=3\/k=4\/k=5:=by omega
 rcases e with rfl|rfl|rfl|rfl|rfl|rfl<;>simp<;>omega
def Q4{w:Nat->List (Option cH)}(a:k<6)(d:Option cH):(i' W na (addW w k d)).mS k ((w k).length+1) d:=
 ⟨k,(w k).length,a,rfl,rfl,by unfold addW;rw[if_pos rfl];simp⟩
def lN:dc:=⟨[],[],0,.aJ,.aJ⟩
def Sx:lN.D=B5:=rfl
def Sy(G:aF.D->Prop)(W:List (List Nat)):gs G W lN:=⟨by simp[lN],.nil,by simp[lN],by simp[lN],.nil,by simp[lN],.inl rfl,.inl rfl,by simp[lN]⟩
def abG{Γ:fe}(b:Γ.E 0 lN)(a:k < Γ.na)(cR:g4 hall):fA Γ (tv k hall) k:=
 ⟨rfl,a,.inl rfl,cR,⟨lN,Sy _ _,b,Sx.symm⟩,⟨none,rfl,λz=>absurd rfl z⟩,(λz=>absurd z r8),(λz=>absurd z r9)⟩
def UT(W:List (List Nat))(na:Nat)(w:Nat->List (Option cH)):(i' W na w).E 0 lN:=⟨Int.le_refl _,akY _⟩
def abC{Γ:fe}(h:Γ.E 0 lN)(cR:g4 hall):d8 Γ (p5 Γ.na hall) where
 na:=by unfold p5;simp
 as:=λk a e=>by
  unfold p5 at e;dsimp only at e;rw[akA]at e
  by_cases c:k < Γ.na
  .rw[alR c]at e
   cases e;exact abG h c cR
  .rw[amR (by simpa using c)]at e
   cases e
 nb:=by unfold p5;simp
 bs:=λb f=>by
  have:b=.t []:=by
   have:=List.eq_of_mem_replicate f;exact this
  subst this;exact⟨[],rfl,.nil,λg d=>(nomatch d)⟩
 ls:=λl hl=>nomatch hl
def Aw{α:Type}(xs:List α):lO (xs.map λ_=>.ay true)=some (xs.map λ_=>true)/\(xs.map λ_=>true).all id=true:=⟨xZ (λ_=>true) xs,akV.mpr λx h=>by obtain⟨_,_,rfl⟩:=akK.mp h;rfl⟩
def Q'{α:Type}(xs:List α):n4 [.fr (xs.map λ_=>.ay true)]=pure (.v (.ay true)):=by
 show(match lO (xs.map λ_=>D.ay true)with|some bs=>pure (R.v (.ay (bs.all id)))|none=>bad)=_;rw[(Aw xs).1];show pure (R.v (.ay ((xs.map λ_=>true).all id)))=_;rw[(Aw xs).2]
def YU{k:Nat}(h:k<6):vS [.int (k:Nat)]=pure (.v (.ay true)):=by
 have:(k:Int)<=5:=by omega
 simp[vS,HQ,o6,this]
def YV(xs:List D):vS [.t xs]=pure (.v (.ay false)):=by kernel_rfl
def OA(x y:D):zv [.t [x,y]]=pure (.v (.ay true)):=by kernel_rfl
def Th{k:Nat}{ps:List D}(a:1<=k)(b:k<=ps.length)(c:ps.length<=6):Ey [.t [.int (k:Nat),.t ps]]=pure (.v (.ay true)):=by
 refine hT rfl ((oO (od ((wy (zO (iO (OA (.int (k:Nat)) (.t ps))))).trans ((wy (zO (iO (o6 k)))).trans rfl)))).trans ((oO (U':=[.v (.t [.int (k:Nat),.t ps]),.v (.int ps.length)]) rfl).trans ?_));have:(1:Int)<=k:=by omega
 have:(k:Int)<=ps.length:=by omega
 have:(ps.length:Int)<=6:=by omega
 unfold HI;simp[*]
theorem IY:∀(n m:Nat)(r:a7),m<n->r.deep<=m->r.wf->ri n [enc r,.int (m:Nat)]=pure (.v (.ay true))
 |0,m,r,h,_,_=>absurd h (alJ _)| n+1,m,.kp k,_,_,hw=>by rw[sg];exact hT rfl (FI ((sH (iO (YU hw))).trans rfl))|n+1,0,.ch k ps,_,hd,_=>absurd hd (Nat.not_succ_le_zero _)|n+1,m+1,.ch k ps,h,hd,hw=>by
  have av:((m+1:Nat):Int)-1=(m:Nat):=by omega
  have dl:=pE (ps:=ps) (n:=m+1) hd;rw[qP];refine hT rfl ((oO (od (iO (YV [.int (k:Nat),.t (ps.map enc)])))).trans ((oO (od ((wy (iO rfl)).trans (zO (iO (Th hw.1 (by rw[akh];exact hw.2.1) (by rw[akh];exact hw.2.2.1))))))).trans (jg (m1 (Q' ps) (cons_of (ya rfl (by rw[akh];exact f7 (by have:=hw.2.2.1;omega)) (qF enc _ ps λq a=>TF (call_of (rs:=[.v (enc q),.v (.int (((m+1:Nat):Int)-1))]) rfl ?_))) rfl)))));show ri n [enc q,.int (((m+1:Nat):Int)-1)]=_;rw[av];exact IY n m q (Nat.lt_of_succ_lt_succ h) (Nat.le_of_lt_succ (dl q a)) (ub.mp hw.2.2.2 q a)
theorem N0:∀(n:Nat)(r:a7),r.deep<n->r.names.length<=12->mb n [enc r]=pure (.fr (r.names.map a_))
 |0,r,h,_=>absurd h (alJ _)| n+1,.kp k,_,_=>by rw[sg];exact CT rfl (FI ((sH (iO (o6 k))).trans rfl))|n+1,.ch k ps,h,c=>by
  have dl:=pE (ps:=ps) (n:=n) (Nat.lt_of_succ_lt_succ h);have c:(a7.eP ps).length<=12:=c;rw[qP];obtain⟨U',e,s,rfl⟩:=sm (b:=λd U=>vA (mb n) (U.set 2 (.v d))) (ds:=ps.map enc) (U:=[.v (.t [.int (k:Nat),.t (ps.map enc)]),.dB false [],.e]) (λi U=>∃s,U=[.v (.t [.int (k:Nat),.t (ps.map enc)]),.dB false ((a7.eP (ps.take i)).map a_),s]) ⟨_,rfl⟩ (λi d U hd ⟨s,j⟩=>by
   subst j;obtain⟨q,a,rfl⟩:=zD hd;have f:a7.eP (ps.take (i+1))=a7.eP (ps.take i)++q.names:=by rw[take_snoc a,wa];exact congrArg _ (alx _)
   have hl:(a7.eP (ps.take (i+1))).length<=12:=by
    have:=congrArg (λz=>(a7.eP z).length) (List.take_append_drop (i+1) ps);simp only[wa,akg]at this;omega
   rw[f,akg]at hl;have g:=N0 n q (dl q (akM a)) (by omega);refine⟨_,.inl (?_:_=pure (fc.bw [.v (.t [.int (k:Nat),.t (ps.map enc)]),.dB false ((a7.eP (ps.take (i+1))).map a_),.v (enc q)])),_,rfl⟩;rw[f,alI];have z:(a7.eP (ps.take i)).length+q.names.length<=aki:=al1 (f7 (by omega));unfold vA;simp[g,z])
  rw[akh,ans]at e;exact CT rfl ((oO (od (iO (Ga [.int (k:Nat),.t (ps.map enc)])))).trans ((oO (acP (U:=[.v (.t [.int (k:Nat),.t (ps.map enc)]),.e,.e]))).trans ((oO (CV (it:=la (ab aH (I 0) (af (.int 1)))) rfl e)).trans rfl)))
def Pn{r:a7}(h:Good r):vW [enc r]=pure (.v (.ay true)):=by
 have b:ri 12 [enc r,.int 4]=_:=IY 12 4 r (by decide) h.2.1 h.1;have a:=N0 12 r (by have:=h.2.1;omega) h.2.2;have aE:(r.names.length:Int)<=12:=by have:=h.2.2;omega
 simp only[vW,HV];simp[b,a,aE]
def yg:Option Nat->D
 |some o=>a_ o|none=>.aJ
def Ud(m:Nat)(os:List Nat):vR [a_ m,.l (os.map a_)]=pure (.v (yg (os.find? (lL m)))):=by
 have step:∀(o:Nat)(s2:Slot),y' [.v (a_ m),.bN (os.map a_),.v (a_ o)]=if lL m o=true then pure (.cn (.v (a_ o)))else pure (.bw [.v (a_ m),.bN (os.map a_),.v (a_ o)]):=λo s2=>by
  have e:(((m&&& o:Nat):Int)==0)=lL m o:=by
   unfold lL;rw[alQ,beq_iff_eq,beq_iff_eq];omega
  have a:m&&& o=0↔lL m o=true:=by unfold lL;rw[beq_iff_eq]
  simp only[y',gZ];simp only[b3,aL,ab,I,TP];simp[Rb,a]
 have L:=sl (b:=λd U=>y' (U.set 2 (.v d))) a_ (lL m) (λo=>.v (a_ o)) (λU=>∃s2,U=[.v (a_ m),.bN (os.map a_),s2]) os [.v (a_ m),.bN (os.map a_),.e] ⟨_,rfl⟩
  (λo U _ ⟨s2,c⟩=>by
   subst c;refine⟨λh=>?_,λh=>⟨[.v (a_ m),.bN (os.map a_),.v (a_ o)],?_,_,rfl⟩⟩
   .have:=step o s2
    rw[if_pos h]at this;exact this
   .have:=step o s2
    rw[if_neg (by rw[h];exact akl)]at this;exact this)
 simp only[vR,Hx,Hy];simp only[gZ m]at L ⊢
 cases e:os.find? (lL m)with
 |some o=>
  have:=L.1 o e;simp[this,yg]
 |none=>
  obtain⟨U',a,s2,rfl⟩:=L.2 e;simp[a,yg]
def qO(k:a7):Option Nat->D
 |some m=>.t [a_ m,a_ (((least k).find? (lL m)).getD 0)]|none=>.aJ
def acT(g:Good a)(i:Good k):zA [enc a,enc k]=pure (.v (qO k ((least a).find? (j6 k)))):=by
 have j:=NA (r:=a) g.1 (by have:=g.2.1;omega) (by have:=g.2.2;omega);have n:=NA (r:=k) i.1 (by have:=i.2.1;omega) (by have:=i.2.2;omega);have step:∀(m:Nat)(c:Slot),zc [.v (enc a),.v (enc k),.v (.l ((least k).map a_)),.v (a_ m),c]=if j6 k m=true then pure (.cn (.v (qO k (some m))))else pure (.bw [.v (enc a),.v (enc k),.v (.l ((least k).map a_)),.v (a_ m),.v .aJ]):=λm c=>by
  have f:=Ud m (least k);unfold j6;simp only[zc]
  cases e:(least k).find? (lL m)with
  |none=>
   rw[e]at f;simp[f,yg]
  |some o=>
   rw[e]at f;have f:vR [a_ m,.l ((least k).map a_)]=pure (.v (a_ o)):=f;simp only[gZ o]at f;simp[f,qO,e,gZ o]
 have L:=sl (b:=λd U=>zc (U.set 3 (.v d))) a_ (j6 k) (λm=>.v (qO k (some m))) (λU=>∃s3 c,U=[.v (enc a),.v (enc k),.v (.l ((least k).map a_)),s3,c]) (least a) [.v (enc a),.v (enc k),.v (.l ((least k).map a_)),.e,.e] ⟨_,_,rfl⟩
  (λm U _ ⟨s3,c,p⟩=>by
   subst p;refine⟨λh=>?_,λh=>⟨[.v (enc a),.v (enc k),.v (.l ((least k).map a_)),.v (a_ m),.v .aJ],?_,_,_,rfl⟩⟩
   .have:=step m c
    rw[if_pos h]at this;exact this
   .have:=step m c
    rw[if_neg (by rw[h];exact akl)]at this;exact this)
 simp only[zA,Iv,Iw,Iy]
 cases e:(least a).find? (j6 k)with
 |some m=>
  have:=L.1 m e;simp[j,n,this,qO]
 |none=>
  obtain⟨U',q,s3,c,rfl⟩:=L.2 e;simp[j,n,q,qO]
def Vk{a k:a7}(b:Good a)(c:Good k)(e:(least a).find? (j6 k)=none):pZ [.t [enc a,enc k]]=pure (.v (.ay true)):=by
 have pt:=acT b c;rw[e]at pt;simp only[pZ,HO,HP];simp[OA,Pn b,Pn c,pt,qO]
def ow(c:Nat):Bool:=decide (97<=c/\c<=122)
def Bm:("abcdefghijklmnopqrstuvwxyz":Str).cps.toList=(akG 26).map λk=>97+k:=by decide +kernel
def Yk{c:Nat}(h:ow c=true):t6 (ch c) "abcdefghijklmnopqrstuvwxyz"=true:=by
 unfold t6;have h:=of_decide_eq_true h;rw[show ch c=⟨#[c]⟩from rfl,StrLaws.found_one,Bm,decide_eq_true_eq];simp only[akK,akZ];exact⟨c-97,by omega,by omega⟩
def Ac{n:Nat}(h:n<=1000):n<=aki:=by rw[akB];omega
def aaj{l:List Nat}(f:1<=l.length)(d:l.length<=8)(b:l.all ow=true):vU [.str (aY l)]=pure (.v (.ay true)):=by
 have a:gk fx (ab (rr false) (I 0) (af (.str "abcdefghijklmnopqrstuvwxyz"))) [.e] (l.map λc=>D.str (ch c))=pure (l.map λ_=>D.ay true):=
  qF (λc=>D.str (ch c)) (λ_=>D.ay true) l λc a=>by simp[Yk (akV.mp b c a)]
 have h:x' (aY l)=l.map λc=>D.str (ch c):=rfl
 obtain⟨j,g⟩:=Aw l;have z:=Ac (n:=l.length) (by omega);have i:l.length<aki:=f7 (by omega);have:(1:Int)<=l.length:=by omega
 have:(l.length:Int)<=8:=by omega
 simp only[vU,HS,HT];simp[*,oX]
def Oa{n:Int}(b:-1000000000000000000000<n)(a:n<10000000000000000000000000000000000000000):vV [.int n]=pure (.v (.ay true)):=by
 have e:(if n<0 then -n else n)<1000000000000000000000000000000000000000000000000000000000000:=by split<;>omega
 simp only[vV,HU];simp[o6,e]
def Ua{n:Int}(a:0<=n)(b:n<4):zu [.int n]=pure (.v (.ay true)):=by
 simp only[zu,HN];simp[Oa (show -1000000000000000000000<n by omega) (by omega),a]
def e4(k:Str)(d:D):Prop:=oz [.str k,d]=pure (.v (.ay true))
def j2(a b:Str)(c:Bool):Prop:=oEq (.v (.str a)) (.v (.str b))=pure (.v (.ay c))
def yd:j2 "name" "name" true/\j2 "number" "name" false/\j2 "number" "number" true/\j2 "fence" "name" false/\j2 "fence" "number" false/\j2 "fence" "fence" true/\j2 "hall" "name" false/\j2 "hall" "number" false/\j2 "hall" "fence" false:=by
 unfold j2;exact⟨by kernel_rfl,by kernel_rfl,by kernel_rfl,by kernel_rfl,by kernel_rfl,by kernel_rfl,by kernel_rfl,by kernel_rfl,by kernel_rfl⟩
def adO{a:List Nat}(h:vU [.str (aY a)]=pure (.v (.ay true))):e4 "name" (.str (aY a)):=by
 have q:=yd.1;unfold j2 at q;simp only[e4,oz,uG,uH,uI,uJ];simp[q,h]
def Fi{n:Int}(b:-1000000000000000000000<n)(a:n<10000000000000000000000000000000000000000):e4 "number" (.int n):=by
 obtain⟨_,br,bP,_⟩:=yd;unfold j2 at *;simp only[e4,oz,uG,uH,uI,uJ];simp[br,bP,Oa b a]
def adM{n:Int}(c:0<=n)(a:n<4):e4 "fence" (.int n):=by
 obtain⟨_,_,_,br,bP,b,_⟩:=yd;unfold j2 at *;simp only[e4,oz,uG,uH,uI,uJ];simp[br,bP,b,Ua c a]
def adN{xs:List D}(h:pZ [.t xs]=pure (.v (.ay true))):e4 "hall" (.t xs):=by
 obtain⟨_,_,_,_,_,_,br,bP,a⟩:=yd;unfold j2 at *;simp only[e4,oz,uG,uH,uI,uJ];simp[br,bP,a,h]
theorem Jc{el:bx}{U:aM}:∀xs:List (D×D),(∀x∈xs,(el ((U.set 0 (.v x.1)).set 1 (.v x.2)) >>= R.dat)=pure (.ay true))->pR fx el U xs=pure (xs.map λ_=>.ay true)
 |[],_=>rfl|x::xs,h=>by
  unfold pR;show(pure true >>= _)=_;rw[pure_bind,if_pos rfl,<-bind_assoc,h x akw,pure_bind,Jc xs λy a=>h y (akq _ a),pure_bind];rfl
def Tz(x:D)(ps:List D):cutD (x::ps) (some 1) none=ps:=Co (x::ps) 1
def nZ{w:Str}{s:List Str}{ps:List D}(d:y8.lookup w=some (.t (s.map .str)))(c:ps.length=s.length)(s3:s.length<=3)(f:∀x∈s.zip ps,e4 x.1 x.2):nr [.t (.str w::ps)]=pure (.v (.ay true)):=by
 have ne:¬((s.length:Int)+1=0):=by omega
 have h:pR fx (bf oz (aa (I 0) (aa (I 1) aj))) [.e,.e] ((s.map D.str).zip ps)=pure (((s.map D.str).zip ps).map λ_=>.ay true):=Jc _ λx a=>by
  rw[List.zip_map_left]at a;obtain⟨y,b,rfl⟩:=akK.mp a;have e:oz [.str y.1,y.2]=_:=f y b;simp[e]
 obtain⟨i,g⟩:=Aw ((s.map D.str).zip ps);have uh:s.length<aki:=f7 (by omega);simp only[nr,HJ,HK,HL,HM,Ex,Hz];simp[d,c,Tz,h,i,g,uh,xi,R.walk,ne]
theorem yv:∀(m:Nat)(r:a7),r.deep<m->∀n,2*r.deep<=n->(enc r).b1 n=true
 |0,r,h,_,_=>absurd h (alJ _)| m+1,.kp k,_,n,_=>by rw[sg];cases n<;>rfl
 |m+1,.ch k ps,h,n,o=>by
  simp only[a7.deep]at h o;have dl:=pE (ps:=ps) (n:=a7.lR ps+1) (by omega);rw[qP];obtain⟨a,rfl⟩:∃a,n=a+2:=⟨n-2,by omega⟩;have hz:g9 (ps.map enc) a=true:=lV.mpr λp c=>by
   obtain⟨q,b,rfl⟩:=akK.mp c;have:=dl q b;exact yv m q (by omega) a (by omega)
  simp[D.b1,g9,hz]
theorem P':∀(m:Nat)(r:a7),r.deep<m->r.wf->(enc r).AH=true
 |0,r,h,_=>absurd h (alJ _)| m+1,.kp k,_,_=>by rw[sg];rfl|m+1,.ch k ps,h,hw=>by
  simp only[a7.deep]at h;have dl:=pE (ps:=ps) (n:=a7.lR ps+1) (by omega);rw[qP];have hl:ps.length<=6:=hw.2.2.1;have hz:mz (ps.map enc)=true:=w'.mpr λp b=>by
   obtain⟨q,a,rfl⟩:=akK.mp b;have:=dl q a;exact P' m q (by omega) (ub.mp hw.2.2.2 q a)
  show(decide (2<=1000)&&(true&&((decide ((ps.map enc).length<=1000)&&mz (ps.map enc))&&true)))=true;rw[hz,akh,decide_eq_true (show ps.length<=1000 by omega)];rfl
def Lg{r:a7}(h:Good r):aF.Ok 8 (enc r):=⟨yv 12 r (by have:=h.2.1;omega) 8 (by have:=h.2.1;omega),P' 12 r (by have:=h.2.1;omega) h.1⟩
theorem NX:∀(m:Nat)(r:a7),r.deep<m->r.wf->∃j∈r.names,j<6
 |0,_,h,_=>absurd h (alJ _)|m+1,.kp k,_,hw=>⟨k,akF.mpr rfl,hw⟩
 |m+1,.ch k [],_,hw=>by
  have c:1<=k:=hw.1;have d:k<=0:=hw.2.1;omega
 |m+1,.ch k (p::ps),h,hw=>by
  simp only[a7.deep]at h;have dl:=pE (ps:=p::ps) (n:=a7.lR (p::ps)+1) (by omega) p akw;obtain⟨j,a,b⟩:=NX m p (by omega) (ub.mp hw.2.2.2 p akw);exact⟨j,alc.mpr (.inl a),b⟩
def Lh(r:a7):b8 (enc r)=.v (enc r):=by cases r<;>rfl
def LV(b:Good a)(c:Good k):g4 (jz a k) where
 ex:=⟨_,λm=>a.fills (cB m),λm=>k.fills (cB m),Z6 b c,(by
   have:=alY (λj=>(a.names++k.names).contains j) (akG 6);rw[alu]at this;exact this),(λj d=>akZ.mp (alw.mp d).1),(by
   obtain⟨j,d,e⟩:=NX 12 a (by have:=b.2.1;omega) b.1;intro z;have:=List.filter_eq_nil_iff.mp z j (akZ.mpr e);exact this (by simpa using al3 d)),enc a,enc k,rfl,Lh a,Lh k,
   (λm=>ym m 12 a (by have:=b.2.1;omega) b.1),λm=>ym m 12 k (by have:=c.2.1;omega) c.1⟩
 no:=by
  have ga:=yv 12 a (by have:=b.2.1;omega) 63 (by have:=b.2.1;omega);have k5:=yv 12 k (by have:=c.2.1;omega) 63 (by have:=c.2.1;omega);unfold jz;rw[qL (x:=.v (.t [enc a,enc k])) (y:=.v (.str "over")) (lV.mpr (by simp only[ak2];exact⟨ga,k5,λ_ h=>nomatch h⟩)) (by decide +kernel)];rfl
 ok:=mh (Lg b) (Lg c)
def mJ:cH->Prop
 |.put a n=>e4 "name" (.str (aY a))/\e4 "number" (.int n)|.add a n=>e4 "name" (.str (aY a))/\e4 "number" (.int n)|.swap a o n=>e4 "name" (.str (aY a))/\e4 "number" (.int o)/\e4 "number" (.int n)|.take g=>e4 "fence" (.int g)|.renew g=>e4 "fence" (.int g)|.free g=>e4 "fence" (.int g)|.sure g a n=>e4 "fence" (.int g)/\e4 "name" (.str (aY a))/\e4 "number" (.int n)|.move h=>e4 "hall" h|.fin=>True
def Yv{d:cH}(h:mJ d):nr [d.D]=pure (.v (.ay true)):=by
 cases d with
 |put a n=>exact nZ (s:=["name","number"]) (by kernel_rfl) rfl (by decide) (by simpa[mJ]using h)| add a n=>exact nZ (s:=["name","number"]) (by kernel_rfl) rfl (by decide) (by simpa[mJ]using h)| swap a o n=>exact nZ (s:=["name","number","number"]) (by kernel_rfl) rfl (by decide) (by simpa[mJ]using h)| take g=>exact nZ (s:=["fence"]) (by kernel_rfl) rfl (by decide) (by simpa[mJ]using h)| renew g=>exact nZ (s:=["fence"]) (by kernel_rfl) rfl (by decide) (by simpa[mJ]using h)| free g=>exact nZ (s:=["fence"]) (by kernel_rfl) rfl (by decide) (by simpa[mJ]using h)| sure g a n=>exact nZ (s:=["fence","name","number"]) (by kernel_rfl) rfl (by decide) (by simpa[mJ]using h)| move z=>exact nZ (s:=["hall"]) (by kernel_rfl) rfl (by decide) (by simpa[mJ]using h)| fin=>exact nZ (s:=[]) (by kernel_rfl) rfl (by decide) (by simp)
def kN(s n:Nat):List Nat:=(akG n).map λk=>(s+k) % 6
def nA(s n:Nat):List D:=(kN s n).map a_
def nD(q s n:Nat):a7:=.ch q ((kN s n).map .kp)
theorem Ja(p:Nat->Bool):∀a:List Nat,a7.cnt p (a.map .kp)=(a.filter p).length
 |[]=>rfl|k::a=>by
  show(if p k then 1 else 0)+a7.cnt p (a.map .kp)=_;rw[Ja p a,anr];cases p k<;>simp<;>omega
theorem NY:∀a:List Nat,a7.eP (a.map .kp)=a
 |[]=>rfl| k::a=>by show[k]++a7.eP (a.map .kp)=_;rw[NY a];rfl
theorem KY:∀a:List Nat,a7.lR (a.map .kp)=0
 |[]=>rfl| k::a=>by show max 0 (a7.lR (a.map .kp))=0;rw[KY a];rfl
def Ar{q s n:Nat}(b:1<=q)(d:q<=n)(e:n<=6):Good (nD q s n):=by
 have hl:((kN s n).map a7.kp).length=n:=by simp[kN]
 refine⟨⟨b,by omega,by omega,ub.mpr λr a=>?_⟩,?_,?_⟩
 .obtain⟨k,c,rfl⟩:=akK.mp a
  obtain⟨j,_,rfl⟩:=akK.mp c;exact Nat.mod_lt _ (by decide)
 .show a7.lR _+1<=4;rw[KY];omega
 .show(a7.eP _).length<=12
  rw[NY];simp[kN];omega
def PO(q s n:Nat):enc (nD q s n)=.t [.int (q:Nat),.t (nA s n)]:=by
 unfold nD nA;rw[qP,amf];rfl
theorem Ly(p:Nat->Bool):∀a:List Nat,(a.filter p).length+(a.filter λk=>!p k).length=a.length
 |[]=>rfl|k::a=>by
  have:=Ly p a;rw[anr,anr,akO];cases p k<;>simp<;>omega
def afD(p:Nat->Bool)(q s n:Nat):(nD q s n).fills p=decide (q<=((kN s n).filter p).length):=by
 show decide (q<=a7.cnt p _)=_;rw[Ja]
def Vl{q r s n:Nat}(j:1<=q)(l:q<=n)(t:1<=r)(u:r<=n)(b:n<=6)(w:n<q+r):(least (nD q s n)).find? (j6 (nD r s n))=none:=by
 have ga:=Ar (s:=s) j l b;have k5:=Ar (s:=s) t u b;have c:(kN s n).length=n:=by simp[kN]
 cases C:(least (nD q s n)).find? (j6 (nD r s n))with
 |none=>rfl|some m=>
  have h:=alZ C;have d:=amZ C;obtain⟨i,mf,_⟩:=zf _ ga.1 h;unfold j6 at d;obtain⟨o,lS⟩:=aox.mp d;obtain⟨a,of,_⟩:=zf _ k5.1 (alZ lS);have f:=amZ lS;have g:=(Rd i a).mp f;rw[afD,decide_eq_true_eq]at mf of;have sp:=Ly (cB m) (kN s n);have le:((kN s n).filter (cB o)).length<=((kN s n).filter λk=>!cB m k).length:=by
   rw[<-an0,<-an0];refine List.countP_mono_left λk _ p=>?_
   cases e:cB m k with
   |false=>rfl|true=>exact(g k e p).elim
  omega
structure Bd(a k:a7):Prop where
 ga:Good a
 k5:Good k
 is:pZ [jz a k]=pure (.v (.ay true))
def wt(b:Good a)(c:Good k)(h:(least a).find? (j6 k)=none):Bd a k:=⟨b,c,Vk b c h⟩
def Pm(n d:Int)(m:Nat)(hd:pe n d):gk fx (ab oMod (ab eE (ab eH (I 1) (af (.int d))) (I 0)) (af (.int 6))) [.e,.v (.int n)] (dH 0 m)=pure (nA (n / d % 6).toNat m):=by
 rw[Fz];have e:nA (n / d % 6).toNat m=(akG m).map λk=>a_ (((n / d % 6).toNat+k) % 6):=by
  unfold nA kN;rw[amf];rfl
 rw[e];refine qF a_ (λk=>a_ (((n / d % 6).toNat+k) % 6)) (akG m) λk _=>?_
 have:(n / d+(k:Nat)) % 6=(((((n / d % 6).toNat+k) % 6:Nat)):Int):=by
  have:=mod_lt (a:=n / d) (b:=6) (by decide);omega
 rw[gZ,gZ];generalize(((n / d % 6).toNat+k) % 6:Nat)=z at *;simp[this,hd]
def Zw(s m:Nat):(nA s m).length=m:=by simp[nA,kN]
def Zl(c:Int):∃a k,ED [.int c]=pure (.v (jz a k))/\Bd a k:=by
 obtain⟨m,w,D,i⟩:∃m:Nat,1+c % 4+c / 4 % 2*(c / 8 % 3)=(m:Nat)/\1<=m/\m<=6:=by
  have B:=mod_lt (a:=c) (b:=4) (by decide);have A:=mod_lt (a:=c / 8) (b:=3) (by decide);have g:c / 4 % 2=0\/c / 4 % 2=1:=by omega
  rcases g with g|g<;>rw[g]
  .exact⟨(1+c % 4).toNat,by omega,by omega,by omega⟩
  .exact⟨(1+c % 4+c / 8 % 3).toNat,by omega,by omega,by omega⟩
 have mp:(0:Int)<(m:Int):=by omega
 obtain⟨q,eq,br,bP⟩:∃q:Nat,1+c / 144 % (m:Int)=(q:Nat)/\1<=q/\q<=m:=⟨(1+c / 144 % (m:Int)).toNat,by have:=mod_lt (a:=c / 144) mp;omega,by have:=mod_lt (a:=c / 144) mp;omega,by have:=mod_lt (a:=c / 144) mp;omega⟩;have f:(0:Int)<(q:Int):=by omega
 obtain⟨r,x,l,j,u⟩:∃r:Nat,(m:Int)+1-(q:Int)+c / 864 % (q:Int)=(r:Nat)/\1<=r/\r<=m/\m<q+r:=⟨((m:Int)+1-(q:Int)+c / 864 % (q:Int)).toNat,by have:=mod_lt (a:=c / 864) f;omega,by have:=mod_lt (a:=c / 864) f;omega,by have:=mod_lt (a:=c / 864) f;omega,by have:=mod_lt (a:=c / 864) f;omega⟩;have n:=Pm c 24 m (Cz (by decide) (by decide));generalize ax:(c / 24 % 6).toNat=s at n;have y:=Zw s m;refine⟨nD q s m,nD r s m,?_,wt (Ar br bP i) (Ar l j i) (Vl br bP l j i u)⟩;unfold jz;rw[PO,PO];have z:-4611686018427387904<=(m:Int)/\(m:Int)<4611686018427387904:=by omega
 have p:(nA s m).length+1<=aki:=by rw[y,akB];omega
 have h:(dH 0 m).length<aki:=by rw[oN,akB];omega
 have d:iF (c / 4 % 2) (c / 8 % 3):=EL (by omega) (by omega);generalize nA s m=row at *;refine hT rfl (cP (U':=[.v (.int c),.v (.int m),.e,.e]) (kk ?_) (cP (U':=[.v (.int c),.v (.int m),.v (.t row),.e]) (kk (m1 (rs:=[.fr row]) ?_ (cons_of (ya (ds:=dH 0 m) ?_ h n) rfl))) (cP (U':=[.v (.int c),.v (.int m),.v (.t row),.v (.int q)]) (kk ?_) (jg (rH rfl (rH ?_ rfl))))))
 .rw[<-w];exact fi rfl rfl (fi (aaa d) rfl rfl)
 .simp[p]
 .simp[z]
 .rw[<-eq];exact fi rfl rfl (fi (v9 mp) rfl rfl)
 .rw[<-x];exact fi rfl rfl (fi (v9 f) rfl rfl)
def fF(s k:Nat):Nat:=(s+k) % 6
def tP(s:Nat):a7:=.ch 2 [.ch 2 [.kp (fF s 0),.kp (fF s 1),.kp (fF s 2)],.ch 2 [.kp (fF s 2),.kp (fF s 3),.kp (fF s 4)],.kp (fF s 0)]
def tQ(s:Nat):a7:=.ch 2 [.kp (fF s 0),.kp (fF s 0),.kp (fF s 1)]
def tR(s:Nat):a7:=.ch 1 [.ch 2 [.kp (fF s 0),.kp (fF s 1)],.ch 2 [.kp (fF s 2),.kp (fF s 3)]]
def tS(s:Nat):a7:=.ch 2 [.ch 1 [.kp (fF s 0),.kp (fF s 1)],.ch 1 [.kp (fF s 2),.kp (fF s 3)]]
def Y8(s k:Nat):fF s k<6:=Nat.mod_lt _ (by decide)
def aek(s:Nat):Good (tP s)/\Good (tQ s)/\Good (tR s)/\Good (tS s):=by
 have k:=Y8 s;unfold tP tQ tR tS Good;simp[a7.wf,a7.nE,a7.deep,a7.lR,a7.names,a7.eP,k]
def ael:∀s,s<6->((least (tP s)).find? (j6 (tP s)))=none/\((least (tQ s)).find? (j6 (tQ s)))=none/\((least (tR s)).find? (j6 (tS s)))=none/\((least (tS s)).find? (j6 (tR s)))=none:=by
 decide +kernel
def aem(s:Nat):nA s 5=[a_ (fF s 0),a_ (fF s 1),a_ (fF s 2),a_ (fF s 3),a_ (fF s 4)]:=rfl
def Nx(c:Int):∃a k,vX [.int c]=pure (.v (jz a k))/\Bd a k:=by
 by_cases m:c % 5<3
 .obtain⟨a,k,e,o⟩:=Zl (c / 5)
  exact⟨a,k,hT rfl (st (gh m) (jg (call_of rfl e))),o⟩
 .have t:=Pm c 5 5 (Cz (by decide) (by decide))
  have j:(dH 0 5).length<aki:=by rw[oN,akB];omega
  have u:(c / 5 % 6).toNat<6:=by have:=mod_lt (a:=c / 5) (b:=6) (by decide);omega
  generalize(c / 5 % 6).toNat=s at *;obtain⟨n,p,q,r⟩:=aek s;obtain⟨w,x,h,i⟩:=ael s u;rw[aem]at t;have pre:∀{d},H5 [.v (.int c),.v (.l [a_ (fF s 0),a_ (fF s 1),a_ (fF s 2),a_ (fF s 3),a_ (fF s 4)]),.e,.e,.e]=pure (.cn (.v d))->vX [.int c]=pure (.v d):=λe=>hT rfl (fG (ir m) (cP (aeA (ya (ds:=dH 0 5) rfl j t) rfl) e))
  by_cases g:c % 5=4
  .by_cases f:c / 30 % 3=0
   .exact⟨tQ s,tQ s,pre (st (gh g) (cP rfl (cP (sH (gh f)) rfl))),wt p p x⟩
   .exact⟨tP s,tP s,pre (st (gh g) (cP rfl (cP (od (ir f)) rfl))),wt n n w⟩
  .by_cases f:c / 30 % 2=0
   .exact⟨tR s,tS s,pre (fG (ir g) (cP rfl (cP rfl (st (gh f) rfl)))),wt q r h⟩
   .exact⟨tS s,tR s,pre (fG (ir g) (cP rfl (cP rfl (fG (ir f) rfl)))),wt r q i⟩
end dV
namespace dV
open PySem PySem.Spec aB aF
@[simp] theorem ajl:uQ c b U=rL c b o3 U:=rfl
theorem P_{c:aM->M Bool}{b:aN}(J:aM->Prop)(a:aM->Nat)(f:aM->Prop)(step:∀U,J U->(c U=pure false/\f U)\/(c U=pure true/\∃U',(b U=pure (.bw U')\/b U=pure (.cm U'))/\J U'/\a U' < a U)) :
  ∀(n:Nat)(U:aM),J U->a U<n->∃U',rL c b n U=pure (.bw U')/\f U'
 |0,U,_,h=>absurd h (alJ _)|n+1,U,jx,h=>by
  rcases step U jx with⟨e,d⟩|⟨e,C,av,o,hm⟩
  .refine⟨U,?_,d⟩
   show(c U >>= _)=_;rw[e];rfl
  .obtain⟨g,aE,d⟩:=P_ J a f step n C o (by omega)
   refine⟨g,?_,d⟩;show(c U >>= _)=_;rw[e,pure_bind,if_pos rfl];rcases av with av|av<;>rw[av,pure_bind]<;>exact aE
def P5(h:n<16777216):n<o3:=by unfold o3;omega
def TC{α:Type}{xs:List α}{lo hi:Option Int}{v:α}(h:v∈cutD xs lo hi):v∈xs:=List.mem_of_mem_drop (List.mem_of_mem_take h)
end dV
namespace dV
open PySem PySem.Spec aB aF i5 gc jk
structure fQ(l:List Nat):Prop where
 p1:1<=l.length
 wz:l.length<=8
 al:l.all ow=true
def fQ.ok(h:fQ l):aku (aY l)=true:=aeV.mpr λc a=>by
 have:=akV.mp h.al c a;simp[ow]at this;omega
def fQ.iC(h:fQ l):lJ l:=⟨h.ok,h.p1,h.wz⟩
def fQ.nb(h:fQ l):e4 "name" (.str (aY l)):=adO (aaj h.p1 h.wz h.al)
def GU{i:Int}(b:0<=i)(h:i<26):∃c,aH (.v (.str "abcdefghijklmnopqrstuvwxyz")) (.v (.int i))=pure (.v (.str (aY [c])))/\ow c=true:=by
 obtain⟨c,e⟩:=xQ (xs:=("abcdefghijklmnopqrstuvwxyz":Str).cps.toList) (i:=i) b (by rw[Bm];simpa using h);refine⟨c,?_,?_⟩
 .show(match d3 ("abcdefghijklmnopqrstuvwxyz":Str).cps.toList i with
   |some c=>if("abcdefghijklmnopqrstuvwxyz":Str).length<=aki then(pure (R.v (.str ⟨#[c]⟩)):M R)else bad| none=>bad)=_
  rw[e];dsimp only;rw[if_pos (Ac (by decide +kernel))];rfl
 .have:=Bu e
  rw[Bm]at this;obtain⟨k,a,rfl⟩:=akK.mp this;have:=akZ.mp a;simp[ow];omega
def afT{a:List Nat}(d:a.length<=8){i:Int}(b:0<=i)(h:i<(a.length:Int)):∃c,aH (.v (.str (aY a))) (.v (.int i))=pure (.v (.str (aY [c]))):=by
 obtain⟨c,e⟩:=xQ (xs:=(aY a).cps.toList) (i:=i) b h;refine⟨c,?_⟩;show(match d3 (aY a).cps.toList i with
  |some c=>if(aY a).length<=aki then(pure (R.v (.str ⟨#[c]⟩)):M R)else bad| none=>bad)=_
 rw[e];dsimp only;rw[if_pos (Ac (by rw[oX];omega))];rfl
def TQ:("":Str)=aY []:=by decide +kernel
def ag0:("x":Str)=aY [120]:=by decide +kernel
def Zm(c:Int):∃a,EE [.int c]=pure (.v (.str (aY a)))/\fQ a:=by
 have k:=mod_lt (a:=c) (b:=8) (by decide);obtain⟨z,hz,g⟩:∃z:Nat,1+c % 8=(z:Nat)/\1<=z/\z<=8:=⟨(1+c % 8).toNat,by omega,by omega,by omega⟩;obtain⟨U',e,c',a,rfl,d⟩:=P_ (b:=Nq) (c:=aL (ab oLt (cF m7 (aa (I 2) aj)) (I 1)))
  (λU=>∃(c':Int)(a:List Nat),U=[.v (.int c'),.v (.int (z:Nat)),.v (.str (aY a))]/\a.all ow=true/\a.length<=z)
  (λU=>match U[(2:Nat)]? with|some (.v (.str s))=>8-s.length|_=>0)
  (λU=>∃(c':Int)(a:List Nat),U=[.v (.int c'),.v (.int (z:Nat)),.v (.str (aY a))]/\fQ a)
  (λU ⟨c',a,h,d,hl⟩=>by
   subst h
   by_cases i:a.length<z
   .refine .inr ⟨(iO (fi rfl (m1 (vB (by omega)) rfl) rfl)).trans (gh (by omega)),?_⟩
    have f:=mod_lt (a:=c' / 8) (b:=26) (by decide);obtain⟨ch,av,j⟩:=GU f.1 f.2;refine⟨[.v (.int (c' / 3)),.v (.int (z:Nat)),.v (.str (aY (a++[ch])))],.inl ?_,⟨_,_,rfl,by rw[anM,d];simpa using j,by rw[akg];exact i⟩,?_⟩
    .exact cP (kk (fi (x9 (y:=[ch]) (by simp;omega)) rfl (fi av rfl rfl))) rfl
    .show 8-(aY (a++[ch])).length<8-(aY a).length
     rw[oX,oX,akg,alv];omega
   .exact .inl ⟨(iO (fi rfl (m1 (vB (by omega)) rfl) rfl)).trans (ir (by omega)),c',a,rfl,by omega,by omega,d⟩) o3 [.v (.int c),.v (.int (z:Nat)),.v (.str (aY []))] ⟨_,_,rfl,rfl,akY _⟩ (P5 (by show 8-(aY []).length<16777216;omega))
 refine⟨a,?_,d⟩;refine hT rfl (cP (U':=[.v (.int c),.v (.int (z:Nat)),.e]) (kk (by rw[<-hz];rfl)) (cP (kk (congrArg (λz=>pure (R.v (.str z))) TQ)) (cP e rfl)))
def Bo{a:List Nat}(h:a.all ow=true)(lo hi:Option Int):(cutD a lo hi).all ow=true:=akV.mpr λx b=>akV.mp h x (TC b)
def Zn(c:Int):∃a b d,zx [.int c]=pure (.fr [.str (aY a),.str (aY b),.str (aY d)])/\fQ a/\fQ b/\fQ d:=by
 obtain⟨a,w,g⟩:=Zm c;have wz:=g.wz;have k:(0:Int)<(a.length:Int):=by have:=g.p1;omega
 have D:a.length<=aki:=Ac (by omega);obtain⟨t,B,F⟩:∃t:Nat,c / 5 % (a.length:Int)=(t:Nat)/\t<a.length:=⟨(c / 5 % (a.length:Int)).toNat,by have:=mod_lt (a:=c / 5) k;omega,by have:=mod_lt (a:=c / 5) k;omega⟩;obtain⟨x,ex⟩:=afT wz (i:=(t:Int)) (by omega) (by omega);generalize p:(anZ "abcdefghijklmnopqrstuvwxyz" (aY [x])+1+c / 7 % 25) % 26=f at *;have n:0<=f/\f<26:=by subst p;exact mod_lt (by decide)
 obtain⟨o,lS,u⟩:=GU n.1 n.2;have bb:cutD a none (some (t:Int))=a.take t:=TA _ _ (by omega);have m:cutD a (some ((t:Int)+1)) none=a.drop (t+1):=TB a (t+1) (by omega);have fD:cutD a none (some 7)=a.take 7:=Ji a 7;have r:(a.take t).length+[o].length<=1000:=by simp;omega
 have s:(a.take t).length+[o].length+(a.drop (t+1)).length<=1000:=by simp;omega
 have A:fQ (a.take t++[o]++a.drop (t+1)):=⟨by simp;omega,by simp;omega,by
  rw[anM,anM,<-bb,<-m,Bo g.al,Bo g.al];simpa using u⟩
 generalize a.take t=T at *;generalize a.drop (t+1)=σ at *;have bh:∀{U:aM}{i:Nat}{lo hi:lG}{l h:Option Int},I i U=pure (.v (.str (aY a)))->lo U=pure l->hi U=pure h->r7 (I i) lo hi U=pure (.v (.str (aY (cutD a l h)))):=λav aE cJ=>by
  show(I _ _ >>= _)=_;rw[av];show(_ >>= _)=_;rw[aE];show(_ >>= _)=_;rw[cJ];simp[oX,D,Tw]
 have pre:∀{d},fQ d->H6 [.v (.int c),.v (.str "abcdefghijklmnopqrstuvwxyz"),.v (.str (aY a)),.v (.int t),.v (.str (aY [o])),.v (.str (aY (a++[120])))]=H7 [.v (.int c),.v (.str "abcdefghijklmnopqrstuvwxyz"),.v (.str (aY a)),.v (.int t),.v (.str (aY [o])),.v (.str (aY d))]->
   ∃a b d,zx [.int c]=pure (.fr [.str (aY a),.str (aY b),.str (aY d)])/\fQ a/\fQ b/\fQ d:=λ{d} fM e=>by
  refine⟨a,T++[o]++σ,d,CT rfl (cP rfl (cP (kk (call_of rfl w)) (cP (kk (fi (v9 k) rfl (m1 (vB (by omega)) rfl))) ?_))),g,A,fM⟩;rw[B];refine cP (U':=[.v (.int c),.v (.str "abcdefghijklmnopqrstuvwxyz"),.v (.str (aY a)),.v (.int t),.v (.str (aY [o])),.e]) (kk (fi lS rfl ?_)) (cP (kk (fi (x9 (y:=[120]) (by simp;omega)) rfl (congrArg (λz=>pure (R.v (.str z))) ag0))) (e.trans ?_))
  .rw[<-p]
   refine fi (v9 (by decide)) (fi (x:=.v (.int (anZ "abcdefghijklmnopqrstuvwxyz" (aY [x])+1))) rfl (fi (x:=.v (.int (anZ "abcdefghijklmnopqrstuvwxyz" (aY [x])))) rfl ?_ rfl) rfl) rfl;show(aa (ab aH (I 2) (I 3)) aj _ >>= _)=_;rw[cons_of (fi ex rfl rfl) rfl];rfl
  .have q:=bh (U:=[.v (.int c),.v (.str "abcdefghijklmnopqrstuvwxyz"),.v (.str (aY a)),.v (.int t),.v (.str (aY [o])),.v (.str (aY d))]) (i:=2) (lo:=j0) (hi:=ks (I 3)) (h:=some t) rfl rfl rfl
   have s2:=bh (U:=[.v (.int c),.v (.str "abcdefghijklmnopqrstuvwxyz"),.v (.str (aY a)),.v (.int t),.v (.str (aY [o])),.v (.str (aY d))]) (i:=2) (lo:=ks (ab eE (I 3) (af (.int 1)))) (hi:=j0) (l:=some (t+1)) rfl rfl rfl;rw[bb]at q;rw[m]at s2;exact aec (NI (cons_of rfl (cons_of (fi (x9 (by rw[akg];exact s)) (fi (x9 r) q rfl) s2) (cons_of rfl rfl))) rfl (ak5 rfl))
 by_cases E:a.length=8
 .have j:(a.length:Int)=8:=by omega
  have s3:=bh (U:=[.v (.int c),.v (.str "abcdefghijklmnopqrstuvwxyz"),.v (.str (aY a)),.v (.int t),.v (.str (aY [o])),.v (.str (aY (a++[120])))]) (i:=2) (lo:=j0) (hi:=ks (af (.int 7))) (h:=some 7) rfl rfl rfl;rw[fD]at s3;exact pre ⟨by rw[alC];omega,by rw[alC];omega,by rw[<-fD];exact Bo g.al _ _⟩ (cP ((sH ((iO (fi yi (m1 (vB (by omega)) rfl) rfl)).trans (gh j))).trans (kk s3)) rfl)
 .have j:¬((a.length:Int)=8):=by omega
  exact pre ⟨by simp,by simp;omega,by rw[anM,g.al];rfl⟩ (cP (od ((iO (fi yi (m1 (vB (by omega)) rfl) rfl)).trans (ir j))) rfl)
def r3(W:List (List Nat))(x:Option cH):Prop:=∀y,x=some y->ji g4 W y/\mJ y
def KX(hw:fQ w)(l:w∈W)(N:List D)(d c n:Int)(i:e4 "number" (.int n)) :
  ∃x,BX [.bN N,.v (.int d),.v (.int c),.v (.str (aY w)),.v (.int n),.v (.int (d / 96 % 4)),.v (.int (d % 16))]=pure (.cn (.v (ez x)))/\r3 W x:=by
 have E:=mod_lt (a:=d) (b:=16) (by decide);have F:=mod_lt (a:=d / 96) (b:=3) (by decide);have u:=mod_lt (a:=d / 96) (b:=4) (by decide);have j:=adM u.1 u.2;generalize d / 96 % 4=g at *;generalize d % 16=y at *;have nb:=hw.nb;have iC:=hw.iC
 by_cases p:y<5
 .exact⟨some (.add w n),st (gh p) rfl,λy e=>by cases e;exact⟨⟨iC,l⟩,nb,i⟩⟩
 refine sj (fG (ir p) rfl) ?_
 by_cases r:y<7
 .exact⟨some (.put w n),st (gh r) rfl,λy e=>by cases e;exact⟨⟨iC,l⟩,nb,i⟩⟩
 refine sj (fG (ir r) rfl) ?_
 by_cases z:y=7
 .exact⟨some (.swap w (d / 96 % 3) n),st (gh z) rfl,λy e=>by cases e;exact⟨⟨iC,l⟩,nb,Fi (by omega) (by omega),i⟩⟩
 refine sj (fG (ir z) rfl) ?_
 by_cases A:y=8
 .exact⟨some (.take g),st (gh A) rfl,λy e=>by cases e;exact⟨trivial,j⟩⟩
 refine sj (fG (ir A) rfl) ?_
 by_cases s:y=9
 .obtain⟨v,B,x,ex,o⟩:=pick (λv=>∃x,v=ez x/\r3 W x) [.t [.str "renew",.int g],.t [.str "free",.int g],.t [.str "sure",.int g,.str (aY w),.int n]] (d / 400) 3 rfl (by decide) (by
   simp only[ak2];exact⟨⟨some (.renew g),rfl,λy e=>by cases e;exact⟨trivial,j⟩⟩,⟨some (.free g),rfl,λy e=>by cases e;exact⟨trivial,j⟩⟩,⟨some (.sure g w n),rfl,λy e=>by cases e;exact⟨⟨iC,l⟩,j,nb,i⟩⟩,λ_ h=>nomatch h⟩)
  subst ex;exact⟨x,st (gh s) (jg (fi (YC B) rfl rfl)),o⟩
 refine sj (fG (ir s) rfl) ?_
 by_cases f:y=10\/y=11
 .obtain⟨a,k,e,m⟩:=Nx (d / 96)
  refine⟨some (.move (jz a k)),st ?_ (jg (rH rfl (call_of rfl e))),λy e=>by cases e;exact⟨⟨⟨_,rfl⟩,LV m.ga m.k5⟩,adN m.is⟩⟩;rcases f with f|f
  .exact ack (gh f)
  .exact(wy (ir (by omega))).trans (gh f)
 refine sj (fG ((wy (ir λe=>f (.inl e))).trans (ir λe=>f (.inr e))) rfl) ?_
 by_cases q:y=12
 .by_cases bP:d / 96 % 3=0
  .exact⟨some .fin,st ((GW (gh q)).trans (gh bP)) rfl,λy e=>by cases e;exact⟨trivial,trivial⟩⟩
  .exact⟨none,fG ((GW (gh q)).trans (ir bP)) rfl,λy e=>by cases e⟩
 .exact⟨none,fG (Ra (ir q)) rfl,λy e=>by cases e⟩
def Zk(k:fQ a)(j:fQ b)(hd:fQ d)(f c:Int):∃x,zw [.l [.str (aY a),.str (aY b),.str (aY d)],.int f,.int c]=pure (.v (ez x))/\r3 [a,b,d] x:=by
 obtain⟨v,m,w,rfl,hw,i⟩:=pick (λv=>∃w,v=.str (aY w)/\fQ w/\w∈[a,b,d]) [.str (aY a),.str (aY b),.str (aY d)] (f / 16) 3 rfl (by decide) (by simp only[ak2];exact⟨⟨a,rfl,k,by simp⟩,⟨b,rfl,j,by simp⟩,⟨d,rfl,hd,by simp⟩,λ_ h=>nomatch h⟩);have q:=mod_lt (a:=c) (b:=10000000000000000000000000000000000000000) (by decide);have p:=mod_lt (a:=f / 96) (b:=3) (by decide);generalize[D.str (aY a),.str (aY b),.str (aY d)]=N at *;have pre:∀{n:Int}{x},b3 (aL (ab oEq (ab oMod (ab eH (I 1) (af (.int 48))) (af (.int 2))) (af (.int 1)))) (b' 4 (ab oMod (ab eH (I 1) (af (.int 96))) (af (.int 3)))) bT [.bN N,.v (.int f),.v (.int c),.v (.str (aY w)),.v (.int (c % 10000000000000000000000000000000000000000-100000000000000000000)),.e,.e]=pure (.bw [.bN N,.v (.int f),.v (.int c),.v (.str (aY w)),.v (.int n),.e,.e])->BX [.bN N,.v (.int f),.v (.int c),.v (.str (aY w)),.v (.int n),.v (.int (f / 96 % 4)),.v (.int (f % 16))]=pure (.cn (.v (ez x)))->zw [.l N,.int f,.int c]=pure (.v (ez x)):=λav e=>
  hT rfl (cP (kk (fi (x:=.bN N) (by show(match d3 N (f / 16 % 3)with|some d=>pure (R.v d)|none=>bad)=_;rw[m]) rfl rfl)) (cP (U':=[.bN N,.v (.int f),.v (.int c),.v (.str (aY w)),.v (.int (c % 10000000000000000000000000000000000000000-100000000000000000000)),.e,.e]) (by with_unfolding_all rfl) (cP av (cP rfl (cP rfl e)))))
 by_cases g:f / 48 % 2=1
 .obtain⟨x,e,o⟩:=KX hw i N f c (f / 96 % 3) (Fi (by omega) (by omega))
  exact⟨x,pre ((sH (gh g)).trans rfl) e,o⟩
 .obtain⟨x,e,o⟩:=KX hw i N f c (c % 10000000000000000000000000000000000000000-100000000000000000000) (Fi (by omega) (by omega))
  exact⟨x,pre (od (ir g)) e,o⟩
section
variable{S S1 aZ:bJ}{U U':aM}{i k:Nat}{p p1:hQ}{h ag c:cY}{aI:fc}{bd m n:bX}{t:aM->M Bool}{r:R}
theorem DE{m:aN}(e:aD S (m U) (.bw U'))(q:i7 S i p (bd U') aI c):i7 S i p (bB (b5 m) bd U) aI c:=by
 obtain⟨aZ,ck,t,s⟩:=q;exact⟨aZ,ck,df (aD.to e) t,s⟩
theorem DD(q:i7 S i p (m U) (.bw U') ag)(r:∀S1 p1,dn S1 i p1 ag->i7 S1 i p1 (bd U') aI c):i7 S i p (bB m bd U) aI c:=by
 obtain⟨S1,p1,d,a⟩:=q;obtain⟨aZ,ck,b,s2⟩:=r S1 p1 a.at';exact⟨aZ,ck,df d b,a.trans s2⟩
theorem My(e:aD S (t U) true)(q:i7 S i p (m U) aI c):i7 S i p (fz (fH t) m n U) aI c:=by
 obtain⟨aZ,ck,t,s⟩:=q;exact⟨aZ,ck,o8 (aD.to e) t,s⟩
theorem XY(e:aD S (t U) false)(q:i7 S i p (n U) aI c):i7 S i p (fz (fH t) m n U) aI c:=by
 obtain⟨aZ,ck,t,s⟩:=q;exact⟨aZ,ck,ql (aD.to e) t,s⟩
def yS{m:aN}(H:dn S i p h)(e:aD S (m U) aI):i7 S i p (b5 m U) aI h:=⟨S,p,e,.refl H⟩
theorem vm{m:Str}{ms:cZ}{rs:List R}(H:dn S i p h)(g:h.Do mf (rs.map R.arg) r c)(d:I k U=pure (.v (.ref i)))(a:p.aU.lookup m=none)(b:aD S (ms U) rs)(ax:rs.all R.iB=true):i7 S i p (hn (dZ "House" m mf (I k) (eF ms)) U) (.bw U) c:=by
 obtain⟨aZ,ck,t,s⟩:=g S i p H;exact⟨aZ,ck,AN (nI H.bc (.of d) a b.to ax t),s⟩
end
theorem Qm{c:aM->M Bool}{b:bX}(J:aM->bJ->Prop)(d:aM->Nat)(g:aM->bJ->Prop)(step:∀U S,J U S->(aD S (c U) false/\g U S)\/(aD S (c U) true/\∃U' a,bH S (b U) (.bw U') a/\J U' a/\d U' < d U)) :
  ∀(n:Nat)(U:aM)(S:bJ),J U S->d U<n->∃U' a,bH S (uf (fH c) b n U) (.bw U') a/\g U' a
 |0,U,S,_,h=>absurd h (alJ _)|n+1,U,S,jx,h=>by
  rcases step U S jx with⟨e,f⟩|⟨e,C,S1,av,o,hm⟩
  .exact⟨U,S,(aD.to e).bind rfl,f⟩
  .obtain⟨j,i,aE,f⟩:=Qm J d g step n C S1 o (by omega)
   exact⟨j,i,(aD.to e).bind (by rw[if_pos rfl];exact av.bind aE),f⟩
theorem Gn{b:D->bX}(J:Nat->aM->bJ->Prop):∀(ds:List D)(j:Nat)(U:aM)(S:bJ),J j U S->(∀i d U S,ds[i]? = some d->J (j+i) U S->∃U' a,bH S (b d U) (.bw U') a/\J (j+i+1) U' a)->∃U' a,bH S (nG b ds U) (.bw U') a/\J (j+ds.length) U' a
 |[],j,U,S,h,_=>⟨U,S,rfl,h⟩
 |d::ds,j,U,S,h,step=>by
  obtain⟨m,S1,n,f⟩:=step 0 d U S rfl h;obtain⟨k,c,l,g⟩:=Gn J ds (j+1) m S1 f λi e U S he hi=>by
   rw[show j+1+i=j+(i+1)by omega]at hi ⊢;exact step (i+1) e U S he hi
  exact⟨k,c,agZ n l,by rw[akO,show j+(ds.length+1)=j+1+ds.length by omega];exact g⟩
def ZK(h:iK Γ L):∃(w:Str)(b c:Nat)(g f i:aF.D),L=.t [.str w,.int b,.int c,g,f,i]/\aku w=true/\((w == "ask" || w == "tell")=true/\c<6\/(w == "ask" || w == "tell")=false/\b<6):=by
 cases h with
 | @ask me k e s C o J=>exact⟨"ask",me,k,_,_,_,rfl,by decide +kernel,.inl ⟨by decide +kernel,o⟩⟩| @tell me k e s p n d w C o J U=>exact⟨"tell",me,k,_,_,_,rfl,by decide +kernel,.inl ⟨by decide +kernel,o⟩⟩| @grant k a e s kp w C o J U eK=>exact⟨"grant",k,a,_,_,_,rfl,by decide +kernel,.inr ⟨by decide +kernel,o⟩⟩| @kept k a e s C o=>exact⟨"kept",k,a,_,_,_,rfl,by decide +kernel,.inr ⟨by decide +kernel,o⟩⟩| @late k a e s p C o=>exact⟨"late",k,a,_,_,_,rfl,by decide +kernel,.inr ⟨by decide +kernel,o⟩⟩
def FU(h:cY):h.il h:=λ_=>rfl
def PG{h h' c:cY}(a:h.il h')(b:h'.il c):h.il c:=λi=>(b i).trans (a i)
section
variable{Γ:fe}(O:Γ.Ok)
include O
theorem SX{h:cY}(H:d8 Γ h)(s:k<h.ls.length)(hz:h.ls.length<=900000)(E:h.rs.length<=100000){S:bJ}(A:dn S i p h)(st d m:Int)(z l:Slot) :
  ∃h' B D,∃b:Nat,i7 S i p (za [.v (.ref i),.v (.int st),.v (.int d),.v (.int m),.v (.int (k:Nat)),z,l]) (.bw [.v (.ref i),.v (.int st),.v (.int d),.v (.int (m-(b:Nat))),.v (.int ((k+1:Nat):Int)),B,D]) h'/\
   b<=1/\d8 Γ h'/\h.ls.length<=h'.ls.length/\h'.ls.length<=h.ls.length+6*b/\h'.rs.length<=h.rs.length+b/\h.il h':=by
 have el:h.ls[k]? = some h.ls[k]:=akx _;have lt:=Ej A el;obtain⟨w,a,e,g,f,j,K,dB,cs⟩:=ZK (H.ls _ (amd s));obtain⟨Y,h',G,H',y,M,F,L,_⟩:=B8 H O s hz E;rw[K]at lt;have br:=hO dB (show aku "ask"=true by decide +kernel);have bP:=hO dB (show aku "tell"=true by decide +kernel);obtain⟨kp,cJ⟩:∃kp:Nat,aD S (b3 (e' (aL (ab oEq (ab aH (I 5) (af (.int 0))) (af (.str "ask")))) (aL (ab oEq (ab aH (I 5) (af (.int 0))) (af (.str "tell"))))) (b' 6 (ab aH (I 5) (af (.int 2)))) bT [.v (.ref i),.v (.int st),.v (.int d),.v (.int m),.v (.int (k:Nat)),.v (.t [.str w,.int a,.int e,g,f,j]),.v (.int a)]) (.bw [.v (.ref i),.v (.int st),.v (.int d),.v (.int m),.v (.int (k:Nat)),.v (.t [.str w,.int a,.int e,g,f,j]),.v (.int kp)]):=by
  generalize(w == "ask")=C at *;generalize(w == "tell")=J at *;have n:aD S (aL (ab oEq (ab aH (I 5) (af (.int 0))) (af (.str "ask"))) [.v (.ref i),.v (.int st),.v (.int d),.v (.int m),.v (.int (k:Nat)),.v (.t [.str w,.int a,.int e,g,f,j]),.v (.int a)]) C:=cy (cE br (.of rfl) (.of rfl));have u:aD S (aL (ab oEq (ab aH (I 5) (af (.int 0))) (af (.str "tell"))) [.v (.ref i),.v (.int st),.v (.int d),.v (.int m),.v (.int (k:Nat)),.v (.t [.str w,.int a,.int e,g,f,j]),.v (.int a)]) J:=cy (cE bP (.of rfl) (.of rfl))
  cases C with
  |true=>exact⟨e,oi (y5 n) (.of rfl)⟩|false=>
   cases J with
   |true=>exact⟨e,oi (j' n u) (.of rfl)⟩|false=>exact⟨a,l5 (j' n u) (.of rfl)⟩
 have pre:∀{o c},i7 S i p ((bB (fz (fH (aL (ab oEq (ab rp (ab tC (I 2) (I 6)) (af (.int 1))) (af (.int 1))))) (bB (hn (dZ "House" "bring" lg (I 0) (eF (aa (I 4) aj)))) (b5 (b' 3 (ab lp (I 3) (af (.int 1)))))) (b5 bT)) (b5 (b' 4 (ab eE (I 4) (af (.int 1)))))) [.v (.ref i),.v (.int st),.v (.int d),.v (.int m),.v (.int (k:Nat)),.v (.t [.str w,.int a,.int e,g,f,j]),.v (.int kp)]) o c->i7 S i p (za [.v (.ref i),.v (.int st),.v (.int d),.v (.int m),.v (.int (k:Nat)),z,l]) o c:=λq=>
  DE (U':=[.v (.ref i),.v (.int st),.v (.int d),.v (.int m),.v (.int (k:Nat)),.v (.t [.str w,.int a,.int e,g,f,j]),l]) (iW (iw A.bc (.of rfl) rfl (bS (x:=.v (.int k)) (.of rfl) cS) lt) rfl)<|
  DE (U':=[.v (.ref i),.v (.int st),.v (.int d),.v (.int m),.v (.int (k:Nat)),.v (.t [.str w,.int a,.int e,g,f,j]),.v (.int a)]) (.of rfl)<|DE cJ q
 have cC:aD S (aL (ab oEq (ab rp (ab tC (I 2) (I 6)) (af (.int 1))) (af (.int 1))) [.v (.ref i),.v (.int st),.v (.int d),.v (.int m),.v (.int (k:Nat)),.v (.t [.str w,.int a,.int e,g,f,j]),.v (.int kp)]) (decide (alM (d / 2 ^ kp) 1=1)):=.of (by simp;rfl)
 by_cases r:alM (d / 2 ^ kp) 1=1
 .rw[decide_eq_true r]at cC
  refine⟨h',_,_,1,pre (DD (U':=[.v (.ref i),.v (.int st),.v (.int d),.v (.int (m-1)),.v (.int (k:Nat)),.v (.t [.str w,.int a,.int e,g,f,j]),.v (.int kp)]) (My cC (DD (vm (rs:=[.v (.int k)]) A G rfl rfl (.of rfl) rfl) λS p A=>yS A (.of rfl))) λS p A=>yS A (.of rfl)),akk _,H',by rw[y,akg];omega,by rw[y,akg];omega,F,L⟩
 .rw[decide_eq_false r]at cC
  refine⟨h,_,_,0,by rw[show m-((0:Nat):Int)=m by omega];exact pre (DD (XY cC (yS A (.of rfl))) λS p A=>yS A (.of rfl)),by omega,H,akk _,by omega,by omega,FU h⟩
theorem SW{h:cY}(H:d8 Γ h){st:Nat}(ax:st<=h.ls.length)(hz:h.ls.length<=800000)(N:h.rs.length<=90000)(f:Int){m:Nat}(X:m<=26){S:bJ}{i:Nat}{p:hQ}(A:dn S i p h) :
  ∃h' n t,bH S (EB [.ref i,.int st,.int f,.int m]) (.v .aJ) n/\hq S n i p t h'/\d8 Γ h'/\h'.ls.length<=h.ls.length+156/\h'.rs.length<=h.rs.length+26/\h.il h'/\h.ls.length<=h'.ls.length:=by
 obtain⟨U',n,e,g,t,k,d,a,x,rfl,B,G,u,hD,de,s⟩:=Qm (b:=za) (c:=gN (aL (ab oLt (I 4) (dk "House" "many" jG (I 0) aj))) (aL (ab nv (I 3) (af (.int 0)))))
  (λU T=>∃(g:cY)(q:hQ)(k j:Nat)(d a:Slot),U=[.v (.ref i),.v (.int st),.v (.int f),.v (.int ((m:Int)-(j:Nat))),.v (.int (k:Nat)),d,a]/\hq S T i p q g/\j<=m/\d8 Γ g/\g.ls.length<=h.ls.length+6*j/\g.rs.length<=h.rs.length+j/\h.il g/\h.ls.length<=g.ls.length)
  (λU=>match U[(4:Nat)]? with|some (.v (.int k))=>900000-k.toNat|_=>0)
  (λU T=>∃(g:cY)(q:hQ)(k:Int)(d a:Slot)(x:Int),U=[.v (.ref i),.v (.int st),.v (.int f),.v (.int x),.v (.int k),d,a]/\hq S T i p q g/\d8 Γ g/\g.ls.length<=h.ls.length+156/\g.rs.length<=h.rs.length+26/\h.il g/\h.ls.length<=g.ls.length)
  (λU T ⟨g,q,k,j,d,a,D,B,W,G,u,hD,de,s⟩=>by
   subst D;have l:aD T (aL (ab oLt (I 4) (dk "House" "many" jG (I 0) aj)) [.v (.ref i),.v (.int st),.v (.int f),.v (.int ((m:Int)-(j:Nat))),.v (.int (k:Nat)),d,a]) (decide ((k:Int)<g.ls.length)):=cy (cE rfl (.of rfl) (om B.at' rfl));have r:aD T (aL (ab nv (I 3) (af (.int 0))) [.v (.ref i),.v (.int st),.v (.int f),.v (.int ((m:Int)-(j:Nat))),.v (.int (k:Nat)),d,a]) (decide ((m:Int)-(j:Nat) > 0)):=.of rfl
   by_cases bb:k<g.ls.length
   .rw[decide_eq_true (by omega)]at l
    by_cases M:j<m
    .rw[decide_eq_true (by omega)]at r
     obtain⟨g',y,z,b,⟨K,E,e,w⟩,P,F,R,Q,V,L⟩:=SX O G bb (by omega) (by omega) B.at' st f ((m:Int)-(j:Nat)) d a;refine .inr ⟨jb l r,_,K,e,⟨g',E,k+1,j+b,y,z,?_,B.trans w,by omega,F,by omega,by omega,PG de L,by omega⟩,?_⟩
     .rw[show(m:Int)-(j:Nat)-(b:Nat)=(m:Int)-((j+b:Nat):Int)by omega]
     .show 900000-((k+1:Nat):Int).toNat<900000-((k:Nat):Int).toNat
      omega
    .rw[decide_eq_false (by omega)]at r
     exact .inl ⟨jb l r,g,q,_,_,_,_,rfl,B,G,by omega,by omega,de,s⟩
   .rw[decide_eq_false (by omega)]at l
    exact .inl ⟨ni l,g,q,_,_,_,_,rfl,B,G,by omega,by omega,de,s⟩) o3 [.v (.ref i),.v (.int st),.v (.int f),.v (.int m),.v (.int st),.e,.e] S ⟨h,p,st,0,.e,.e,by simp,.refl A,akY _,H,by omega,by omega,FU h,akk _⟩ (P5 (by show 900000-((st:Nat):Int).toNat<16777216;omega))
 exact⟨g,n,t,xd rfl (df (aD.to (.of rfl)) e),B,G,u,hD,de,s⟩
end
abbrev Ev(i:Nat)(N:List D)(na c k a b cQ st:Int)(d f e:Slot):aM:=[.v (.ref i),.bN N,.v (.int na),.v (.int c),.v (.int k),.v (.int a),.v (.int b),.v (.int cQ),.v (.int st),d,f,e]
def xq(h:cY):Prop:=h.ls=[]->∀(k:Nat)(A:bK),h.as[k]? = some A->A.bW="calm"/\A.bM=false
def LG{h:cY}(z:h.ls≠[]):xq h:=λe=>absurd e z
structure rU(W:List (List Nat))(na:Nat)(w:Nat->List (Option cH))(h:cY)(n:Nat):Prop where
 ok:d8 (i' W na w) h
 jN:∀(k:Nat)(A:bK),h.as[k]? = some A->A.wi=((w k).length:Nat)
 rk:many w<=n
 ds:∀(k:Nat)(d:Option cH)(x:cH),d∈w k->d=some x->ji g4 W x
 ls:h.ls.length<=200*n
 rs:h.rs.length<=40*n
 fr:xq h
def FW{w:Nat->List (Option cH)}{h h':cY}(a:h.il h')(jN:∀(k:Nat)(A:bK),h.as[k]? = some A->A.wi=((w k).length:Nat)):∀(k:Nat)(A:bK),h'.as[k]? = some A->A.wi=((w k).length:Nat):=λk A e=>by
 have:=a k;rw[e]at this
 cases q:h.as[k]? with
 |none=>rw[q]at this;cases this
 |some B=>
  rw[q]at this;injection this with this
  have:=jN k B q;omega
section
variable{Γ:fe}(O:Γ.Ok)
include O
theorem T5{h:cY}(H:d8 Γ h)(hz:h.ls.length<=800000)(aC:h.rs.length<=90000){S:bJ}(A:dn S i p h)(N:List D)(na c k f l cQ:Int)(Z:f % 4=3) :
  ∃h',i7 S i p (BY (Ev i N na c k f l cQ (h.ls.length:Nat) .e .e .e)) (.cn (.v .aJ)) h'/\d8 Γ h'/\h'.ls.length<=h.ls.length+18/\h'.rs.length<=h.rs.length+3/\h.il h'/\h.ls.length<=h'.ls.length/\(h.ls=[]->h'=h):=by
 obtain⟨n,L,hI⟩:∃n:Nat,1+f / 24 % 3=(n:Nat)/\n<=3:=⟨(1+f / 24 % 3).toNat,by have:=mod_lt (a:=f / 24) (b:=3) (by decide);omega,by have:=mod_lt (a:=f / 24) (b:=3) (by decide);omega⟩;have wI:-4611686018427387904<=(n:Int)/\(n:Int)<4611686018427387904:=by omega
 have t:(dH 0 n).length=n:=oN _ _;obtain⟨U',P,e,g,q,y,rfl,B,G,w,hD,de,u,E⟩:=Gn (b:=λd U=>Np (U.set 9 (.v d)))
  (λj U T=>∃(g:cY)(q:hQ)(y:Slot),U=Ev i N na c k f l cQ (h.ls.length:Nat) y .e .e/\hq S T i p q g/\d8 Γ g/\g.ls.length<=h.ls.length+6*j/\g.rs.length<=h.rs.length+j/\h.il g/\h.ls.length<=g.ls.length/\(h.ls=[]->g=h))
  (dH 0 n) 0 (Ev i N na c k f l cQ (h.ls.length:Nat) .e .e .e) S ⟨h,p,_,rfl,.refl A,H,by omega,by omega,FU h,akk _,λ_=>rfl⟩ (λj d U T hd ⟨g,q,y,Q,B,G,w,hD,de,u,E⟩=>by
   subst Q;obtain⟨hi,rfl⟩:=Fy hd;rw[amv]at w hD ⊢;have r:aD T (aL (ab nv (I 8) (af (.int 0))) (Ev i N na c k f l cQ (h.ls.length:Nat) (.v (.int (0+(j:Nat)))) .e .e)) (decide ((h.ls.length:Int) > 0)):=.of rfl
   by_cases s:0<h.ls.length
   .rw[decide_eq_true (by omega)]at r
    obtain⟨x,X,M⟩:∃x:Nat,(l+(0+(j:Nat))) % (h.ls.length:Int)=(x:Nat)/\x<h.ls.length:=⟨((l+(0+(j:Nat))) % (h.ls.length:Int)).toNat,by have:=mod_lt (a:=l+(0+(j:Nat))) (b:=(h.ls.length:Int)) (by omega);omega,by have:=mod_lt (a:=l+(0+(j:Nat))) (b:=(h.ls.length:Int)) (by omega);omega⟩;obtain⟨Y,g',V,o,F,sY,bz,J,_⟩:=B8 G O (k:=x) (by omega) (by omega) (by omega);obtain⟨C,W,R,K⟩:=My (n:=b5 bT) r (vm (k:=0) (m:="bring") (ms:=aa (ab oMod (ab eE (I 6) (I 9)) (I 8)) aj) (rs:=[.v (.int x)]) B.at' V rfl rfl (bS (cE (x:=.v (.int (l+(0+(j:Nat))))) (v9 (by omega)) (cE rfl (.of rfl) (.of rfl)) (.of rfl)) cS |> λz=>by rw[X]at z;exact z) rfl);exact⟨_,C,R,g',W,_,rfl,B.trans K,o,by rw[F,akg];omega,by omega,PG de J,by rw[F,akg];omega,λz=>absurd s (by rw[z];decide)⟩
   .rw[decide_eq_false (by omega)]at r
    exact⟨_,T,ql (aD.to r) rfl,g,q,_,rfl,B,G,by omega,by omega,de,u,E⟩)
 rw[amv,t]at w hD;refine⟨g,⟨P,q,AO (o8 (aD.to (cy (.of (by simp[Z])))) (df (Qg (ds:=dH 0 n) (.of (by simp[L,wI])) e) (aD.to (.of rfl)))),B⟩,G,by omega,by omega,de,u,E⟩
end
def Ue(y:cH):∃iC:Str,aH (.v y.D) (.v (.int 0))=pure (.v (.str iC))/\aku iC=true/\(R.v y.D).j8=false:=by
 cases y with
 |put a n=>exact⟨"put",by simp[cH.D],by decide +kernel,rfl⟩| add a n=>exact⟨"add",by simp[cH.D],by decide +kernel,rfl⟩| swap a o n=>exact⟨"swap",by simp[cH.D],by decide +kernel,rfl⟩| take g=>exact⟨"take",by simp[cH.D],by decide +kernel,rfl⟩| renew g=>exact⟨"renew",by simp[cH.D],by decide +kernel,rfl⟩| free g=>exact⟨"free",by simp[cH.D],by decide +kernel,rfl⟩| sure g a n=>exact⟨"sure",by simp[cH.D],by decide +kernel,rfl⟩| move z=>exact⟨"move",by simp[cH.D],by decide +kernel,rfl⟩| fin=>exact⟨"end",by simp[cH.D],by decide +kernel,rfl⟩
def T7{h:cY}(q:h.as[cQ]? = some A){S:bJ}(B:dn S i p h)(N:List D)(na c k a b st:Int)(l:r3 W x)(d f:Slot) :
  ∃m,aD S (b3 (gN (aL (ab iX (I 10) (af (.aJ)))) (gN (aL (ab oEq (ab aH (I 10) (af (.int 0))) (af (.str "move")))) (aL (ab nv (ab aH (dk "House" "place" vK (I 0) (aa (I 7) aj)) (af (.int 0))) (af (.int 6)))))) (b' 10 (af (.aJ))) bT (Ev i N na c k a b (cQ:Nat) st d (.v (ez x)) f)) (.bw (Ev i N na c k a b (cQ:Nat) st d (.v (ez m)) f))/\r3 W m:=by
 have nn:aD S (aL (ab iX (I 10) (af .aJ)) (Ev i N na c k a b (cQ:Nat) st d (.v (ez x)) f)) (!f5 (ez x)):=cy (cE (zN (ez x)) (.of rfl) (.of rfl))
 cases x with
 |none=>exact⟨none,l5 (ni nn) (.of rfl),l⟩|some y=>
  obtain⟨iC,av,dB,_⟩:=Ue y;have br:=hO dB (show aku "move"=true by decide +kernel);have n:(!f5 (ez (some y)))=true:=by cases y<;>rfl
  rw[n]at nn;have g:aD S (aL (ab oEq (ab aH (I 10) (af (.int 0))) (af (.str "move"))) (Ev i N na c k a b (cQ:Nat) st d (.v (ez (some y))) f)) (iC == "move"):=cy (cE br (cE (x:=.v y.D) av (.of rfl) (.of rfl)) (.of rfl));have j:aD S (aL (ab nv (ab aH (dk "House" "place" vK (I 0) (aa (I 7) aj)) (af (.int 0))) (af (.int 6))) (Ev i N na c k a b (cQ:Nat) st d (.v (ez (some y))) f)) (decide (A.ct > 6)):=cy (cE (x:=.v (.int A.ct)) rfl (cE (x:=.v (.t [.int A.ct,A.h,A.op])) rfl (iw B.bc (.of rfl) rfl (bS (x:=.v (.int cQ)) (.of rfl) cS) (XW B q)) (.of rfl)) (.of rfl))
  cases o:(iC == "move")with
  |false=>rw[o]at g;exact⟨some y,l5 (jb nn (ni g)) (.of rfl),l⟩|true=>
   rw[o]at g
   cases C:decide (A.ct > 6)with
   |false=>rw[C]at j;exact⟨some y,l5 (jb nn (jb g j)) (.of rfl),l⟩| true=>rw[C]at j;exact⟨none,oi (jb nn (jb g j)) (.of rfl),λy e=>by cases e⟩
def MO{W:List (List Nat)}(s:W.length<63){na:Nat}(n:na<=6){w:Nat->List (Option cH)}{h:cY}(H:d8 (i' W na w) h)(jN:∀(k:Nat)(A:bK),h.as[k]? = some A->A.wi=((w k).length:Nat))(rk:many w<=59)
  (ds:∀(k:Nat)(d:Option cH)(x:cH),d∈w k->d=some x->ji g4 W x) (hz:h.ls.length<=800000) (u:h.rs.length<=90000) {cQ:Nat}{A:bK}(c:h.as[cQ]? = some A) (ax:A.bW="calm") (m:A.bM=false) {x:Option cH}(g:r3 W x) :
  ∃h' R,h.Do rg [.int cQ,ez x] (.fr R) h'/\d8 (i' W na (addW w cQ x)) h'/\(∀(k:Nat)(A:bK),h'.as[k]? = some A->A.wi=((addW w cQ x k).length:Nat))/\many (addW w cQ x)=many w+1/\
   (∀(k:Nat)(d:Option cH)(y:cH),d∈addW w cQ x k->d=some y->ji g4 W y)/\h.ls.length<=h'.ls.length/\h'.ls.length<=h.ls.length+6/\h'.rs.length<=h.rs.length+1/\h'.ls≠[]:=by
 have D:cQ<na:=(H.as cQ A c).lt;have j:cQ<6:=by omega
 have i:∀(k:Nat)(d:Option cH)(y:cH),d∈addW w cQ x k->d=some y->ji g4 W y:=λk d y b e=>by
  unfold addW at b
  by_cases q:k=cQ
  .rw[if_pos q]at b
   rcases alc.mp b with z|z
   .exact ds cQ d y z e
   .rw[akF.mp z]at e
    exact(g y e).1
  .rw[if_neg q]at b
   exact ds k d y b e
 have r:=Q3 (w:=w) j x;have p:(i' W na (addW w cQ x)).Ok:=su s n (by omega) i;have H':=d8.mono (US (W:=W) (na:=na) (Q5 w cQ x)) H;have hd:x=none\/nr [ez x]=pure (.v (.ay true)):=by
  cases x with
  |none=>exact .inl rfl|some y=>exact .inr (Yv (g y rfl).2)
 have hw:(i' W na (addW w cQ x)).mS cQ (A.wi+1) x:=by
  rw[jN cQ A c];exact Q4 j x
 obtain⟨Y,h',e,G,f,E,F,l,t⟩:=XR p H' c ax m hd hw (by omega) (by omega);refine⟨h',_,e,G,λk B a=>?_,r,i,by rw[f,akg];omega,by rw[f,akg];omega,by omega,by rw[f];intro z;exact t (aoO.mp z).2⟩;rw[l]at a;unfold addW
 by_cases q:k=cQ
 .subst q
  rw[akE (akd.mp c).1]at a;injection a with a
  rw[if_pos rfl,<-a,akg];have:=jN k A c;show A.wi+1=_;rw[this];rfl
 .rw[akn (λz=>q z.symm)]at a
  rw[if_neg q];exact jN k B a
def T4{a b d:List Nat}(Q:fQ a)(P:fQ b)(hd:fQ d){na:Nat}(F:na<=6){w:Nat->List (Option cH)}{h:cY}(H:d8 (i' [a,b,d] na w) h)(jN:∀(k:Nat)(A:bK),h.as[k]? = some A->A.wi=((w k).length:Nat))(rk:many w<=59)
  (ds:∀(k:Nat)(d':Option cH)(x:cH),d'∈w k->d'=some x->ji g4 [a,b,d] x) (hz:h.ls.length<=800000) (N:h.rs.length<=90000) (fr:xq h) {cQ:Nat}(K:cQ<na) {S:bJ}{i:Nat}{p:hQ}(B:dn S i p h) (c k g f st:Int) :
  ∃s h' mq S1 p1,hq S S1 i p p1 h'/\(∀{C J},bH S1 (BZ (Ev i [.str (aY a),.str (aY b),.str (aY d)] na c k g f (cQ:Nat) st .e mq .e)) C J->bH S (H4 (Ev i [.str (aY a),.str (aY b),.str (aY d)] na c k g f (cQ:Nat) st .e .e .e)) C J)/\d8 (i' [a,b,d] na s) h'/\(∀(k:Nat)(A:bK),h'.as[k]? = some A->A.wi=((s k).length:Nat))/\many s<=many w+1/\
   (∀(k:Nat)(d':Option cH)(y:cH),d'∈s k->d'=some y->ji g4 [a,b,d] y)/\h.ls.length<=h'.ls.length/\h'.ls.length<=h.ls.length+6/\h'.rs.length<=h.rs.length+1/\h'.ls≠[]:=by
 have O:(i' [a,b,d] na w).Ok:=su (by simp) F (by omega) ds;obtain⟨A,j,hV⟩:=H.asker K;have n:aD S (aL (ab dA (dk "House" "stand" zr (I 0) (aa (I 7) aj)) (af (.str "calm"))) (Ev i [.str (aY a),.str (aY b),.str (aY d)] na c k g f (cQ:Nat) st .e .e .e)) (!(A.bW == "calm")):=cy (cE (x8 hV.bW) (iw B.bc (.of rfl) rfl (bS (x:=.v (.int cQ)) (.of rfl) cS) (XX B j)) (.of rfl));have eo:aD S (d_ (aL (dk "House" "knows_over" zp (I 0) (aa (I 7) aj))) (Ev i [.str (aY a),.str (aY b),.str (aY d)] na c k g f (cQ:Nat) st .e .e .e)) (!A.bM):=ix (cy (iw B.bc (.of rfl) rfl (bS (x:=.v (.int cQ)) (.of rfl) cS) (XU B j)))
 by_cases ax:A.bW="calm"
 .rw[ax,beq_self_eq_true]at n
  cases o:A.bM with
  |true=>
   rw[o]at eo;exact⟨w,h,.e,S,p,.refl B,λq=>df (ql (aD.to n) (ql (aD.to eo) rfl)) q,H,jN,by omega,ds,akk _,by omega,by omega,λz=>by have:=(fr z cQ A j).2;rw[o]at this;cases this⟩
  |false=>
   rw[o]at eo;obtain⟨x,ex,u⟩:=Zk Q P hd f c;obtain⟨t,Z,D⟩:=T7 (W:=[a,b,d]) j B [.str (aY a),.str (aY b),.str (aY d)] na c k g f st u .e .e;obtain⟨h',R,X,G,M,am,hA,l,L,T,xg⟩:=MO (by simp) F H jN rk ds hz N j ax o D;obtain⟨S1,p1,E,s2⟩:=vm (k:=0) (U:=Ev i [.str (aY a),.str (aY b),.str (aY d)] na c k g f (cQ:Nat) st .e (.v (ez t)) .e) (ms:=aa (I 7) (aa (I 10) aj)) (m:="begin") (rs:=[.v (.int cQ),.v (ez t)]) B X rfl rfl (.of rfl) rfl;refine⟨addW w cQ t,h',.v (ez t),S1,p1,s2,λq=>df (ql (aD.to n) (o8 (aD.to eo) (df (U':=Ev i [.str (aY a),.str (aY b),.str (aY d)] na c k g f (cQ:Nat) st .e (.v (ez x)) .e) (iW (r:=.v (ez x)) (eN (rs:=[.bN [.str (aY a),.str (aY b),.str (aY d)],.v (.int f),.v (.int c)]) (.of rfl) (.of ex)) rfl).to (df Z.to E)))) q,G,M,by omega,hA,l,L,T,xg⟩
 .rw[show(A.bW == "calm")=false by rw[beq_eq_false_iff_ne];exact ax]at n
  obtain⟨Y,h',e,G,l,L,V,sw⟩:=XS O H K (by omega);obtain⟨S1,p1,E,s2⟩:=vm (k:=0) (U:=Ev i [.str (aY a),.str (aY b),.str (aY d)] na c k g f (cQ:Nat) st .e .e .e) (ms:=aa (I 7) aj) (m:="bell") (rs:=[.v (.int cQ)]) B e rfl rfl (.of rfl) rfl;exact⟨w,h',.e,S1,p1,s2,λq=>df (o8 (aD.to n) E) q,G,FW sw jN,by omega,ds,by rw[l,akg];omega,by rw[l,akg];omega,by rw[V];omega,λz=>by rw[l]at z;exact ax (fr (aoO.mp z).1 cQ A j).1⟩
def T6{Γ:fe}(O:Γ.Ok){h:cY}(H:d8 Γ h)(hz:h.ls.length<=800000)(r:h.rs.length<=90000){st:Nat}(ax:st<=h.ls.length){S:bJ}{i:Nat}{p:hQ}(B:dn S i p h)(N:List D)(na c k d g cQ:Int)(j l z:Slot) :
  ∃h' U',i7 S i p (BZ (Ev i N na c k d g cQ (st:Nat) j l z)) (.bw U') h'/\d8 Γ h'/\h'.ls.length<=h.ls.length+156/\h'.rs.length<=h.rs.length+26/\h.il h'/\h.ls.length<=h'.ls.length:=by
 obtain⟨m,x,n⟩:∃m:Nat,d / 3072 % 27=(m:Nat)/\m<=26:=⟨(d / 3072 % 27).toNat,by have:=mod_lt (a:=d / 3072) (b:=27) (by decide);omega,by have:=mod_lt (a:=d / 3072) (b:=27) (by decide);omega⟩;obtain⟨f,av⟩:∃f:Int,aD S (b3 (aL (ab oEq (ab oMod (ab eH (I 5) (af (.int 24))) (af (.int 2))) (af (.int 1)))) (b' 11 (ab oMod (ab eH (I 5) (af (.int 48))) (af (.int 64)))) bT (Ev i N na c k d g cQ (st:Nat) j l (.v (.int 63)))) (.bw (Ev i N na c k d g cQ (st:Nat) j l (.v (.int f)))):=by
  by_cases q:d / 24 % 2=1
  .exact⟨d / 48 % 64,.of (by simp[q])⟩
  .exact⟨63,.of (by simp[q])⟩
 obtain⟨h',s,w,e,C,G,t,u,A,y⟩:=SW O H ax hz r f n B;refine⟨h',_,⟨s,w,df (aD.to (.of rfl)) (df (aD.to av) (AN (x_call (rs:=[.v (.ref i),.v (.int st),.v (.int f),.v (.int m)]) ?_ rfl e))),C⟩,G,t,u,A,y⟩;exact .of (by simp[x])
def T8(ar:fQ a)(ae:fQ b)(hd:fQ d)(F:1<=na)(u:na<=6)(J:rU [a,b,d] na w h n)(ajP:n<=58)(c k:Int)(ajF:0<=k)(ajI:k<=100){S:bJ}(B:dn S i p h) :
  ∃r h' g I,bH S (EC [.ref i,.l [.str (aY a),.str (aY b),.str (aY d)],.int na,.int c,.int k]) (.v .aJ) g/\hq S g i p I h'/\rU [a,b,d] na r h' (n+1):=by
 have hl:=J.ls;have aC:=J.rs;have hm:=J.rk;have O:(i' [a,b,d] na w).Ok:=su (by simp) u (by omega) J.ds;have M:(0:Int)<(na:Int):=by omega
 have T:0<na:=F;have H:na≠0:=by omega
 have zj:iF (k+1) (k+7):=EL (by omega) (by omega);have V:iF (k+3) (k+5):=EL (by omega) (by omega);have s:∀{x j:Int},-(2 ^ 64)<j->j<2 ^ 64->iF x j:=λF ah=>.inr (.inl ⟨F,ah⟩)
 have Y:∀x:Int,iF x 48271:=λx=>s (by decide) (by decide)
 have Z:∀x:Int,iF x 16807:=λx=>s (by decide) (by decide)
 have U:∀x:Int,iF x 69621:=λx=>s (by decide) (by decide)
 have vD:∀x:Int,iF x 40692:=λx=>s (by decide) (by decide)
 generalize X:[D.str (aY a),.str (aY b),.str (aY d)]=N;obtain⟨f,m,cQ,au,pre⟩:∃(f m:Int)(cQ:Nat),cQ<na/\∀{A g},bH S (BY (Ev i N na c k f m (cQ:Nat) (h.ls.length:Nat) .e .e .e)) A g->bH S (H3 [.v (.ref i),.bN N,.v (.int na),.v (.int c),.v (.int k),.e,.e,.e,.e,.e,.e,.e]) A g:=by
  refine⟨(c % 10000000000000000000000000000000000000000*48271+(k+1)*(k+7)*16807) % 2147483647,(c % 10000000000000000000000000000000000000000*69621+(k+3)*(k+5)*40692) % 2147483629,((c % 10000000000000000000000000000000000000000*48271+(k+1)*(k+7)*16807) % 2147483647 / 4 % (na:Int)).toNat,by have:=mod_lt (a:=(c % 10000000000000000000000000000000000000000*48271+(k+1)*(k+7)*16807) % 2147483647 / 4) M;omega,λ{A g} t=>?_⟩;rw[Int.toNat_of_nonneg (mod_lt M).1]at t;refine df (U':=[.v (.ref i),.bN N,.v (.int na),.v (.int c),.v (.int k),.v (.int ((c % 10000000000000000000000000000000000000000*48271+(k+1)*(k+7)*16807) % 2147483647)),.e,.e,.e,.e,.e,.e]) (aD.to (.of (by simp[zj,Y,Z]))) ?_;generalize(c % 10000000000000000000000000000000000000000*48271+(k+1)*(k+7)*16807) % 2147483647=f at *;refine df (U':=[.v (.ref i),.bN N,.v (.int na),.v (.int c),.v (.int k),.v (.int f),.v (.int ((c % 10000000000000000000000000000000000000000*69621+(k+3)*(k+5)*40692) % 2147483629)),.e,.e,.e,.e,.e]) (aD.to (.of (by simp[V,U,vD]))) ?_;generalize(c % 10000000000000000000000000000000000000000*69621+(k+3)*(k+5)*40692) % 2147483629=m at *;refine df (U':=[.v (.ref i),.bN N,.v (.int na),.v (.int c),.v (.int k),.v (.int f),.v (.int m),.v (.int (f / 4 % na)),.e,.e,.e,.e]) (aD.to (.of (by simp[T,H]))) ?_;exact df (aD.to (iW (om B rfl) rfl)) t
 by_cases q:f % 4=3
 .obtain⟨h',⟨g,I,e,C⟩,G,bE,bu,sw,P,kA⟩:=T5 O J.ok (by omega) (by omega) B N na c k f m (cQ:Nat) q
  refine⟨w,h',g,I,Gi rfl (pre e),C,G,FW sw J.jN,by omega,J.ds,by omega,by omega,?_⟩
  cases z:h.ls with
  |nil=>rw[kA z];exact J.fr| cons y ys=>exact LG λiE=>by rw[z,iE]at P;simp at P
 .subst X
  obtain⟨r,h',mq,S1,p1,L,st,G,R,ajO,Q,g1,bE,bu,ne⟩:=T4 ar ae hd u J.ok J.jN (by omega) J.ds (by omega) (by omega) J.fr au B c k f m (h.ls.length:Nat);have ak:(i' [a,b,d] na r).Ok:=su (by simp) u (by omega) Q;obtain⟨sx,U',⟨aZ,ck,aE,W⟩,ur,b6,bG,E,K⟩:=T6 ak G (by omega) (by omega) g1 L.at' [.str (aY a),.str (aY b),.str (aY d)] na c k f m (cQ:Nat) .e mq .e;refine⟨r,sx,aZ,ck,xd rfl (pre (AQ (aD.to (cy (.of (by simp[show(f % 4==3)=false by simpa using q])))) (st aE))),L.trans W,ur,FW E R,by omega,Q,by omega,by omega,LG λz=>?_⟩;rw[z]at K
  cases o:h'.ls with
  |nil=>exact ne o|cons y ys=>rw[o]at K;simp at K
end dV
namespace dV
open PySem PySem.Spec aB aF
def uT(ns:List Int)(k:Nat):kc [.l (ns.map D.int),.int (k:Nat)]=pure (.v (.int (ns.getD k 0))):=by
 simp only[kc,H0,H2]
 by_cases h:k<ns.length
 .simp[h,Rj h]
 .simp[h]
def Q7:∀(n:Nat)(d:D),Ok n d->hb (n+1) [d,d]=pure (.v (.ay true)):=by
 have seq:∀(n:Nat)(xs:List D)(s:Slot),(∀x∈xs,hb n [x,x]=pure (.v (.ay true)))->xs.length<=1000->(s=.v (.t xs)\/s=.bN xs)->BW (hb n) [s,s,.e]=pure (.cn (.v (.ay true))):=λn xs s h hl ax=>by
  have g:∀j,j<2->∀s2,∃r,I j [s,s,s2]=pure r/\gW [r]=pure (.v (.int (xs.length:Nat)))/\∀(i:Nat)(hi:i<xs.length),aH r (.v (.int i))=pure (.v xs[i]):=λj q s2=>by
   have u:xs.length<=aki:=by rw[akB];omega
   rcases ax with rfl|rfl
   .exact⟨.v (.t xs),by match j,q with|0,_=>rfl|1,_=>rfl,by simp[u],λi hi=>by simp[Bv hi]⟩
   .exact⟨.bN xs,by match j,q with|0,_=>rfl|1,_=>rfl,by simp[u],λi hi=>by simp[Bv hi]⟩
  obtain⟨U',e,s2,rfl⟩:=sm (b:=λx U=>Ea (hb n) (U.set 2 (.v x))) (ds:=dH 0 xs.length) (U:=[s,s,.e])
   (λi U=>∃s2,U=[s,s,s2]) ⟨_,rfl⟩ (λi x U c ⟨s2,B⟩=>by
    subst B;obtain⟨hi,rfl⟩:=Fy c;obtain⟨N,f,_,L⟩:=g 0 (by decide) (.v (.int (0+(i:Nat))));obtain⟨E,a1,_,G⟩:=g 1 (by decide) (.v (.int (0+(i:Nat))));have w:(0:Int)+(i:Nat)=(i:Nat):=by omega
    rw[w]at f a1;refine⟨_,.inl (?_:_=pure (fc.bw [s,s,.v (.int (i:Nat))])),_,rfl⟩;show Ea (hb n) [s,s,.v (.int (0+(i:Nat)))]=_;rw[w];exact od (zO (iO (call_of (cons_of (fi (L i hi) f rfl) (cons_of (fi (G i hi) a1 rfl) rfl)) (h _ (amd hi))))))
  obtain⟨N,f,M,_⟩:=g 0 (by decide) .e;obtain⟨E,a1,bb,_⟩:=g 1 (by decide) .e;have k:-4611686018427387904<=(xs.length:Int)/\(xs.length:Int)<4611686018427387904:=by omega
  refine(?_:BW (hb n) [s,s,.e]=HZ (hb n) [s,s,.e]).trans (fG ((iO (fi (r:=pure (.v (.ay false))) ?_ (m1 M (cons_of f rfl)) (m1 bb (cons_of a1 rfl)))).trans rfl) (cP (CV (ds:=dH 0 xs.length) ?_ e) rfl))
  .rcases ax with rfl|rfl<;>rfl
  .simp
  .show(aa _ _ _ >>= _)=_
   rw[cons_of (m1 bb (cons_of a1 rfl)) rfl];simp[k]
 have p:∀(F:bq)(d:D)(n:Nat),Ok n d->(∀xs,d≠.t xs)->(∀xs,d≠.l xs)->fnOf 2 3 (BV F) [d,d]=pure (.v (.ay true)):=λF d n h H K=>by
  cases d with
  |aJ=>rfl|ay b=>cases b<;>rfl
  |int i=>exact hT rfl (fG rfl (fG rfl (st rfl (jg ((and_1 rfl).trans ((and_1 rfl).trans (by simp)))))))| str x=>exact hT rfl (fG rfl (fG rfl (fG rfl (st rfl (jg ((and_1 rfl).trans (by simp[eq_str h.1])))))))|t xs=>exact absurd rfl (H xs)|l xs=>exact absurd rfl (K xs)| ref _=>exact absurd h.1 (by intro z;cases z)| fn _=>exact absurd h.1 (by intro z;cases z)| ty _=>exact absurd h.1 (by intro z;cases z)
 intro n
 induction n with
 |zero=>
  intro d h;exact p _ d 0 h (λxs e=>absurd h.1 (by rw[e];intro z;cases z)) (λxs e=>absurd h.1 (by rw[e];intro z;cases z))
 |succ n y=>
  intro d h;have a:∀xs:List D,g9 xs n=true->(decide (xs.length<=1000)&&mz xs)=true->(∀x∈xs,hb (n+1) [x,x]=pure (.v (.ay true)))/\xs.length<=1000:=λxs A m=>by
   rw[akH]at m;exact⟨λx c=>y x ⟨lV.mp A x c,w'.mp m.2 x c⟩,of_decide_eq_true m.1⟩
  cases d with
  |t xs=>
   obtain⟨p1,ck⟩:=a xs h.1 h.2;exact hT rfl (fG rfl (fG rfl (fG rfl (fG rfl (seq (n+1) xs _ p1 ck (.inl rfl))))))
  |l xs=>
   obtain⟨p1,ck⟩:=a xs h.1 h.2;exact hT rfl (fG rfl (fG rfl (fG rfl (fG rfl (seq (n+1) xs _ p1 ck (.inr rfl))))))
  |_=>exact p _ _ _ h (λ_ e=>by cases e) (λ_ e=>by cases e)
end dV
namespace dV
open PySem PySem.Spec aB aF i5 gc jk
def p7(n:Nat)(s:d1):aF.Ok (n+1) (dM s):=mh c7 c7
def ab1{Γ:fe}{d:Option cH}(h:∀x,d=some x->ji g4 Γ.W x):aF.Ok 10 (ez d):=by
 cases d with
 |none=>exact tE|some x=>
  have b:=h x rfl
  cases x with
  |put a n=>exact oI (hK (by decide +kernel)) (hK b.1.1) c7| add a n=>exact oI (hK (by decide +kernel)) (hK b.1.1) c7| swap a o n=>exact wo (hK (by decide +kernel)) (hK b.1.1) c7 c7| take g=>exact mh (hK (by decide +kernel)) c7| renew g=>exact mh (hK (by decide +kernel)) c7| free g=>exact mh (hK (by decide +kernel)) c7| sure g a n=>exact wo (hK (by decide +kernel)) c7 (hK b.1.1) c7| move z=>exact mh (hK (by decide +kernel)) b.2.ok| fin=>exact Of (hK (by decide +kernel))
def NJ(O:Γ.Ok)(h:iK Γ L):aF.Ok 12 L:=by
 cases h with
 | @ask me k e s b c f=>exact wq (hK (by decide +kernel)) c7 c7 c7 (p7 _ s) Oe|@tell me k e s p n d w b c f g=>
  obtain⟨bh,i,_,rfl⟩:=f;have os:=i.ok (by have:=O.w;omega) λz hz=>hz.ok
  exact wq (hK (by decide +kernel)) c7 c7 c7 (p7 _ s) (wo (p7 _ p) c7 (ab1 g) os)
 | @grant k a e s kp w b c f g o=>exact wq (hK (by decide +kernel)) c7 c7 c7 (p7 _ s) (mh (p7 _ kp) o)| @kept k a e s b c=>exact wq (hK (by decide +kernel)) c7 c7 c7 (p7 _ s) Oe| @late k a e s p b c=>exact wq (hK (by decide +kernel)) c7 c7 c7 (p7 _ s) (Of (p7 _ p))
def IS(h:nJ Γ b):aF.Ok 12 b:=by
 obtain⟨bk,rfl,c,a⟩:=h;have hl:=IQ c a;refine oJ (n:=11) (by rw[akh];omega) λx e=>?_
 obtain⟨g,d,rfl⟩:=akK.mp e;exact wo (n:=10) c7 (mh (n:=9) c7 c7) (mh (n:=9) c7 c7) (a g d).ok
def uE(h:aF.Ok 13 d):hb 14 [d,d]=pure (.v (.ay true)):=Q7 13 d h
def ZG(O:Γ.Ok)(h:∀l∈ls,iK Γ l):(aF.D.l ls).b1 64=true:=lV.mpr λx a=>LP (by decide) (NJ O (h x a)).1
def abE(n:Nat)(a:D):xq (p5 n a):=λ_ k A e=>by
 obtain⟨i,_,rfl⟩:=akK.mp (akM e);exact⟨rfl,rfl⟩
def abF(cR:g4 hall)(W:List (List Nat))(na:Nat):rU W na (λ_=>[]) (p5 na hall) 0 where
 ok:=abC (Γ:=i' W na λ_=>[]) (UT W na _) cR
 jN:=λk A e=>by
  obtain⟨i,_,rfl⟩:=akK.mp (akM e);rfl
 rk:=akk _
 ds:=λk d x a=>by cases a
 ls:=akk _
 rs:=akk _
 fr:=abE na hall
def Zo(ns:List Int)(aA:ns.length<=63):∃(na:Nat)(w:Nat->List (Option cH))(h:cY)(a b d:List Nat)(f:Slot)(S:bJ)(p:hQ),na<=3/\1<=na/\rU [a,b,d] na w h 20/\dn S 0 p h/\
  ∀{j r},bH S (BS [.bN (ns.map D.int),.v (.int na),.v (.ref 0),.v (.l [.str (aY a),.str (aY b),.str (aY d)]),f,.e,.e,.e,.e,.e,.e,.e,.e]) j r->bH [] (BQ [.bN (ns.map D.int),.e,.e,.e,.e,.e,.e,.e,.e,.e,.e,.e,.e]) j r:=by
 have I:kc [.l (ns.map D.int),.int 0]=pure (.v (.int (ns.getD 0 0))):=uT ns 0;have bb:kc [.l (ns.map D.int),.int 1]=pure (.v (.int (ns.getD 1 0))):=uT ns 1;have ab:kc [.l (ns.map D.int),.int 2]=pure (.v (.int (ns.getD 2 0))):=uT ns 2;generalize ns.getD 0 0=x0 at I;generalize ns.getD 1 0=fV at bb;generalize ns.getD 2 0=iD at ab;obtain⟨na,K,y,hI⟩:∃na:Nat,1+x0 % 3=(na:Nat)/\1<=na/\na<=3:=⟨(1+x0 % 3).toNat,by have:=mod_lt (a:=x0) (b:=3) (by decide);omega,by have:=mod_lt (a:=x0) (b:=3) (by decide);omega,by have:=mod_lt (a:=x0) (b:=3) (by decide);omega⟩;obtain⟨s,u,qM,E⟩:=Nx (fV % 1000000000);obtain⟨a,b,d,em,k,m,n⟩:=Zn (iD % 100000000000000000000);have aW:b8 (jz s u)=.v (jz s u):=rfl;obtain⟨S1,p1,t1,i1,_⟩:=XT [] y (by omega) aW E.is;have R:=LV E.ga E.k5;have O:=abF R [a,b,d] na;generalize jz s u=hall at *;obtain⟨M,F,X,Y,W⟩:∃M:Int,(if(23:Int)<(ns.length:Nat)then(23:Int)else(ns.length:Nat))=M/\M<=23/\M<=(ns.length:Nat)/\0<=M:=by
  by_cases q:(23:Int)<(ns.length:Nat)
  .rw[if_pos q];exact⟨_,rfl,by omega,by omega,by omega⟩
  .rw[if_neg q];exact⟨_,rfl,by omega,by omega,by omega⟩
 obtain⟨z,u1,o⟩:∃z:Nat,(M-3).toNat=z/\z<=20:=⟨_,rfl,by omega⟩;have hz:∀i:Nat,i<z->i+3<ns.length:=λi hi=>by omega
 obtain⟨U',V,e,w,g,ck,f,rfl,P,J⟩:=Gn (b:=λx U=>Nn (U.set 4 (.v x)))
  (λi U T=>∃w g q f,U=[.bN (ns.map D.int),.v (.int na),.v (.ref 0),.v (.l [.str (aY a),.str (aY b),.str (aY d)]),f,.e,.e,.e,.e,.e,.e,.e,.e]/\dn T 0 q g/\rU [a,b,d] na w g i)
  (dH 3 z) 0 [.bN (ns.map D.int),.v (.int na),.v (.ref 0),.v (.l [.str (aY a),.str (aY b),.str (aY d)]),.e,.e,.e,.e,.e,.e,.e,.e,.e] S1 ⟨_,_,p1,_,rfl,i1,O⟩ (λi x U T Z ⟨w,g,q,f,C,A,J⟩=>by
   subst C;rw[amv]at J ⊢;obtain⟨hi,rfl⟩:=Fy Z;have hl:=hz i hi;obtain⟨c,hS⟩:∃c,d3 (ns.map D.int) (3+(i:Nat))=some (.int c):=by
    obtain⟨v,H⟩:=xQ (xs:=ns.map D.int) (i:=3+(i:Nat)) (by omega) (by rw[akh];omega);obtain⟨c,_,rfl⟩:=akK.mp (Bu H);exact⟨c,H⟩
   obtain⟨ey,g',mQ,fU,Q,B,gq⟩:=T8 k m n y (by omega) J (by omega) c (3+(i:Nat)) (by omega) (by omega) A;refine⟨_,mQ,AN (x_call (rs:=[.v (.ref 0),.v (.l [.str (aY a),.str (aY b),.str (aY d)]),.v (.int na),.v (.int c),.v (.int (3+(i:Nat)))]) (.of (by simp[hS])) rfl Q),ey,g',fU,_,rfl,B.at',gq⟩)
 rw[amv,oN]at J;refine⟨na,w,g,a,b,d,f,V,ck,hI,y,⟨J.ok,J.jN,by have:=J.rk;omega,J.ds,by have:=J.ls;omega,by have:=J.rs;omega,J.fr⟩,P,λ{j r} t=>?_⟩;have G:(ns.map D.int).length=ns.length:=akh _;have i0:(ns.map D.int).length<=aki:=by rw[G];exact al1 (f7 (by omega))
 have dS:-4611686018427387904<=M/\M<4611686018427387904:=by omega
 rw[<-G]at F;generalize ns.map D.int=L at *;generalize[D.str (aY a),.str (aY b),.str (aY d)]=N at *;refine df (U':=[.bN L,.v (.int na),.e,.e,.e,.e,.e,.e,.e,.e,.e,.e,.e]) (aD.to (.of (by simp[I,K]))) ?_;refine df (U':=[.bN L,.v (.int na),.v (.ref 0),.e,.e,.e,.e,.e,.e,.e,.e,.e,.e]) (AP (Qh (rs:=[.v hall,.v (.int na)]) (.of (by simp[bb,qM])) rfl t1) rfl) ?_;refine df (U':=[.bN L,.v (.int na),.v (.ref 0),.v (.l N),.e,.e,.e,.e,.e,.e,.e,.e,.e]) (aD.to (.of (by simp[ab,em]))) ?_;exact df (Qg (ds:=dH 3 z) (.of (by simp[i0,dS,u1,F])) e) t
def Zi(j:1<=na)(M:na<=3)(J:rU [a,b,d] na w h 20){S:bJ}(A:dn S 0 p h)(L:List D)(N:D)(f:Slot) :
  ∃Γ h' S1 p1,fe.Ok Γ/\d8 Γ h'/\h'.ls≠[]/\h'.ls.length<=5000/\h'.rs.length<=1000/\dn S1 0 p1 h'/\
   ∀{o C},bH S1 (xU [.bN L,.v (.int na),.v (.ref 0),.v N,f,.e,.e,.e,.e,.e,.e,.e,.e]) o C->bH S (BS [.bN L,.v (.int na),.v (.ref 0),.v N,f,.e,.e,.e,.e,.e,.e,.e,.e]) o C:=by
 have O:=J.rk;have hl:=J.ls;have u:=J.rs;have c:aD S (aL (ab oEq (dk "House" "many" jG (I 2) aj) (af (.int 0))) [.bN L,.v (.int na),.v (.ref 0),.v N,f,.e,.e,.e,.e,.e,.e,.e,.e]) (decide ((h.ls.length:Int)=0)):=cy (cE yi (om A rfl) (.of rfl))
 cases z:h.ls with
 |nil=>
  obtain⟨B,i,P⟩:=J.ok.asker (k:=0) j;obtain⟨cs,co⟩:=J.fr z 0 B i;obtain⟨h',R,g,G,s,E,l,H,F,K,r⟩:=MO (by simp) (by omega) J.ok J.jN (by omega) J.ds (by omega) (by omega) i cs co (x:=none) (λy e=>by cases e);have g:h.Do rg [.int 0,.aJ] (.fr R) h':=g;obtain⟨S1,p1,q,n⟩:=vm (k:=2) (U:=[.bN L,.v (.int na),.v (.ref 0),.v N,f,.e,.e,.e,.e,.e,.e,.e,.e]) (ms:=aa (af (.int 0)) (aa (af .aJ) aj)) (m:="begin") (rs:=[.v (.int 0),.v .aJ]) A g rfl rfl (.of rfl) rfl;rw[z]at c;exact⟨_,h',S1,p1,su (by simp) (by omega) (by omega) l,G,r,by omega,by omega,n.at',λt=>df (o8 (aD.to c) q) t⟩
 |cons y ys=>
  rw[z,decide_eq_false (by rw[akO];omega)]at c;exact⟨_,h,S,p,su (by simp) (by omega) (by omega) J.ds,J.ok,by rw[z];simp,by omega,by omega,A,λt=>AQ (aD.to c) t⟩
def Zq(ns:List Int){h:cY}(ne:h.ls≠[])(hz:h.ls.length<=5000){S:bJ}(A:dn S 0 p h)(na:Nat)(N:D)(c:Slot) :
  ∃k:Nat,k<h.ls.length/\∀{o C},bH S (BU [.bN (ns.map D.int),.v (.int na),.v (.ref 0),.v N,.v (.int (k:Nat)),.v (.l h.ls),.v (.int (h.ls.length:Nat)),.e,.e,.e,.e,.e,.e]) o C->bH S (xU [.bN (ns.map D.int),.v (.int na),.v (.ref 0),.v N,c,.e,.e,.e,.e,.e,.e,.e,.e]) o C:=by
 have d:kc [.l (ns.map D.int),.int 0]=pure (.v (.int (ns.getD 0 0))):=uT ns 0;have bb:kc [.l (ns.map D.int),.int 1]=pure (.v (.int (ns.getD 1 0))):=uT ns 1;generalize ns.getD 0 0=x0 at d;generalize ns.getD 1 0=J at bb;have g:0<h.ls.length:=List.length_pos_iff.mpr ne;have f:(0:Int)<(h.ls.length:Int):=by omega
 generalize ns.map D.int=L at *;obtain⟨eo,av,j⟩:∃k:Nat,x0 / 3 % (h.ls.length:Int)=(k:Nat)/\k<h.ls.length:=⟨(x0 / 3 % (h.ls.length:Int)).toNat,by have:=mod_lt (a:=x0 / 3) f;omega,by have:=mod_lt (a:=x0 / 3) f;omega⟩;have u:h.ls.length<=aki:=by rw[akB];omega
 have pre:∀{o C},bH S (HY [.bN L,.v (.int na),.v (.ref 0),.v N,.v (.int (eo:Nat)),.v (.l h.ls),.v (.int (h.ls.length:Nat)),.e,.e,.e,.e,.e,.e]) o C->bH S (xU [.bN L,.v (.int na),.v (.ref 0),.v N,c,.e,.e,.e,.e,.e,.e,.e,.e]) o C:=λt=>by
  refine df (U':=[.bN L,.v (.int na),.v (.ref 0),.v N,c,.v (.l h.ls),.e,.e,.e,.e,.e,.e,.e]) (aD.to (iW (r:=.fr h.ls) (iw A.bc (.of rfl) rfl cS (Pc A)) rfl)) ?_;refine df (U':=[.bN L,.v (.int na),.v (.ref 0),.v N,c,.v (.l h.ls),.v (.int (h.ls.length:Nat)),.e,.e,.e,.e,.e,.e]) (aD.to (.of rfl)) ?_;refine df (aD.to (.of ?_)) t;generalize h.ls=ls at *;simp[d,av,g]
 by_cases q:J % 2=1
 .have s:=mod_lt (a:=x0 / 3) (b:=6) (by decide)
  obtain⟨dW,aE,i⟩:∃k:Nat,(if(h.ls.length:Int)-1-x0 / 3 % 6 > 0 then(h.ls.length:Int)-1-x0 / 3 % 6 else 0)=(k:Nat)/\k<h.ls.length:=by
   by_cases bP:(h.ls.length:Int)-1-x0 / 3 % 6 > 0
   .rw[if_pos bP];exact⟨((h.ls.length:Int)-1-x0 / 3 % 6).toNat,by omega,by omega⟩
   .rw[if_neg bP];exact⟨0,rfl,g⟩
  refine⟨dW,i,λt=>pre (df (aD.to (.of ?_)) t)⟩;generalize h.ls=ls at *;have n:(if(0:Int)<(ls.length:Int)-1-x0 / 3 % 6 then(ls.length:Int)-1-x0 / 3 % 6 else 0)=(dW:Nat):=aE;generalize m:(ls.length:Int)-1-x0 / 3 % 6=v at *;simp[d,bb,q,m,n]
 .refine⟨eo,j,λt=>pre (df (aD.to (.of ?_)) t)⟩
  simp[bb,q]
def B7{h:cY}(d:h.bs.length=6){S:bJ}(A:dn S 0 p h)(a:I 2 U=pure (.v (.ref 0)))(c:hy 1 [2] U=[.e,.v (.ref 0)]):aD S (eX 1 [2] (h2 (aa (af (.int 6)) aj)) fx (dk "House" "book" vH (I 1) (aa (I 0) aj)) U) (.fr h.bs):=by
 have e:h.bs=(akG 6).map λk=>h.bs.getD k .aJ:=by
  refine List.ext_getElem? λi=>?_
  rw[akA]
  by_cases hi:i<6
  .rw[alR hi,akx (by omega:i<h.bs.length)]
   show _=some (h.bs.getD i .aJ);rw[ak7,akx (by omega:i<h.bs.length)];rfl
  .rw[amR (by omega),amR (by rw[alu];omega)]
   rfl
 refine D2 (ds:=dH 0 6) (.of rfl) (by rw[oN,akB];omega) ?_;rw[c,Fz]
 conv=>rhs;rw[e]
 refine y4 a_ (λk=>h.bs.getD k .aJ) (akG 6) λk a=>?_
 have a:=akZ.mp a;have b:h.bs[k]? = some (h.bs.getD k .aJ):=by
  rw[ak7,akx (by omega:k<h.bs.length)];rfl
 exact iw A.bc (.of rfl) rfl (bS (x:=.v (.int k)) (.of rfl) cS) (SD A b)
abbrev ig(L:List D)(na:Nat)(N:D)(k:Nat)(ls:List D)(n:Int)(l:D)(bs:List D)(R Z:List D)(a b:Slot):aM:=
 [.bN L,.v (.int na),.v (.ref 0),.v N,.v (.int (k:Nat)),.v (.l ls),.v (.int n),.v l,.dB false bs,.v (.l R),.v (.l Z),a,b]
def zY{xs:List D}(hl:xs.length<=1000)(h:∀x∈xs,aF.Ok n x):aF.Ok (n+1) (.l xs):=
 ⟨lV.mpr λx a=>(h x a).1,by show(decide (xs.length<=1000)&&mz xs)=true;rw[decide_eq_true hl,w'.mpr λx a=>(h x a).2];rfl⟩
section
variable{S S1:bJ}{p p1:hQ}{h h':cY}{Γ:fe}
def Zg{Y:List D}{k:Nat}(A:dn S 0 p h)(g:k<h.ls.length)(f:h.bs.length=6)(j:bH S (lg [.ref 0,.int k]) (.fr (dH h.ls.length Y.length)) S1)(c:dn S1 0 p1 h')(i:h'.ls=h.ls++Y)(L:List D)(na:Nat)(N:D){a:fc}{b:bJ}
  (t:bH S1 (BR (ig L na N k h.ls h.ls.length h.ls[k] h.bs (dH h.ls.length Y.length) (h.ls++Y) .e .e)) a b):bH S (BU [.bN L,.v (.int na),.v (.ref 0),.v N,.v (.int (k:Nat)),.v (.l h.ls),.v (.int (h.ls.length:Nat)),.e,.e,.e,.e,.e,.e]) a b:=by
 have d:=Pc c;rw[i]at d;refine df (U':=[.bN L,.v (.int na),.v (.ref 0),.v N,.v (.int (k:Nat)),.v (.l h.ls),.v (.int (h.ls.length:Nat)),.v h.ls[k],.e,.e,.e,.e,.e]) (aD.to (iW (r:=.v h.ls[k]) (cE (YD (Bv g)) (.of rfl) (.of rfl)) rfl)) ?_;refine df (U':=[.bN L,.v (.int na),.v (.ref 0),.v N,.v (.int (k:Nat)),.v (.l h.ls),.v (.int (h.ls.length:Nat)),.v h.ls[k],.dB false h.bs,.e,.e,.e,.e]) (aD.to ((B7 f A rfl rfl).bind (.of rfl))) ?_;refine df (U':=[.bN L,.v (.int na),.v (.ref 0),.v N,.v (.int (k:Nat)),.v (.l h.ls),.v (.int (h.ls.length:Nat)),.v h.ls[k],.dB false h.bs,.v (.l (dH h.ls.length Y.length)),.e,.e,.e]) (AP (nI (rs:=[.v (.int k)]) A.bc (.of rfl) rfl (aD.to (.of rfl)) rfl j) rfl) ?_;exact df (aD.to (iW (r:=.fr (h.ls++Y)) (iw c.bc (.of rfl) rfl cS d) rfl)) t
def Zh(O:Γ.Ok){ls Y bs:List D}{l:D}(q:dn S1 0 p1 h')(j:h'.ls=ls++Y)(ok:∀l∈ls,iK Γ l)(hz:ls.length<=5000)(s:Y.length<=6)(L:List D)(na:Nat)(N:D)(k:Nat){b:fc}{c:bJ}
  (t:bH S1 (xT (ig L na N k ls ls.length l bs (dH ls.length Y.length) (ls++Y) .e .e)) b c):bH S1 (BR (ig L na N k ls ls.length l bs (dH ls.length Y.length) (ls++Y) .e .e)) b c:=by
 have cm:cutD (ls++Y) none (some (ls.length:Int))=ls:=by rw[Ji,List.take_left'];rfl
 have ne:dA (.fr ls) (.v (.l ls))=pure (.v (.ay false)):=by
  have g:=ZG O ok;rw[se (x:=.fr ls) (y:=.v (.l ls)) g g];show pure (R.v (.ay (!es (.l ls) (.l ls))))=_;rw[OG g];rfl
 have al:hb 14 [.l (dH ls.length Y.length),.l (dH ls.length Y.length)]=pure (.v (.ay true)):=uE (zY (n:=12) (by rw[oN];omega) λx f=>by
  obtain⟨i,_,rfl⟩:=akK.mp f;exact c7)
 have m:(ls++Y).length<=aki:=by rw[akg,akB];omega
 have r:sW [.v (.int (ls.length:Nat)),.v (.int ((ls++Y).length:Nat))]=pure (.fr (dH ls.length Y.length)):=by
  have le:(((ls++Y).length:Int)-(ls.length:Int)).toNat=Y.length:=by rw[akg];omega
  have a:Y.length<=aki:=by rw[akB];omega
  rw[La,le,if_pos ⟨⟨by omega,by omega,by omega,by rw[akg];omega⟩,by omega,a⟩];rfl
 have d:=om (U:=ig L na N k ls ls.length l bs (dH ls.length Y.length) (ls++Y) .e .e) (k:=2) q rfl;rw[j]at d;refine AR (j' (ix (cy (eN (rs:=[.v (.l (dH ls.length Y.length)),.fr (dH ls.length Y.length)]) (bS (.of rfl) (bS (M3 (bS (.of rfl) (bS (sO (rs:=[.v (.l (ls++Y))]) rfl (.of rfl)) cS)) r) cS)) (.of al)))) (j' (cy (cE (x:=.fr ls) ne ?_ (.of rfl))) (cy (cE (ER.trans (by rw[decide_eq_true rfl];rfl)) d (sO (rs:=[.v (.l (ls++Y))]) rfl (.of rfl)))))) t;generalize ls++Y=Z at *;exact .of (by simp[cm,m])
def Ny(O:Γ.Ok){ls bs:List D}{w:Str}{me j:Nat}{f d i b a y:D}(s:dn S1 0 p1 h')(H':d8 Γ h')(A:h'.ls=ls++[y])(hz:ls.length<=5000)(dB:aku w=true)(hw:(w == "ask" || w == "tell")=true)(M:bs.length=6)(P:j<6)(G:bs[j]? = some b)(g:kH [b,.t [.str w,.int me,.int j,f,d,i]]=pure (.v (.t [a,y])))(z:h'.bs=bs.set j a)(L R:List D)(na:Nat)(N:D)(k:Nat) :
  bH S1 (xT (ig L na N k ls ls.length (.t [.str w,.int me,.int j,f,d,i]) bs R (ls++[y]) .e .e)) (.cn (.v (.ay true))) S1:=by
 have br:=hO dB (show aku "ask"=true by decide +kernel);have bP:=hO dB (show aku "tell"=true by decide +kernel);have cm:cutD (ls++[y]) (some (ls.length:Int)) none=[y]:=by rw[Co,List.drop_left'];rfl
 have E:h'.ls[ls.length]? = some y:=by rw[A,akz (akk _)];simp
 have lt:=Ej s E;have u:=NJ O (H'.ls y (by rw[A];simp));have a1:hb 14 [.l [y],.l [y]]=pure (.v (.ay true)):=uE (zY (n:=12) (by simp) λx q=>by rw[akF.mp q];exact u);have a2:hb 14 [y,y]=pure (.v (.ay true)):=uE (wx u (by decide));have eW:hb 14 [.l (bs.set j a),.l (bs.set j a)]=pure (.v (.ay true)):=by
  rw[<-z];exact uE (zY (n:=12) (by rw[H'.nb];decide) λx q=>IS (H'.bs x q))
 have H:(ls++[y]).length<=aki:=by rw[akg,akB];simp;omega
 have F:j<bs.length:=by omega
 have K:aD S1 (e' (aL (ab oEq (ab aH (I 7) (af (.int 0))) (af (.str "ask")))) (aL (ab oEq (ab aH (I 7) (af (.int 0))) (af (.str "tell")))) (ig L na N k ls ls.length (.t [.str w,.int me,.int j,f,d,i]) bs R (ls++[y]) .e .e)) true:=by
  have m:aD S1 (aL (ab oEq (ab aH (I 7) (af (.int 0))) (af (.str "ask"))) (ig L na N k ls ls.length (.t [.str w,.int me,.int j,f,d,i]) bs R (ls++[y]) .e .e)) (w == "ask"):=cy (cE br (.of rfl) (.of rfl))
  cases c:(w == "ask")with
  |true=>rw[c]at m;exact y5 m|false=>
   rw[c]at m hw;have B:aD S1 (aL (ab oEq (ab aH (I 7) (af (.int 0))) (af (.str "tell"))) (ig L na N k ls ls.length (.t [.str w,.int me,.int j,f,d,i]) bs R (ls++[y]) .e .e)) (w == "tell"):=cy (cE bP (.of rfl) (.of rfl));rw[show(w == "tell")=true by simpa using hw]at B;exact j' m B
 have bk:=B7 (U:=ig L na N k ls ls.length (.t [.str w,.int me,.int j,f,d,i]) (bs.set j a) R (ls++[y]) (.v (.t [a,y])) .e) H'.nb s rfl rfl;rw[z]at bk;refine df (U':=ig L na N k ls ls.length (.t [.str w,.int me,.int j,f,d,i]) (bs.set j a) R (ls++[y]) (.v (.t [a,y])) .e) (aD.to (oi K ?_)) (aD.to (iy (eN (bS bk (bS (x:=.mv (bs.set j a)) (.of rfl) cS)) (.of eW))));refine sP (U':=ig L na N k ls ls.length (.t [.str w,.int me,.int j,f,d,i]) bs R (ls++[y]) (.v (.t [a,y])) .e) (iW (r:=.v (.t [a,y])) (eN (rs:=[.v b,.v (.t [.str w,.int me,.int j,f,d,i])]) (bS (cE (sM (jW j G)) (.of rfl) (.of rfl)) (bS (.of rfl) cS)) (.of g)) rfl) ?_;refine sP (U':=ig L na N k ls ls.length (.t [.str w,.int me,.int j,f,d,i]) (bs.set j a) R (ls++[y]) (.v (.t [a,y])) .e) (.of (by simp[F])) ?_;refine l5 (j' (ix (cy (eN (rs:=[.fr [y],.fr [y]]) (bS ?_ (bS (.of rfl) cS)) (.of a1)))) (ix (cy (eN (rs:=[.v y,.v y]) (bS (iw s.bc (.of rfl) rfl (bS (x:=.v (.int (ls.length:Nat))) (.of rfl) cS) lt) (bS (.of rfl) cS)) (.of a2))))) (.of rfl);generalize ls++[y]=Z at *;exact .of (by simp[cm,H])
def ab2(h:xr a y):∃(w:Str)(b c d f:D),y=.t [.str w,.int a,b,c,d,f]/\(w="ask"\/w="tell"):=by
 rcases h with⟨e,s,j,rfl⟩|⟨e,s,l,j,rfl⟩
 .exact⟨"ask",_,_,_,_,rfl,.inl rfl⟩
 .exact⟨"tell",_,_,_,_,rfl,.inr rfl⟩
def Eh{ls bs Y:List D}{j a:Nat}{d c f:D}(F:dn S1 0 p1 h')(H':d8 Γ h')(hz:ls.length<=5000)(G:Y.length<=6)(dB:aku w=true)(hw:(w == "ask" || w == "tell")=false)(fr:∀y∈Y,xr a y)(r:h'.bs=bs)(L R:List D)(na:Nat)(N:D)(k:Nat) :
  bH S1 (xT (ig L na N k ls ls.length (.t [.str w,.int j,.int a,d,c,f]) bs R (ls++Y) .e .e)) (.cn (.v (.ay true))) S1:=by
 have br:=hO dB (show aku "ask"=true by decide +kernel);have bP:=hO dB (show aku "tell"=true by decide +kernel);rw[Bool.or_eq_false_iff]at hw;rw[hw.1]at br;rw[hw.2]at bP;have cm:cutD (ls++Y) (some (ls.length:Int)) none=Y:=by rw[Co,List.drop_left'];rfl
 have eW:hb 14 [.l bs,.l bs]=pure (.v (.ay true)):=by
  rw[<-r];exact uE (zY (n:=12) (by rw[H'.nb];decide) λx m=>IS (H'.bs x m))
 have E:(ls++Y).length<=aki:=by rw[akg,akB];omega
 have z:dA (.v (.str "ask")) (.v (.str "ask"))=pure (.v (.ay false)):=Af (by decide +kernel) (by decide +kernel);have A:dA (.v (.str "tell")) (.v (.str "ask"))=pure (.v (.ay true)):=Af (by decide +kernel) (by decide +kernel);have B:dA (.v (.str "tell")) (.v (.str "tell"))=pure (.v (.ay false)):=Af (by decide +kernel) (by decide +kernel);generalize q:ig L na N k ls ls.length (.t [.str w,.int j,.int a,d,c,f]) bs R (ls++Y) .e .e=o;obtain⟨U',e,g,rfl⟩:=sm (b:=λx U=>D' (U.set 12 (.v x))) (ds:=Y) (U:=o)
  (λi U=>∃g,U=ig L na N k ls ls.length (.t [.str w,.int j,.int a,d,c,f]) bs R (ls++Y) .e g) ⟨_,q.symm⟩ (λi x U m ⟨g,u⟩=>by
   subst u;refine⟨_,.inl (?_:_=pure (fc.bw (ig L na N k ls ls.length (.t [.str w,.int j,.int a,d,c,f]) bs R (ls++Y) .e (.v x)))),_,rfl⟩;obtain⟨H,s2,s3,I,K,rfl,s⟩:=ab2 (fr x (akM m));simp only[D'];generalize ls++Y=Z at *;generalize(ls.length:Int)=n at *;rcases s with rfl|rfl
   .simp[z]
   .simp[A,B])
 subst q;have bk:=B7 (U:=ig L na N k ls ls.length (.t [.str w,.int j,.int a,d,c,f]) bs R (ls++Y) .e g) H'.nb F rfl rfl;rw[r]at bk;refine df (U':=ig L na N k ls ls.length (.t [.str w,.int j,.int a,d,c,f]) bs R (ls++Y) .e g) (aD.to (l5 (j' (cy (cE br (.of rfl) (.of rfl))) (cy (cE bP (.of rfl) (.of rfl)))) (.of (CV (ds:=Y) ?_ e)))) (aD.to (iy (eN (bS bk (bS (x:=.mv bs) (.of rfl) cS)) (.of eW))));generalize ls++Y=Z at *;simp[cm,E]
end
def Zp(ns:List Int)(E:ns.length<=63):∃G,(EA [.l (ns.map D.int)]).run []=.ok (.v (.ay true)) G:=by
 obtain⟨na,w,W,a,b,d,u,R,X,N,M,J,z,P⟩:=Zo ns E;obtain⟨Γ,h,S1,p1,O,H,ne,hz,S,n,Q⟩:=Zi M N J z (ns.map D.int) (.l [.str (aY a),.str (aY b),.str (aY d)]) u;obtain⟨k,r,K⟩:=Zq ns ne hz n na (.l [.str (aY a),.str (aY b),.str (aY d)]) u;obtain⟨Y,h',I,H',f,i,T,Z,A⟩:=B8 H O r (by omega) (by omega);obtain⟨F,ck,aE,B⟩:=I S1 0 p1 n;refine⟨F,Gi rfl (P (Q (K (Zg n r H.nb aE B.at' f (ns.map D.int) na _ (Zh O B.at' f H.ls hz i (ns.map D.int) na _ k ?_)))))⟩;generalize h.ls[k]=L at *
 cases A with
 |@keeper me j e s b V y m t q g x c=>
  subst x;rcases m with rfl|⟨l,rfl⟩
  .exact Ny (w:="ask") O B.at' H' f hz (by decide +kernel) (by decide +kernel) H.nb t q g c _ _ _ _ _
  .exact Ny (w:="tell") O B.at' H' f hz (by decide +kernel) (by decide +kernel) H.nb t q g c _ _ _ _ _
 |@asker a j e s m fr c=>
  rcases m with⟨kp,ww,rfl⟩|rfl|⟨p,rfl⟩
  .exact Eh (w:="grant") B.at' H' hz i (by decide +kernel) (by decide +kernel) fr c _ _ _ _ _
  .exact Eh (w:="kept") B.at' H' hz i (by decide +kernel) (by decide +kernel) fr c _ _ _ _ _
  .exact Eh (w:="late") B.at' H' hz i (by decide +kernel) (by decide +kernel) fr c _ _ _ _ _
end dV
namespace PySem.W.Fast
noncomputable def zp:=PySem.Challenge.pw_oneslate_k41_a_letter_brought
noncomputable def zq:=zp.main.body
noncomputable def tw11104411916775091104:=(zq.drop 15).take 1
theorem te11104411916775091104:tw11104411916775091104=tw11104411916775091104:=rfl
noncomputable def tw4658126463975627172:=(zq.drop 12).take 2
theorem te4658126463975627172:tw4658126463975627172=tw4658126463975627172:=rfl
noncomputable def tw6136750542797661509:PySem.Program:={zp with main:={zp.main with body:=([0,2,3,4,5,6,8,9,10,12,13,14,15,16,17,18,20,21,22,23,24,25,26,27,28,29,30,31,32,33,35,36,37,38,39,41,42,43,44,45,46,47,48,49,51,52,53,54,55,56,57,58,59,60,61,63,64,65,66,67,68,69,70,71,72,73,74,75,76,78,79,80,81,83,85,86,87,88,89,90,92,93,94,96,97,98,99,100,101,102,103,104,105]:List Nat).filterMap fun i=>zp.main.body[i]?}}
theorem te6136750542797661509:tw6136750542797661509=tw6136750542797661509:=rfl
noncomputable def tw17948480021386622792:=(zq.drop 83).take 1
theorem te17948480021386622792:tw17948480021386622792=tw17948480021386622792:=rfl
noncomputable def tw12847127675977724329:=(zq.drop 0).take 12
theorem te12847127675977724329:tw12847127675977724329=tw12847127675977724329:=rfl
noncomputable def tw14658760087959391562:=(zq.drop 95).take 11
theorem te14658760087959391562:tw14658760087959391562=tw14658760087959391562:=rfl
noncomputable def tw10116777160091204234:=(zq.drop 16).take 1
theorem te10116777160091204234:tw10116777160091204234=tw10116777160091204234:=rfl
noncomputable def tw6706485939603705578:=(zq.drop 18).take 10
theorem te6706485939603705578:tw6706485939603705578=tw6706485939603705578:=rfl
noncomputable def tw12307621383222028234:=(zq.drop 66).take 8
theorem te12307621383222028234:tw12307621383222028234=tw12307621383222028234:=rfl
noncomputable def tw14458225478889161230:=(zq.drop 52).take 14
theorem te14458225478889161230:tw14458225478889161230=tw14458225478889161230:=rfl
noncomputable def tw17378830716479954670:=(zq.drop 28).take 15
theorem te17378830716479954670:tw17378830716479954670=tw17378830716479954670:=rfl
noncomputable def tw17448074362041127059:=(zq.drop 74).take 9
theorem te17448074362041127059:tw17448074362041127059=tw17448074362041127059:=rfl
noncomputable def tw11477036119936956627:=(zq.drop 14).take 1
theorem te11477036119936956627:tw11477036119936956627=tw11477036119936956627:=rfl
noncomputable def tw18203184463808822931:=(zq.drop 94).take 1
theorem te18203184463808822931:tw18203184463808822931=tw18203184463808822931:=rfl
noncomputable def tw1564550048374048120:=(zq.drop 17).take 1
theorem te1564550048374048120:tw1564550048374048120=tw1564550048374048120:=rfl
noncomputable def tw8587112785681598937:=(zq.drop 84).take 10
theorem te8587112785681598937:tw8587112785681598937=tw8587112785681598937:=rfl
noncomputable def tw1565384810558001180:=(zq.drop 43).take 9
theorem te1565384810558001180:tw1565384810558001180=tw1565384810558001180:=rfl
def te5394201784278580964:=0
def te2520589920134085261:=0
def te11109272265910718450:=0
def te10981940102836310627:=0
def te5241052138053575670:=0
def te14212334376650318677:=0
def te10741176207179819257:=0
def te15962138195262029376:=0
def te17610821519996712033:=0
def te7757131282685086062:=0
def te7823747233664648020:=0
def te9939101019468380181:=0
def te3066977186978731124:=0
def te16829881771008519971:=0
def te6098325072092910452:=0
def te11410935677979816585:=0
def te1707942694823793099:=0
def te497388473438517667:=0
def te5344024735493531792:=0
def te8381852030877984460:=0
def te15725499654853000535:=0
def te8085728500872347334:=0
def te863979358520703027:=0
def te622163146136872062:=0
def te3224782533681333045:=0
def te16689476855778659814:=0
def te4013341926308465072:=0
def te5647849476612070658:=0
def te7414680127610855639:=0
def te10953171369058009136:=0
def te10972048241037796620:=0
def te3634153827418917813:=0
def te5552965185567559229:=0
def te14078563591447143469:=0
def te768452915528706440:=0
def te16586018687004683982:=0
def te12277584294161333210:=0
def te9802363963196742817:=0
def te602520650854877199:=0
def te13925382979711331075:=0
def te9957795580589006315:=0
def te15815807948816963778:=0
def te10669253058389969049:=0
def te16606888731731292659:=0
def te561338401389410175:=0
def te14126177275848363835:=0
def te1645422399644822511:=0
def te2895176407625904075:=0
def te15433055396997628967:=0
def te14591649235012208286:=0
def te15322072285859406369:=0
def te16406157721717826867:=0
def te1452857086350492755:=0
def te2020189239386055770:=0
def te11977541844838875753:=0
def te12120124294945400631:=0
def te9178396849347392670:=0
def te8003548127363487759:=0
def te77524835778446150:=0
def te12006596633164362114:=0
def te3916059295946920375:=0
def te11024801607353964226:=0
def te10914707233189356058:=0
def te4478905320297965576:=0
def te1388796629456227331:=0
def te15084251919036730482:=0
def te14971635712810515573:=0
def te8943841924477209594:=0
def te6423550772990596774:=0
def te9017267154766244428:=0
def te8383599759077200608:=0
def te7759074680998432903:=0
def te8689315199683573727:=0
def te11566697007385219107:=0
def te169650353493627523:=0
def te8975555983425671854:=0
def te208191624202522955:=0
def te15294903875074669762:=0
def te8501426693927272580:=0
def te12621425469825647878:=0
def te15157504786125876792:=0
def te3245803671037576492:=0
def te898279204306811221:=0
def te6818040940905494164:=0
def te5264135187544144516:=0
def te533248234052777709:=0
def te6586222671971361232:=0
def te15345506536277239913:=0
def te12516210207353620033:=0
def te12315748127557148503:=0
def te9270893442526491171:=0
def te4296017968856681124:=0
def te8199453983471620451:=0
def te6693800375424928551:=0
def te3458397297121978181:=0
def te9436200947850835700:=0
def te15701428613060084179:=0
def te2868371648703290004:=0
def te10132385092964929087:=0
def te1834501854206773977:=0
def te15962461023809546451:=0
def te3372783811835333146:=0
def te15792727826947720169:=0
def te8649678829052450897:=0
def te3436181851568644992:=0
def te3591951226952290195:=0
def te9135634668683553824:=0
def te2892618849834087354:=0
def te11509621582474647919:=0
def te10833753914134339789:=0
def te7356579539782170332:=0
def te13286732642582663653:=0
def te8571279732460520214:=0
def te12944876520238417144:=0
def te11642399968325649490:=0
def te9636199040480615185:=0
def te8155073723765008817:=0
def te13563156115645645218:=0
def te7966289985910218852:=0
def te14092868904293010798:=0
def te1242010884510075678:=0
def te10279192508524267625:=0
def te6261938314539513099:=0
def te4730088354973000165:=0
def te14913398879696313791:=0
def te8732407840689456656:=0
def te13724825187761690284:=0
def te4467587314334747349:=0
def te2209545587871348026:=0
def te10896808084017730970:=0
def te9781550253769713277:=0
def te15461731014422535328:=0
def te10985426998710438614:=0
def te1948129898214590594:=0
def te5465821263996837087:=0
def te4322841945737005381:=0
def te17395521403050580982:=0
def te6227213831706001953:=0
def te13819267985647013952:=0
def te11628227234555994939:=0
def te6565209849730619453:=0
def te15090465446925906954:=0
def te14903107586779166209:=0
def te2399110459560533378:=0
def te6874306189407267416:=0
def te6418039379777256493:=0
def te9751835383506538323:=0
def te2535904263719369897:=0
def te16225511779482964829:=0
def te14900774185155604334:=0
def te14857013250014766262:=0
def te993783186542969005:=0
def te904524666056165476:=0
def te12284400624842647822:=0
def te8344513923890388434:=0
def te7973465610227330395:=0
def te10532020130459786470:=0
def te9250948756132001802:=0
def te16618618710305527159:=0
def te3332195511839755144:=0
def te2439039306377503946:=0
def te1411429880643062815:=0
def te12600139016693716377:=0
def te7055754022921560989:=0
def te493010135581651879:=0
def te5767539825427906650:=0
def te14843408703366891763:=0
def te15535610132260616306:=0
def te486690957627846365:=0
def te10754755477798972834:=0
def te15333278601029141528:=0
def te14751849136487460177:=0
def te10659413495702933075:=0
def te8513504079942924521:=0
def te2634224542024555662:=0
def te2405413947856685494:=0
def te10017322291439724875:=0
def te10875145871443390259:=0
def te18211068075159038498:=0
def te9820732041663466319:=0
def te12655537292661695536:=0
def te9106798465828771705:=0
def te6522734841675564634:=0
def te7446045455603448038:=0
def te6307894214057932530:=0
def te13349468169244856810:=0
def te7758882079990798100:=0
def te5748007754056664367:=0
def te12887109815767942529:=0
def te6985645864801323385:=0
def te3672594736905763474:=0
def te12692654649564054409:=0
def te5138122802428105283:=0
def te17642473953621721355:=0
def te16932173154988528344:=0
def te10195253659813221589:=0
def te17273806697895119137:=0
def te17455543146058905814:=0
def te10337741707263732257:=0
def te8287642544785886084:=0
def te15807545481668070510:=0
def te2988767964256684020:=0
def te5034724818554872517:=0
def te8050948816993376060:=0
def te3868357593504932999:=0
def te5278049381360053855:=0
def te14326230906471464251:=0
def te86324078106201778:=0
def te4316448799940348680:=0
def te11286029935973998334:=0
def te16801391542428704114:=0
def te16966497666523897335:=0
def te15295138825949537255:=0
def te10490351008225212959:=0
def te8326823239398387426:=0
def te397148589453828830:=0
def te546337954768260931:=0
def te10065600038466325779:=0
def te7489296689260183603:=0
def te14672721946007999884:=0
def te13147712867295326139:=0
def te12220109200468010453:=0
def te12785234015464777475:=0
def te12217080608723574124:=0
def te12402201625656435346:=0
def te13387785962139191113:=0
def te639739940893623099:=0
def te3013215514466408914:=0
def te13840676557036322678:=0
def te14083249564116771395:=0
def te14356888199280676718:=0
def te5479622374737708900:=0
def te6358286744778386522:=0
def te8554880879593056239:=0
def te6742214604251544783:=0
def te3659073680436329707:=0
def te2131917570653415809:=0
def te8336146580729878664:=0
def te2213340138606657909:=0
def te13719739271402806105:=0
def te12384953079997706021:=0
def te917605670419103177:=0
def te9242048899581737951:=0
def te1500681776578898438:=0
def te240871535511884403:=0
def te2944667149657251411:=0
def te5634732018010608973:=0
def te10249839861570147847:=0
def te5065506868984627402:=0
def te14871780632287058721:=0
def te18320612545947585173:=0
def te13594489634143052931:=0
def te11162969966541975433:=0
def te2296001367964164084:=0
def te2532114534880872654:=0
def te3474407181233426832:=0
def te1168174486261863509:=0
def te11517153756594072059:=0
def te12643271111455200291:=0
def te17764734812926766853:=0
def te8802824151730726544:=0
def te7654959747919122823:=0
def te14507355730824335424:=0
def te15708414186469027675:=0
def te3604647435305786515:=0
def te16322961061305232394:=0
def te12978781375987666176:=0
def te16078126474094125693:=0
def te5754817317783848172:=0
def te3745498700109417418:=0
def te10667295681958273646:=0
def te6534813113744566738:=0
def te2211352592825707940:=0
def te17565167878600556003:=0
def te12389021033401088627:=0
def te15294455173442190495:=0
def te4906363453034277321:=0
def te10957988982083006154:=0
def te12530943451200383141:=0
def te16659987170483493970:=0
def te15140487639202762014:=0
def te750658058452920427:=0
def te7017039821397064288:=0
def te1168770039455644066:=0
def te693119453164157238:=0
def te7563026507419874853:=0
def te11522097810223221313:=0
def te46394332206938069:=0
def te3045333877025183475:=0
def te3287014514646420456:=0
def te12798050656781742599:=0
def te13624197812889531751:=0
def te218481045624141959:=0
def te18270900116378440120:=0
def te7330478049959891009:=0
def te3903058403125434314:=0
def te15499574369257795156:=0
def te9792500716826024607:=0
def te17567504309522361492:=0
def te564683090659742323:=0
def te8684027400544132192:=0
def te6038054064209873408:=0
def te459887804539301803:=0
def te7228967349805620215:=0
def te11333968003872242836:=0
def te13968465610675318022:=0
def te12721931186128077366:=0
def te15313791968230506523:=0
def te2498071342771586231:=0
def te17747381629143409987:=0
def te11970407285136225981:=0
def te18347827193816927604:=0
def te16296922162342126231:=0
def te12369531389834371468:=0
def te16364328437221904281:=0
def te17794706794495468432:=0
def te8809350288235481790:=0
def te4004287220467530609:=0
def te6116702283045617543:=0
def te1255102862477599057:=0
def te10526830482040137326:=0
def te1091799031137101615:=0
def te5344515330797387636:=0
def te16337703738564080723:=0
def te11514256991530708276:=0
def te17380822660771143776:=0
def te4235830604487029980:=0
def te6984393396279433802:=0
def te18096215560590808156:=0
def te5506092375167695612:=0
def te8744241886818493120:=0
def te5937470798381299503:=0
end PySem.W.Fast
open PySem PySem.W PyProof.Rows
set_option maxHeartbeats 0 in
theorem PySem.Challenge.cw_oneslate_k41_a_letter_brought_holds : PySem.Challenge.rw_oneslate_k41_a_letter_brought.Holds := by
 w_on;o_law;k_head;(case hw=>w_witness2)
 k_fill
 refine aF.af4 (l:=PySem.Challenge.rw_oneslate_k41_a_letter_brought) (k:=26) ["highest","with_cell","with_doing","with_page"] rfl rfl ⟨rfl,by decide,by decide⟩ ?ahw ?ahv (λw h Y=>PySem.W.km_in_of Y) ?F
 case ahw=>
  intro x ai
  repeat (rcases akt.mp ai with rfl|ai;· exact⟨_,rfl⟩)
  cases ai
 case ahv=>exact λp=>by kernel_rfl
 case F=>
  intro w mg fa h ek G vk
  have nU:aF.mI (aB.iI ek) mg "Asker" dV.zR:=by
   dsimp only[aB.iI]
   refine' aF.I_ ek G ?a ?kL ?hd ?po ?mr ?mk ?vz ?na
   (case a=>k_is);(case kL=>k_is);(case hd=>k_is);(case po=>k_is);(case mr=>k_is);(case mk=>k_is);(case vz=>k_is)
   case na=>
    simp only[ak2]
    repeat (refine⟨by k_is,?_⟩)
    exact λ_ h=>nomatch h
  have nV:aF.mI (aB.iI ek) mg "House" dV.zS:=by
   dsimp only[aB.iI]
   refine' aF.I_ ek G ?a ?kL ?hd ?po ?mr ?mk ?vz ?na
   (case a=>k_is);(case kL=>k_is);(case hd=>k_is);(case po=>k_is);(case mr=>k_is);(case mk=>k_is);(case vz=>k_is)
   case na=>
    simp only[ak2]
    repeat (refine⟨by k_is,?_⟩)
    exact λ_ h=>nomatch h
  have Cs:aB.gP (aB.iI ek) mg "law" dV.wQ ["script"]:=by
   dsimp only[aB.iI]
   refine' aF.KZ ek G ?a ?l ?c ?k (λ_ _ _ _ _ _=>aF.o1 λ_=>rfl)
   (case a=>k_is);(case l=>k_is);(case c=>k_is);(case k=>k_is)
  letI:aB.a5:=aF.t4 (aB.iI ek) ["highest","with_cell","with_doing","with_page"]
  have D1:aF.KTab PySem.Challenge.rw_oneslate_k41_a_letter_brought.prog w (aB.iI ek) mg "FORMS" dV.y8:=by
   dsimp only[aB.iI]
   refine' aF.Y_ ek G ?a ?s ?l ?k ?f
   (case a=>k_is);(case s=>decide);(case l=>k_is)
   case k=>
    intro e he
    repeat (rcases akt.mp he with rfl|he;· first|exact⟨"put",rfl,rfl⟩|exact⟨"add",rfl,rfl⟩|exact⟨"swap",rfl,rfl⟩|exact⟨"take",rfl,rfl⟩|exact⟨"renew",rfl,rfl⟩|exact⟨"free",rfl,rfl⟩|exact⟨"sure",rfl,rfl⟩|exact⟨"move",rfl,rfl⟩|exact⟨"end",rfl,rfl⟩)
    cases he
   case f=>exact⟨_,_,rfl,⟨_,rfl⟩,(aF.ou (xs:=["name","number"]) (by k_is) (by decide +kernel) (by exact⟨_,_,rfl,⟨_,_,rfl,rfl⟩⟩)),⟨_,_,rfl,⟨_,rfl⟩,(aF.ou (xs:=["name","number"]) (by k_is) (by decide +kernel) (by exact⟨_,_,rfl,⟨_,_,rfl,rfl⟩⟩)),⟨_,_,rfl,⟨_,rfl⟩,(aF.ou (xs:=["name","number","number"]) (by k_is) (by decide +kernel) (by exact⟨_,_,rfl,⟨_,_,rfl,⟨_,_,rfl,rfl⟩⟩⟩)),⟨_,_,rfl,⟨_,rfl⟩,(aF.ou (xs:=["fence"]) (by k_is) (by decide +kernel) (by exact⟨_,_,rfl,rfl⟩)),⟨_,_,rfl,⟨_,rfl⟩,(aF.ou (xs:=["fence"]) (by k_is) (by decide +kernel) (by exact⟨_,_,rfl,rfl⟩)),⟨_,_,rfl,⟨_,rfl⟩,(aF.ou (xs:=["fence"]) (by k_is) (by decide +kernel) (by exact⟨_,_,rfl,rfl⟩)),⟨_,_,rfl,⟨_,rfl⟩,(aF.ou (xs:=["fence","name","number"]) (by k_is) (by decide +kernel) (by exact⟨_,_,rfl,⟨_,_,rfl,⟨_,_,rfl,rfl⟩⟩⟩)),⟨_,_,rfl,⟨_,rfl⟩,(aF.ou (xs:=["hall"]) (by k_is) (by decide +kernel) (by exact⟨_,_,rfl,rfl⟩)),⟨_,_,rfl,⟨_,rfl⟩,(aF.ou (xs:=[]) (by k_is) (by decide +kernel) (by exact rfl)),rfl⟩⟩⟩⟩⟩⟩⟩⟩⟩
  have An:aF.uq PySem.Challenge.rw_oneslate_k41_a_letter_brought.prog w (aB.iI ek) mg "DOERS" dV.hj:=by
   dsimp only[aB.iI]
   refine' aF.Ur ek G ?a ?l ?k ?f
   (case a=>k_is);(case l=>k_is)
   case k=>
    intro e he
    repeat (rcases akt.mp he with rfl|he;· first|exact⟨"put",rfl,rfl⟩|exact⟨"add",rfl,rfl⟩|exact⟨"swap",rfl,rfl⟩|exact⟨"take",rfl,rfl⟩|exact⟨"renew",rfl,rfl⟩|exact⟨"free",rfl,rfl⟩|exact⟨"sure",rfl,rfl⟩|exact⟨"move",rfl,rfl⟩|exact⟨"end",rfl,rfl⟩)
    cases he
   case f=>
    simp only[ak2]
    repeat (refine⟨⟨_,by k_is,by k_is⟩,?_⟩)
    exact λ_ h=>nomatch h
  have D_:=by
   refine' aF.zg (x:="highest") (st:=dV.Pq) (ln:=["highest","with_cell","with_doing","with_page"]) ek G ?oB ?qx ?q' ?cR ?dC ?ru ?av ?aE ?cJ ?eJ ?k4 ?n1 ?nn ?ii
   (case oB=>decide);(case qx=>k_is);(case q'=>k_is);(case cR=>exact rfl);(case dC=>k_is);(case ru=>exact rfl);(case av=>exact rfl);(case aE=>exact rfl);(case cJ=>exact rfl);(case eJ=>exact rfl);(case k4=>exact rfl);(case n1=>exact rfl);(case nn=>decide)
   case ii=>
    intro y a9 bF
    repeat (rcases akt.mp a9 with rfl|a9;· first|rfl|(refine' aF.zP ?br ?bP bF;(case br=>refine' aF.w4 ?a1 ?a2 ?eW ?iN ?jq;(case a1=>k_is);(case a2=>k_is);(case eW=>exact rfl);(case iN=>k_is);(case jq=>exact rfl));(case bP=>decide)))
    cases a9
  have Ed:=by
   refine' aF.zg (x:="with_cell") (st:=dV.FF) (ln:=["highest","with_cell","with_doing","with_page"]) ek G ?oB ?qx ?q' ?cR ?dC ?ru ?av ?aE ?cJ ?eJ ?k4 ?n1 ?nn ?ii
   (case oB=>decide);(case qx=>k_is);(case q'=>k_is);(case cR=>exact rfl);(case dC=>k_is);(case ru=>exact rfl);(case av=>exact rfl);(case aE=>exact rfl);(case cJ=>exact rfl);(case eJ=>exact rfl);(case k4=>exact rfl);(case n1=>exact rfl);(case nn=>decide)
   case ii=>
    intro y a9 bF
    repeat (rcases akt.mp a9 with rfl|a9;· first|rfl|(refine' aF.zP ?br ?bP bF;(case br=>refine' aF.w4 ?a1 ?a2 ?eW ?iN ?jq;(case a1=>k_is);(case a2=>k_is);(case eW=>exact rfl);(case iN=>k_is);(case jq=>exact rfl));(case bP=>decide)))
    cases a9
  have Ee:=by
   refine' aF.zg (x:="with_doing") (st:=dV.FG) (ln:=["highest","with_cell","with_doing","with_page"]) ek G ?oB ?qx ?q' ?cR ?dC ?ru ?av ?aE ?cJ ?eJ ?k4 ?n1 ?nn ?ii
   (case oB=>decide);(case qx=>k_is);(case q'=>k_is);(case cR=>exact rfl);(case dC=>k_is);(case ru=>exact rfl);(case av=>exact rfl);(case aE=>exact rfl);(case cJ=>exact rfl);(case eJ=>exact rfl);(case k4=>exact rfl);(case n1=>exact rfl);(case nn=>decide)
   case ii=>
    intro y a9 bF
    repeat (rcases akt.mp a9 with rfl|a9;· first|rfl|(refine' aF.zP ?br ?bP bF;(case br=>refine' aF.w4 ?a1 ?a2 ?eW ?iN ?jq;(case a1=>k_is);(case a2=>k_is);(case eW=>exact rfl);(case iN=>k_is);(case jq=>exact rfl));(case bP=>decide)))
    cases a9
  have Ef:=by
   refine' aF.zg (x:="with_page") (st:=dV.FH) (ln:=["highest","with_cell","with_doing","with_page"]) ek G ?oB ?qx ?q' ?cR ?dC ?ru ?av ?aE ?cJ ?eJ ?k4 ?n1 ?nn ?ii
   (case oB=>decide);(case qx=>k_is);(case q'=>k_is);(case cR=>exact rfl);(case dC=>k_is);(case ru=>exact rfl);(case av=>exact rfl);(case aE=>exact rfl);(case cJ=>exact rfl);(case eJ=>exact rfl);(case k4=>exact rfl);(case n1=>exact rfl);(case nn=>decide)
   case ii=>
    intro y a9 bF
    repeat (rcases akt.mp a9 with rfl|a9;· first|rfl|(refine' aF.zP ?br ?bP bF;(case br=>refine' aF.w4 ?a1 ?a2 ?eW ?iN ?jq;(case a1=>k_is);(case a2=>k_is);(case eW=>exact rfl);(case iN=>k_is);(case jq=>exact rfl));(case bP=>decide)))
    cases a9
  have kt:aB.xA (aB.iI ek):=aB.Y4 _
  have QA:aF.Gs mg:=by constructor<;>exact PySem.W.mg_none_of ek G (by k_is)
  refine aF.Q_ vk Cs (λ_ _ _ _ _ _ _=>rfl) (λbase SA f fd F=>aF.Zf (dV.E4 ⟨?_,?_,?_,?_,?_,?_,?_,?_,?_,?_,?_,?_,?_,?_,?_,?_,?_,?_,?_,?_,?_,?_,?_,?_,?_,?_,?_,?_,?_,?_,?_,?_,?_,?_,?_,?_,?_,?_,?_,?_,?_,?_,?_,?_,?_,?_,?_,?_,?_,?_,?_,?_,?_,?_,?_,?_,?_,?_,?_,?_,?_,?_,?_,?_,?_,?_,?_,?_,?_,?_,?_,?_,?_,?_,?_,?_,?_,?_,?_,?_,?_,?_,?_,?_,?_,?_,?_,?_,?_,?_,?_,?_,?_,?_,?_,?_,?_,?_,?_,?_,?_,?_,?_,?_,?_,?_,Cs,nU,nV,?_,?_,?_,?_,?_,?_,?_,?_,An,D1,D_,Ed,Ee,Ef,SA,QA,kt⟩ F) dV.Zp)
  all_goals first
  |(refine' ⟨_,PySem.W.mg_of ek G ?a,?b⟩;(case a=>k_is);(case b=>first|exact rfl|exact⟨_,rfl⟩))
  |((try dsimp only[aB.iI]);refine' ⟨aF.KZ ek G ?a ?l ?c ?k (λ_ _ _ _ _ _=>by first|exact aF.P0 rfl|exact aF.o1 λ_=>rfl|exact aF.qd λ_ _=>rfl|exact aF.qe λ_ _ _=>rfl|exact aF.AB λ_ _ _ _=>rfl|exact aF.AD λ_ _ _ _ _=>rfl|exact aF.AE λ_ _ _ _ _ _=>rfl|exact aF.F9 λ_ _ _ _ _ _ _=>rfl),aF.sk (by kernel_rfl)⟩;(case a=>k_is);(case l=>k_is);(case c=>k_is);(case k=>k_is))
  |(dsimp only[aB.iI]at nU ⊢;refine' ⟨aF.K0 ek G nU ?a ?f ?i ?l ?c ?k (λ_ _ _ _ _ _=>by first|exact aF.o1 λ_=>rfl|exact aF.qd λ_ _=>rfl|exact aF.qe λ_ _ _=>rfl|exact aF.AB λ_ _ _ _=>rfl|exact aF.AD λ_ _ _ _ _=>rfl|exact aF.AE λ_ _ _ _ _ _=>rfl|exact aF.F9 λ_ _ _ _ _ _ _=>rfl),aF.sk (by kernel_rfl)⟩;(case a=>k_is);(case f=>k_is);(case i=>k_is);(case l=>k_is);(case c=>k_is);(case k=>k_is))
  |(dsimp only[aB.iI]at nV ⊢;refine' ⟨aF.K0 ek G nV ?a ?f ?i ?l ?c ?k (λ_ _ _ _ _ _=>by first|exact aF.o1 λ_=>rfl|exact aF.qd λ_ _=>rfl|exact aF.qe λ_ _ _=>rfl|exact aF.AB λ_ _ _ _=>rfl|exact aF.AD λ_ _ _ _ _=>rfl|exact aF.AE λ_ _ _ _ _ _=>rfl|exact aF.F9 λ_ _ _ _ _ _ _=>rfl),aF.sk (by kernel_rfl)⟩;(case a=>k_is);(case f=>k_is);(case i=>k_is);(case l=>k_is);(case c=>k_is);(case k=>k_is))
  |(dsimp only[aB.iI]at nU ⊢;refine' ⟨aF.K1 ek G nU ?a ?f ?i ?l ?t ?c ?k rfl (λ_ _ _ _ _ _=>by first|exact aF.o1 λ_=>⟨_,rfl,rfl⟩|exact aF.qd λ_ _=>⟨_,rfl,rfl⟩|exact aF.qe λ_ _ _=>⟨_,rfl,rfl⟩) (λ_ _ _ _ _ _=>by first|exact aF.o1 λ_=>⟨_,rfl,rfl⟩|exact aF.qd λ_ _=>⟨_,rfl,rfl⟩|exact aF.qe λ_ _ _=>⟨_,rfl,rfl⟩),aF.sk (by kernel_rfl)⟩;(case a=>k_is);(case f=>k_is);(case i=>k_is);(case l=>k_is);(case t=>k_is);(case c=>k_is);(case k=>k_is))
  |(dsimp only[aB.iI]at nV ⊢;refine' ⟨aF.K1 ek G nV ?a ?f ?i ?l ?t ?c ?k rfl (λ_ _ _ _ _ _=>by first|exact aF.o1 λ_=>⟨_,rfl,rfl⟩|exact aF.qd λ_ _=>⟨_,rfl,rfl⟩|exact aF.qe λ_ _ _=>⟨_,rfl,rfl⟩) (λ_ _ _ _ _ _=>by first|exact aF.o1 λ_=>⟨_,rfl,rfl⟩|exact aF.qd λ_ _=>⟨_,rfl,rfl⟩|exact aF.qe λ_ _ _=>⟨_,rfl,rfl⟩),aF.sk (by kernel_rfl)⟩;(case a=>k_is);(case f=>k_is);(case i=>k_is);(case l=>k_is);(case t=>k_is);(case c=>k_is);(case k=>k_is))
