import PyProof.Rows.All
import Wide.All
import OpenK.AllK
import Wide.FinOn
import Lean
import PyProof.EqAt
import PyProof.EqKinds
import PyProof.TupleCall
import KE.KSortTup
import PyProof.ZipIter
import KE.KMinKey
import KE.KRevSl
import PyProof.Rows.EnumRows
import PyProof.EnumStmt
import KE.KIntText
import PySem.Challenge.RW_oneslate_k38_begin_refused
set_option Elab.async false
set_option linter.all false
set_option maxRecDepth 100000
set_option bootstrap.genMatcherCode false
open Array renaming length_toList->akN,getElem?_eq_some_iff->al8,getElem?_toList->ao9
open Bool renaming false_ne_true->aj7,and_eq_true->akw,eq_iff_iff->alm,false_eq_true->an3
open False renaming elim->akv
open ForInStep renaming yield->anE
open Int renaming fdiv_eq_ediv_of_nonneg->an8,toNat_natCast->aoj
open List renaming getElem?_eq_some_iff->aj1,length_map->aj2,mem_cons->aj5,length_append->aj9,map_cons->akb,size_toArray->akd,mem_cons_of_mem->akg,mem_cons_self->akh,getElem?_set_ne->akk,length_cons->akn,getElem?_append_right->akq,getElem?_set_self->aks,getElem?_append_left->akt,mem_append_right->akz,getElem?_map->akD,mem_singleton->akE,replicate->akF,lookup_cons->akH,length_set->akL,mem_of_getElem?->akQ,getElem?_eq_getElem->akR,find?_cons_of_neg->akT,range->akU,length_drop->akY,append_nil->ak3,length_replicate->ak7,getD_eq_getElem?_getD->ala,mem_append->alb,length_nil->alc,find?_cons_of_pos->ald,mem_range->alh,mem_map->alj,map_append->aln,all_eq_true->alp,forall_mem_cons->alq,nodup_cons->alw,not_mem_nil->aly,length->alA,lookup->alI,any_cons->alK,zip_cons_cons->alN,mem_append_left->alP,getElem?_replicate->alV,pairwise_cons->alZ,find?_cons->al2,contains_iff_mem->al4,all_cons->al6,length_take->amh,filterMap_cons_none->aml,filterMap_cons_some->amm,mem_filter->ams,take_of_length_le->amA,append_assoc->amC,length_singleton->amH,mem_map_of_mem->amS,of_mem_zip->amV,getElem?_zip_eq_some->amX,drop_drop->ana,nodup_append->ane,map_map->anF,eq_nil_of_length_eq_zero->anN,filterMap_cons->anO,filter_sublist->anQ,mem_filterMap->anY,prefix_append->an2,zip_nil_right->an4,zip_nil_left->aom,mem_of_find?_eq_some->aot,getElem?_eq_none_iff->aou,map_nil->aoC,any_eq_true->aoD,getElem_mem->aoE,prefix_refl->aoG,cons_append->aoJ,set_set->aoK,length_eq_zero_iff->aoP,forIn_cons->aoU,drop->aoV,length_zip->aoW,nil_append->aoY,all_append->ao0,drop_eq_nil_of_le->ao5,take_zero->ao7,take_nil->apg
open List.Nodup renaming length_le_of_subset->anM
open List.Pairwise renaming nil->aol
open Nat renaming le_of_ble_eq_true->aj3,le_refl->aj8,lt_of_lt_of_le->akr,ne_of_lt->aku,zero_le->akA,lt_irrefl->akM,le_trans->akS,le_of_lt->akZ,sub_self->alY,le_of_eq->amF,le_add_right->amN,not_lt_zero->anL,ne_of_gt->aoA,succ_le_succ->aoF
open Ne renaming symm->alR
open Option renaming map_eq_some_iff->amz,bind_eq_some_iff->aoN
open Option.some renaming inj->aky,injEq->apq
open Or renaming inl->akO,inr->akP
open PyProof.Rows renaming envOfC->akW,seqObj->ak1,slot_tuple_getitem->ak9,IntsAre->ali,KeyOrd->alH,get?_update_seq->amv,envOfC->amG,callWith_type1->amK,AllBare->amR,subscriptTail->aob,listUpdate_at->aof,KeyKind->apd,strKind->ape
open PySem renaming wpAny_bind->ajX,starEach->ajY,Shared->aj0,wpAny_pure->aj4,sizeLine->aj6,Program->aki,Around->akm,backTo->ako,mainGlobals->akx,wpAny_mono->akB,compareOp->akG,assignEach->akI,bootBuiltins->akJ,sizeLine_eq->akK,wpAny_field->akV,foldedSetIterable->ak0,FuncData->ak4,swapsWith->ak6,keywordEach->ak8,wpAny_truthy_bool->alg,rawInt->alo,wpAny_seqItems->alr,mem_of_lookup->alv,wpAny_Call_Name_kw->alx,attributeBase->alz,wpAny_callSpecial?_slot->alD,backToKw->alE,wpAny_newObj_type->alF,sliceBounds->alJ,sysModules->alO,binaryOp->alQ,holding->alS,behindInMarks->alT,getMethod->alU,wpAny_setField_rec->al1,wpAny_holding->al5,wpAny_pyIter_list->al9,standAt->amc,codeAny->amd,callWith->ame,bindArgs->amf,codeAny_mono->amg,wpAny_call_entry->ami,IsPair->amk,wpAny_pyIter_tuple->amt,closureFor->amu,NameKind->amx,wpAny_letGo->amB,wpAny_tryCatch->amI,assign->amO,wpAny_passesOwn->amT,pyNext->am0,Arguments->am2,getItem->am8,Keyword->am9,Builtin->anb,wpAny_setField->anc,IsPart->anf,richCompare_meets_room->ani,strKind->anm,wpAny_onRaise->ano,ExceptHandler->anp,codeAmong->anq,DictEntry->ant,seqItems?->anu,codeAny_handlers_test->anz,Paired->anB,letOwnedTupleGo->anC,wpAny_updateSeq_pair->anI,codeAny_builtin->anJ,wpAny_handleBy_cons->anP,tupleKind->anW,findBy->anZ,tupleKind_room_in1->an0,noteFrame->an1,wpAny_standAt->aod,wpAny_attempt->aoe,plainId_quiet->aog,slot_list_getitem->aok,builtinsNs->aon,wpAny_call->aop,wpAny_rule->aor,defaultsOf->aos,callerA->aox,valueAt->aoy,wpAny_execs_cons->aoz,wpAny_forIn_list->aoH,wpAny_execs_nil->aoR,PassesOwn->aoS,TriplesOk->aoT,wpAny_updateSeq->aoX,subscripted->ao3,richCompare->ao4
open PySem.Around renaming under_plainId->anK,under->apl
open PySem.AutoSeq1 renaming sub_tuple_tuple->am4
open PySem.BindsTo renaming of_defaults->aph
open PySem.Builtin renaming bitNot->alu,bitAnd->amD,bitOr->anl
open PySem.Builtin.Builtins renaming bindParams->an6
open PySem.Builtin.Int renaming intBits->ale,intTooBig->ao8
open PySem.Builtin.List renaming listTooLong->am3
open PySem.Builtin.Slice renaming slicePlaces->ama,sliceAdjust->amW,sliceApplied->an9
open PySem.Builtin.SmallTypes renaming nextOf->ak2,ownedTupleIsFree->alC,ownedTupleHandOut->am5
open PySem.Builtin.Str renaming strSliceIndices->al0,occurrences->amr
open PySem.Builtin.Tuple renaming tupleExact->amj,tupleCompareSizes->amq,tupleItemsOf->aoa
open PySem.Calls renaming callWith_builtin->amy,evalArgs_plain->amM,spliced_cons->am1,Name_function_global->an7,spliced_nil->aoi
open PySem.EntryCells renaming newEntry->api
open PySem.F renaming plain_max_loop->als,slot_dict_get->al3,slot_tuple_iterator_next->al7,slot_list_append->amn,type_list_append->amo,entry_dict_get->ang,entry_max_loop->ank,slot_zip_next->anH,args_tuple_iterator_next_1->anT,entry_tuple_iterator_next->an5,slot_dict_getitem->aoq,args_dict_get_3->aoL,plainAttrs_dict->aoM,plainAttrs_list->aoO,attr_ValueError->aoQ,type_dict_get->ao6
open PySem.Heap renaming get?_push_of_some->ajZ,get?_push_size->akc,lt_size->ake,get?_update_other->alX,size_push->amE,SameBut->amZ,get?_update_self->anv,IsTuple->aoI
open PySem.Heap.IsSliceOf renaming new->apn
open PySem.Heap.IsTuple renaming push->apr
open PySem.Heap.SameBut renaming update->alf
open PySem.NameKind renaming free->amP,cell->aoc
open PySem.Obj renaming mapSeq->akC,data_mapFields->amw,mapFields->amQ,isFreed_of_fields->anw
open PySem.Paired renaming length->apf
open PySem.PassesOwn renaming never->aoZ
open PySem.PyData renaming strOk->akf,eqv->apb
open PySem.SeqAt renaming shaped->apo
open PySem.SeqAt.EqAt renaming int_str->apj,str_int->apk,int_int->apm
open PySem.Shared renaming heap->anj
open PySem.Str renaming ofString->akj
open PySem.Unicode renaming upperOf->ao1
open PySem.Value renaming ref->akl,isStrOf->akX,none->ak5,bool->amL,type->anA,notImplemented->anG,int->anU,str->anV,builtin->aoh
open PySem.W renaming mg_of->aka,mg_none_of->akp,kitOne->alk,kitOne->alG,findIn->alL,fnOf->alM,keepIn->alW,emptyDict->amb,exmOne->amJ,methodCall_KW->amU,instObj->amY,kitAny->am6,exmOne->am7,nsIn->anh,kia_one->anr,kia_tup->anx,callWith_K->anD,codeIn->anR,mg_of->anS,plainGet->aoo,cellsFrom_some->aoB,hasDictIn->ao2,kitAny->apa
open PySem.Walks renaming list->apc
open Sum renaming inl->aov,inr->aow
open True renaming intro->alB
abbrev aM:=PySem.W.Frag
abbrev a9:=PySem.Str->Option PySem.Value
abbrev b':=PySem.Value->PySem.Shared->Prop
abbrev cC:=List (PySem.Addr×PySem.Obj)
noncomputable section
namespace ax
open PySem PySem.Spec PyProof.Rows
abbrev Key:=Sum Int Str
def sr:Key->Value->Bool
 |.inl k,v=>Value.isInt k v|.inr x,v=>akX x v
def Y9(w:World):Key->Int
 |.inl k=>hashInt k|.inr x=>hashStr w x
def nU:∀{k:Key}{v:Value},sr k v=true->(∃i t,k=aov i/\v=anU i t)\/(∃x t,k=aow x/\v=anV x t)
 |.inl i,v,h=>by
  obtain⟨t,e⟩:=Value.isInt_shape (k:=i) (v:=v) h;exact .inl ⟨i,t,rfl,e⟩
 |.inr x,v,h=>by
  obtain⟨t,e⟩:=Value.isStrOf_shape (x:=x) (v:=v) h;exact .inr ⟨x,t,rfl,e⟩
def Y_(i:Int)(t:Tok):sr (.inl i) (.int i t)=true:=by simp[sr,Value.isInt]
def σ'(x:Str)(t:Tok):sr (.inr x) (.str x t)=true:=by simp[sr,akX]
def Za(a b:Int):decide ((aov a:Key)=aov b)=(a==b):=by
 by_cases e:a=b
 .subst e;simp
 .have h:¬(aov a:Key)=aov b:=λq=>e (Sum.inl.inj q)
  rw[decide_eq_false h];exact(beq_eq_false_iff_ne.mpr e).symm
def Zd(a b:Str):decide ((aow a:Key)=aow b)=decide (a=b):=by
 by_cases e:a=b
 .subst e;simp
 .have h:¬(aow a:Key)=aow b:=λq=>e (Sum.inr.inj q)
  rw[decide_eq_false h,decide_eq_false e]
def Zb(a:Int)(b:Str):decide ((aov a:Key)=aow b)=false:=decide_eq_false (λq=>nomatch q)
def Zc(a:Str)(b:Int):decide ((aow a:Key)=aov b)=false:=decide_eq_false (λq=>nomatch q)
def iY(prog:aki)(w:World):KeyKind prog w Key where
 is:=sr
 hash:=Y9 w
 inj:=λv a b ao aa=>by
  rcases nU ao with⟨i,t,rfl,rfl⟩|⟨x,t,rfl,rfl⟩
  .rcases nU aa with⟨j,u,rfl,e⟩|⟨y,u,rfl,e⟩
   .injection e with aw _;rw[aw]
   .exact nomatch e
  .rcases nU aa with⟨j,u,rfl,e⟩|⟨y,u,rfl,e⟩
   .exact nomatch e
   .injection e with aw _;rw[aw]
 byValue:=λk v h=>by
  rcases nU h with⟨i,t,rfl,rfl⟩|⟨x,t,rfl,rfl⟩<;>rfl
 pyHash:=λbu h=>by
  rcases nU bu with⟨i,t,rfl,rfl⟩|⟨x,t,rfl,rfl⟩
  .exact wpAny_pyHash_int h
  .exact wpAny_pyHash_str h
 eqBool:=λcp bu h=>by
  rcases nU cp with⟨i,t,rfl,rfl⟩|⟨x,t,rfl,rfl⟩
  .rcases nU bu with⟨j,u,rfl,rfl⟩|⟨y,u,rfl,rfl⟩
   .rw[Za]at h;exact wpAny_eqBool_int h
   .rw[Zb]at h;exact apj i t y u _ _ _ _ h
  .rcases nU bu with⟨j,u,rfl,rfl⟩|⟨y,u,rfl,rfl⟩
   .rw[Zc]at h;exact apk x t j u _ _ _ _ h
   .rw[Zd]at h;exact wpAny_eqBool_str h
 «strs»:=λk x t v h=>by
  rcases nU h with⟨i,u,rfl,e⟩|⟨y,u,rfl,e⟩
  .exact nomatch e
  .injection e with aw _
   subst aw;cases v<;>rfl
def Z5(prog:aki)(w:World)(i:Int)(t:Tok):(iY prog w).is (.inl i) (.int i t)=true:=Y_ i t
def Z6(prog:aki)(w:World)(x:Str)(t:Tok):(iY prog w).is (.inr x) (.str x t)=true:=σ' x t
inductive V where
 |aN|au (b:Bool)|int (i:Int)|str (x:Str)|xo (b:Array UInt8)|xN (b:UInt64)|ref (a:Addr)|ty (n:String)
 deriving DecidableEq
def RelV:V->Value->Prop
 |.aN,u=>u=ak5|.au b,u=>u=amL b|.int i,u=>∃t,u=anU i t|.str x,u=>∃t,u=anV x t|.xo b,u=>∃t,u=Value.bytes b t|.xN b,u=>∃t,u=Value.float b t|.ref a,u=>u=akl a|.ty n,u=>u=anA n
abbrev Vals:List V->List Value->Prop:=anB RelV
def Vals.length{xs:List V}{us:List Value}(r:Vals xs us):xs.length=us.length:=apf r
theorem Vals.get:∀{xs:List V}{us:List Value}{i:Nat}{x:V},Vals xs us->xs[i]? = some x->∃u,us[i]? = some u/\RelV x u
 |_,_,_,_,.nil,e=>by simp at e| _,_,0,_,.cons r _,e=>by simp at e;subst e;exact⟨_,rfl,r⟩|_,_,i+1,x,.cons _ t,e=>by
  obtain⟨u,ae,ag⟩:=Vals.get (i:=i) (x:=x) t (by simpa using e);exact⟨u,by simpa using ae,ag⟩
theorem Vals.append:∀{xs ys:List V}{us ws:List Value},Vals xs us->Vals ys ws->Vals (xs++ys) (us++ws)
 |_,_,_,_,.nil,s=>s|_,_,_,_,.cons r t,s=>.cons r (Vals.append t s)
theorem Vals.take:∀{xs:List V}{us:List Value}(n:Nat),Vals xs us->Vals (xs.take n) (us.take n)
 |_,_,0,_=>.nil|_,_,_+1,.nil=>.nil|_,_,n+1,.cons r t=>.cons r (Vals.take n t)
theorem Vals.drop:∀{xs:List V}{us:List Value}(n:Nat),Vals xs us->Vals (xs.drop n) (us.drop n)
 |_,_,0,r=>r|_,_,_+1,.nil=>.nil|_,_,n+1,.cons _ t=>Vals.drop n t
def hI:Option V->Option Value->Prop
 |some v,some u=>RelV v u|none,none=>True|_,_=>False
def hq{κ:Type}:List (κ×V)->List (κ×Value)->Prop:=anB λ(p:κ×V) (q:κ×Value)=>p.1=q.1/\RelV p.2 q.2
def cv:Key->V
 |.inl i=>.int i|.inr x=>.str x
inductive f' where
 |lst (xs:List V)
 |tup (xs:List V)
 |hu (aC:List (Key×V))|gz (aC:List (List Key×V))
 |set (S:Int->Bool) (n:Nat)
 |ins (C bU:Addr) (fs:List (Str×V))
 |own (x:Addr)
 |zZ (fs:List (Str×V))
 |met (f x:Addr)
 |zr (lo aA:Int)
 |cc (o:Obj) (u:f')
 |ft (ps:Array Value)
 |ext (ot:Heap->Prop)
abbrev ah:=Addr->Option f'
def upd(H:ah)(a:Addr)(o:f'):ah:=λb=>if b=a then some o else H b
def dn{H:ah}:upd H a o a=some o:=by unfold upd;rw[if_pos rfl]
def cG{H:ah}(h:b≠a):upd H a o b=H b:=by unfold upd;rw[if_neg h]
def afG{H:ah}:upd (upd H a o) a u=upd H a u:=by
 funext b;unfold upd;split<;>rfl
def Dk{H:ah}(h:H a=some o)(h':H b=some u)(d:o≠u):a≠b:=by
 intro e;subst e;rw[h]at h';exact d (aky h')
def jq{H:ah}(h:H a=some o)(h':H b=none):a≠b:=by
 intro e;subst e;rw[h]at h';cases h'
section
variable(P:aki)(w:World)
def fL(H:ah)(h:Heap)(a:Addr):f'->Prop
 |.lst xs=>xs.length<=aj6/\∃(its:List Value)(n:Nat),Vals xs its/\h.get? a=some { cls:=.type "list",data:=.seq its.toArray n }|.tup xs=>xs.length<=aj6/\∃its:List Value,Vals xs its/\IsTup h a its.toArray|.hu aC=>aC.length<=aj6/\(a==alO)=false/\∃vs,hq aC vs/\h.DictOf (iY P w) a vs|.gz aC=>aC.length<=aj6/\(a==alO)=false/\∃xs:List (List Key×Addr×Value),
   anB (λ(p:List Key×V) (q:List Key×Addr×Value)=>p.1=q.1/\H q.2.1=some (.tup (p.1.map cv))/\RelV p.2 q.2.2) aC xs/\
   ∃o ay cn,h.get? a=some o/\o.ExactDict/\o.data=.dict ay cn/\ay.toList=xs.map (entryOfKey (anW (iY P w)))/\(xs.map (·.1)).Nodup
 |.set S n=>h.SetOf (intKind P w) a S n|.ins C bU fs=>H bU=some (.own a)/\fs.length<=1000/\bU≠a/\h.get? a=some (amY C bU)/\
   ∃d2,h.Ns1 bU d2/\(∀f,hI (fs.lookup f) (d2 f))/\Within d2 (fs.map (·.1))
 |.own _=>∃o,h.get? a=some o|.zZ fs=>∃d2,h.Ns1 a d2/\∀f,hI (fs.lookup f) (d2 f)|.zr lo aA=>∃t u v,h.get? a=some { cls:=.type "range",data:=.fields #[.int lo t,.int aA u,.int 1 v] }|.cc o u=>h.get? a=some o/\fL H h a u|.ft ps=>h.get? a=some { cls:=.none,data:=.fields ps }|.met f x=>h.get? a=some (W.methodObj (.ref f) (.ref x))|.ext ot=>ot h/\(∃o,h.get? a=some o)/\∀ae ag:Heap,ot ae->(∀o,ae.get? a=some o->ag.get? a=some o)->ot ag
def et(H:ah)(h:Heap):Prop:=∀a o,H a=some o->fL P w H h a o
end
section
variable{P:aki}{w:World}{H H':ah}{h h':Heap}{a:Addr}{o:f'}
def fL.lt(x:fL P w H h a o):a<h.objs.size:=by
 cases o with
 |lst xs=>obtain⟨_,_,_,_,e⟩:=x;exact ake e
 |tup xs=>obtain⟨_,_,_,p⟩:=x;exact p.lt
 |hu aC=>obtain⟨_,_,_,_,o,_,_,e,_⟩:=x;exact ake e
 |gz aC=>obtain⟨_,_,_,_,o,_,_,e,_⟩:=x;exact ake e
 |set S n=>obtain⟨o,_,_,_,e,_⟩:=x;exact ake e
 |ins C bU fs=>obtain⟨_,_,_,e,_⟩:=x;exact ake e
 |own y=>obtain⟨_,e⟩:=x;exact ake e
 |zZ fs=>obtain⟨_,⟨_,_,_,e,_⟩,_⟩:=x;exact ake e
 |zr lo aA=>obtain⟨_,_,_,e⟩:=x;exact ake e
 |cc bh u=>obtain⟨e,_⟩:=x;exact ake e
 |ft ps=>exact ake (show h.get? a=some _ from x)|met f y=>exact ake (show h.get? a=some _ from x)|ext ot=>obtain⟨_,⟨_,e⟩,_⟩:=x;exact ake e
theorem anB.Dd{α β:Type}{F G:α->β->Prop}:∀{pj:List α}{l₂:List β},anB F pj l₂->(∀a b,F a b->G a b)->anB G pj l₂
 |_,_,.nil,_=>.nil|_,_,.cons r t,f=>.cons (f _ _ r) (anB.Dd t f)
def fL.m2(x:fL P w H h a o)(k:∀b u,(b=a\/H b=some (.own a))->h.get? b=some u->h'.get? b=some u)
  (aT:∀b,H b=some (.own a)->H' b=some (.own a)) (bC:∀b xs,H b=some (.tup xs)->H' b=some (.tup xs)):fL P w H' h' a o:=by
 induction o with
 |lst xs=>obtain⟨z,its,n,r,e⟩:=x;exact⟨z,its,n,r,k _ _ (.inl rfl) e⟩
 |tup xs=>obtain⟨z,its,r,bh,e,c⟩:=x;exact⟨z,its,r,bh,k _ _ (.inl rfl) e,c⟩
 |hu aC=>obtain⟨z,y,vs,r,bh,ay,cn,e,c⟩:=x;exact⟨z,y,vs,r,bh,ay,cn,k _ _ (.inl rfl) e,c⟩
 |gz aC=>
  obtain⟨z,y,xs,r,bh,ay,cn,e,c⟩:=x;exact⟨z,y,xs,anB.Dd r λp q z=>⟨z.1,bC _ _ z.2.1,z.2.2⟩,bh,ay,cn,k _ _ (.inl rfl) e,c⟩
 |set S n=>obtain⟨bh,ay,cn,t,e,c⟩:=x;exact⟨bh,ay,cn,t,k _ _ (.inl rfl) e,c⟩
 |ins C bU fs=>
  obtain⟨d,z,ne,e,d2,⟨cT,ay,cn,aG,c⟩,r⟩:=x;exact⟨aT _ d,z,ne,k _ _ (.inl rfl) e,d2,⟨cT,ay,cn,k _ _ (.inr d) aG,c⟩,r⟩
 |own y=>obtain⟨bh,e⟩:=x;exact⟨bh,k _ _ (.inl rfl) e⟩
 |zZ fs=>obtain⟨d2,⟨cT,ay,cn,e,c⟩,r⟩:=x;exact⟨d2,⟨cT,ay,cn,k _ _ (.inl rfl) e,c⟩,r⟩
 |zr lo aA=>obtain⟨t,u,v,e⟩:=x;exact⟨t,u,v,k _ _ (.inl rfl) e⟩
 |cc bh u aZ=>obtain⟨e,q⟩:=x;exact⟨k _ _ (.inl rfl) e,aZ q⟩
 |ft ps=>
  have e:h.get? a=some { cls:=.none,data:=.fields ps }:=x;show h'.get? a=some { cls:=.none,data:=.fields ps };exact k a _ (.inl rfl) e
 |met f y=>
  have e:h.get? a=some (W.methodObj (.ref f) (.ref y)):=x;show h'.get? a=some (W.methodObj (.ref f) (.ref y));exact k a _ (.inl rfl) e
 |ext ot=>obtain⟨p,⟨o,e⟩,st⟩:=x;exact⟨st _ _ p λo q=>k _ _ (.inl rfl) q,⟨o,k _ _ (.inl rfl) e⟩,st⟩
def et.lt(x:et P w H h)(e:H a=some o):a<h.objs.size:=(x a o e).lt
def et.fresh(x:et P w H h)(e:h.objs.size<=a):H a=none:=by
 cases q:H a with
 |none=>rfl|some u=>exact absurd (akr (x.lt q) e) (akM _)
theorem et.kept(x:et P w H h)(k:∀b u,h.get? b=some u->h'.get? b=some u):et P w H h':=λa o e=>
 (x a o e).m2 (λb u _ q=>k b u q) (λ_ q=>q) λ_ _ q=>q
def et.laid(x:et P w H h)(k:∀b u,h.get? b=some u->h'.get? b=some u)(aL:h.objs.size<=a)(new:fL P w (upd H a o) h' a o):et P w (upd H a o) h':=λb u e=>by
 have aF:=x.fresh aL
 by_cases aa:b=a
 .subst aa;rw[dn]at e;cases e;exact new
 .rw[cG aa]at e
  exact(x b u e).m2 (λc v _ q=>k c v q) (λc q=>by rw[cG (jq q aF)];exact q) λc xs q=>by rw[cG (jq q aF)];exact q
end
def fi(H:ah)(a:Addr)(u:f'):Prop:=H a=some u\/∃o,H a=some (.cc o u)
def fi.ok{H:ah}(r:fi H a u)(x:et P w H h):fL P w H h a u:=by
 rcases r with r|⟨o,r⟩
 .exact x a u r
 .obtain⟨_,q⟩:=x a _ r
  exact q
def tR:Option f'->Prop
 |some (.lst _)=>True|some (.hu _)=>True|some (.gz _)=>True|some (.set _ _)=>True|some (.ins _ _ _)=>True|some (.ext _)=>True|_=>False
section
variable{P:aki}{w:World}{H:ah}{h h':Heap}{x e:Addr}{c7:f'}
def et.write(ok:et P w H h)(jn:tR (H x))(he:e=x\/H e=some (.own x))(k:∀b u,b≠e->h.get? b=some u->h'.get? b=some u)(r':∃u,h'.get? e=some u)
  (new:fL P w (upd H x c7) h' x c7):et P w (upd H x c7) h':=λb u q=>by
 have K9:∀c y,H c=some (.own y)->c≠x:=λc y r z=>by subst z;rw[r]at jn;exact jn
 have aaB:∀c xs,H c=some (.tup xs)->c≠x:=λc xs r z=>by subst z;rw[r]at jn;exact jn
 by_cases aa:b=x
 .subst aa;rw[dn]at q;cases q;exact new
 .rw[cG aa]at q
  by_cases k9:b=e
  .have g5:H b=some (.own x):=by
    rcases he with z|z
    .exact absurd (k9.trans z) aa
    .rw[k9];exact z
   rw[q]at g5;cases g5;obtain⟨v,bu⟩:=r';exact⟨v,by rw[k9];exact bu⟩
  .refine(ok b u q).m2 (λc v hc r=>k c v ?_ r) (λc r=>by rw[cG (K9 c b r)];exact r) λc xs r=>by rw[cG (aaB c xs r)];exact r
   rcases hc with rfl|hc
   .exact k9
   .rintro rfl
    rcases he with z|z
    .exact K9 c b hc z
    .rw[hc]at z;cases z;exact aa rfl
end
structure fA(fs ex:List Addr)(H H':ah)(h h':Heap):Prop where
 keep:∀b o,h.get? b=some o->H b=none->b∉fs->b∉ex->h'.get? b=some o
 slot:∀b o,h.get? b=some o->H b=none->b∈fs->b∉ex->∃cq,h'.get? b=some { o with slots:=cq }
 free:∀b o,h.get? b=some o->H b=none->b∉ex->H' b=none
 there:∀b o,h.get? b=some o->b∉ex->∃c7,h'.get? b=some c7
 lQ:∀b xs,H b=some (.tup xs)->H' b=some (.tup xs)
 ke:∀b o u,H b=some (.cc o u)->H' b=some (.cc o u)
 kz:∀b ps,H b=some (.ft ps)->∃more,H' b=some (.ft (ps++more))
section
variable{fs ex:List Addr}{H H1:ah}{h ae h':Heap}{a x e:Addr}{o:f'}
def fA.any(u:fA fs ex H H1 h ae)(q:h.get? b=some bh)(n:H b=none)(ai:b∉ex):∃cq,ae.get? b=some { bh with slots:=cq }:=by
 by_cases aa:b∈fs
 .exact u.slot b bh q n aa ai
 .exact⟨bh.slots,u.keep b bh q n aa ai⟩
def fA.kept(k:∀b u,h.get? b=some u->h'.get? b=some u):fA fs ex H H h h':=
 ⟨λb bh q _ _ _=>k b bh q,λb bh q _ _ _=>⟨bh.slots,k b bh q⟩,λ_ _ _ n _=>n,λb bh q _=>⟨bh,k b bh q⟩,λ_ _ q=>q,λ_ _ _ q=>q,λ_ ps q=>⟨#[],by rw[q];simp⟩⟩
def fA.refl:fA fs ex H H h h:=fA.kept λ_ _ q=>q
def fA.laid(k:∀b u,h.get? b=some u->h'.get? b=some u)(aL:h.objs.size<=a)(aF:H a=none):fA fs ex H (upd H a o) h h' where
 keep:=λb u q _ _ _=>k b u q
 slot:=λb u q _ _ _=>⟨u.slots,k b u q⟩
 free:=λb u q n _=>by rw[cG (aku (akr (ake q) aL))];exact n
 there:=λb u q _=>⟨u,k b u q⟩
 lQ:=λb xs q=>by rw[cG (jq q aF)];exact q
 ke:=λb u xs q=>by rw[cG (jq q aF)];exact q
 kz:=λb ps q=>⟨#[],by rw[cG (jq q aF),q];simp⟩
def fA.write(jn:tR (H x))(he:e=x\/H e=some (.own x))(k:∀b u,b≠e->h.get? b=some u->h'.get? b=some u)(r':∃u,h'.get? e=some u):fA fs ex H (upd H x o) h h':=by
 have ai:∀b,H b=none->b≠x:=λb n z=>by subst z;rw[n]at jn;exact jn
 have aa:∀b,H b=none->b≠e:=λb n z=>by
  subst z;rcases he with r|r
  .exact ai b n r
  .rw[n]at r;cases r
 have hm:∀b u,H b=some u->¬tR (some u)->b≠x:=λb u q nm z=>by subst z;rw[q]at jn;exact nm jn
 refine⟨λb u q n _ _=>k b u (aa b n) q,λb u q n _ _=>⟨u.slots,k b u (aa b n) q⟩,λb u q n _=>by rw[cG (ai b n)];exact n,λb u q _=>?_,
  λb xs q=>by rw[cG (hm b _ q λz=>z)];exact q,λb u xs q=>by rw[cG (hm b _ q λz=>z)];exact q,λb ps q=>⟨#[],by rw[cG (hm b _ q λz=>z),q];simp⟩⟩
 by_cases k9:b=e
 .subst k9;exact r'
 .exact⟨u,k b u k9 q⟩
end
def zJ(h:Heap)(H:ah):List Addr:=(akU h.objs.size).filter λa=>(H a).isSome
def nN(h:Heap)(H:ah):Heap:=W.hideAll h (zJ h H)
def XD(h:Heap)(H:ah):(nN h H).objs.size=h.objs.size:=W.hideAll_size _ _
def B5{h:Heap}{H:ah}(e:h.get? b=some o)(n:H b=none):(nN h H).get? b=some o:=
 W.hideAll_get _ e λhm=>by
  have q:(H b).isSome=true:=(ams.mp hm).2;rw[n]at q;simp at q
def aaF{h:Heap}{H:ah}(e:(nN h H).get? b=some o):h.get? b=some o/\H b=none:=by
 have bZ:h.get? b=some o:=W.of_hideAll (zJ h H) e;refine⟨bZ,?_⟩
 cases q:H b with
 |none=>rfl|some x=>
  have hm:b∈zJ h H:=ams.mpr ⟨alh.mpr (ake bZ),by simp[q]⟩;have z:(nN h H).get? b=none:=W.hideAll_none (zJ h H) hm;rw[z]at e;cases e
def Pq(g h:Heap)(L:Addr):List (Addr×Obj):=(akU h.objs.size).filterMap λa=>if a=L\/(g.get? a).isSome=true then none else(h.get? a).map λo=>(a,o)
def rest(g h:Heap)(L d:Addr):List (Addr×Obj):=(Pq g h L).filter λp=>decide (p.1≠d)
structure Mod(K:aM)(mg:a9)(base:Heap):Prop where
 pf:K.In base
 glob:base.Ns akx mg
 blt:∃cE,base.Ns aon cE/\∀x:Str,x≠"__name__"->cE x=akJ x
 nolimit:base.NoLimit
structure aJ where
 prog:aki
 w:World
 K:aM
 mg:Str->Option Value
 base:Heap
 A:akm
 N:List Str
 gk:aj0
 H₀:ah
 env:Env
 outer:List Env
 stack:List Env
 ex:List Addr
 fn:Str->Bool
 calm:Bool
 h9:List (Addr×Obj)
 cL:Value->aj0->Prop
def fY(l:List Env):List Addr:=l.filterMap (·.frame)
abbrev aJ.fs(X:aJ):List Addr:=fY X.outer
def j9(sc:Scope)(x:Str):Prop:=sc.names.lookup x=some .local\/sc.names.lookup x=some .cell\/sc.names.lookup x=some .free
def Loc(sc:Scope)(x:Str):Prop:=sc.names.lookup x=some .local\/sc.names.lookup x=some .cell
def Look(env:Env)(h:Heap)(m:a9)(x:Str)(u:Value):Prop:=
 (env.kindOf x=some .local/\m x=some u)\/((env.kindOf x=some .cell\/env.kindOf x=some .free)/\∃c,env.cells.lookup x=some c/\h.IsCell c (some u))
structure aJ.Ok(X:aJ):Prop where
 mod:Mod X.K X.mg X.base
 kind:X.env.scope.kind=.function
 glob:X.env.globals=akx
 blt:X.env.builtins=aon
 above:X.gk.heap.objs.size<=X.env.locals
 inj:∀x y c,X.env.cells.lookup x=some c->X.env.cells.lookup y=some c->x=y
 has:∀x,(X.env.kindOf x=some .cell\/X.env.kindOf x=some .free)->∃c,X.env.cells.lookup x=some c
 rQ:∀x c,X.fn x=true->X.env.cells.lookup x=some c->X.gk.heap.objs.size<=c
 hd:X.calm=true->X.A.handled=none
 frames:X.A.frames=some X.stack
 wh:X.stack=X.outer\/(X.stack=X.env::X.outer/\X.env.frame=some X.env.locals)
 uk:∀b∈X.ex,b≠X.env.locals/\∀x c,X.env.cells.lookup x=some c->c≠b
 bs:∀b o,X.base.get? b=some o->X.gk.heap.get? b=some o/\X.H₀ b=none
 kb:X.base.objs.size<=X.gk.heap.objs.size
 sG:∀b o,X.base.get? b=some o->b∉X.ex
 r1:∀b∈X.ex,b∉X.fs
 jf:X.gk.heap.FunFrames X.base X.outer
 nE:∀b∈X.fs,X.H₀ b=none
structure Inv(X:aJ)(zn:cC)(Y:List (Option V))(H:ah)(s:aj0):Prop where
 ok:X.Ok
 os:s.os=X.gk.os
 bare:amR s.gens
 base:fA X.fs X.ex X.H₀ H X.gk.heap s.heap
 loc:∃m,s.heap.Ns X.env.locals m/\∀(i:Nat)(x:Str)(v:V),X.N[i]? = some x->Y[i]? = some (some v)->j9 X.env.scope x->∃u,RelV v u/\Look X.env s.heap m x u
 cell:∀x c,X.env.cells.lookup x=some c->∃v,s.heap.IsCell c v
 free:H X.env.locals=none
 iN:∀x c,X.env.cells.lookup x=some c->H c=none
 pin:∀p∈X.h9++zn,s.heap.get? p.1=some p.2/\H p.1=none/\p.1≠X.env.locals/\p.1∉X.fs/\∀v,p.2.data≠.cell v
 bA:et X.prog X.w H s.heap
 len:Y.length=X.N.length
section
variable{X:aJ}{zn:cC}{Y:List (Option V)}{H H':ah}{s:aj0}{h':Heap}
def aJ.Ok.aau(ok:X.Ok)(e:X.base.get? b=some o):b∉X.fs:=λaa=>by
 have:=(ok.jf.mem aa).1;rw[e]at this;cases this
def Inv.bs(I:Inv X zn Y H s):∀b o,X.base.get? b=some o->s.heap.get? b=some o/\H b=none:=λb o e=>
 ⟨I.base.keep b o (I.ok.bs b o e).1 (I.ok.bs b o e).2 (I.ok.aau e) (I.ok.sG b o e),I.base.free b o (I.ok.bs b o e).1 (I.ok.bs b o e).2 (I.ok.sG b o e)⟩
def Inv.d4(I:Inv X zn Y H s):∀b o,X.base.get? b=some o->s.heap.get? b=some o:=λb o e=>(I.bs b o e).1
def Inv.mod(I:Inv X zn Y H s):Mod X.K X.mg X.base:=I.ok.mod
def Inv.dW(I:Inv X zn Y H s):X.K.In s.heap:=I.ok.mod.pf.keeps I.d4
def Inv.fr(I:Inv X zn Y H s):∃m,Fr X.base X.env.locals s.heap m:=
 let⟨m,aF,_⟩:=I.loc
 ⟨m,aF,I.d4,akS I.ok.kb I.ok.above⟩
def Inv.lt(I:Inv X zn Y H s):X.env.locals<s.heap.objs.size:=let⟨_,aF,_⟩:=I.loc;aF.lt
def Inv.zz(I:Inv X zn Y H s):X.gk.heap.objs.size<=s.heap.objs.size:=akS I.ok.above (akZ I.lt)
def Inv.aaw(I:Inv X zn Y H s)(h:s.heap.objs.size<=a):a∉X.fs:=λaa=>by
 obtain⟨_,o,aT,_⟩:=I.ok.jf.mem aa;exact absurd (akr (ake aT) (akS I.zz h)) (akM _)
def Inv.kQ(I:Inv X zn Y H s):∀x c,X.env.cells.lookup x=some c->c≠X.env.locals:=λx c e z=>by
 obtain⟨v,o,aT,hd⟩:=I.cell x c e;obtain⟨m,⟨c7,ay,cn,gj,BZ,_⟩,_⟩:=I.loc;rw[z,gj]at aT;cases aT;rw[BZ]at hd;cases hd
def Inv.jf(I:Inv X zn Y H s):s.heap.FunFrames X.base X.outer:=by
 have all:∀(l:List Env),(∀b∈fY l,b∈X.fs)->X.gk.heap.FunFrames X.base l->s.heap.FunFrames X.base l:=by
  intro l
  induction l with
  |nil=>intro _ _;trivial|cons env r aZ=>
   intro az hl;obtain⟨aB,⟨L,o,hf,aF,aT,hd⟩,aD⟩:=hl;have kh:L∈X.fs:=az L (by unfold fY;rw[anO,hf];exact akh);obtain⟨cq,e⟩:=I.base.slot L o aT (I.ok.nE L kh) kh λz=>I.ok.r1 L z kh
   exact⟨aB,⟨L,_,hf,aF,e,hd⟩,aZ (λb aa=>az b (by unfold fY;rw[anO,hf];exact akg _ aa)) aD⟩
 exact all X.outer (λ_ aa=>aa) I.ok.jf
def Inv.stack(I:Inv X zn Y H s):s.heap.FunFrames X.base X.stack:=by
 rcases I.ok.wh with e|⟨e,hf⟩
 .rw[e];exact I.jf
 .rw[e]
  obtain⟨m,aF,_⟩:=I.loc;refine .cons (by rw[I.ok.kind];decide) hf aF ?_ I.jf;exact Heap.get?_none_of_le (akS I.ok.kb I.ok.above)
def Inv.Er(I:Inv X zn Y H s):∀b∈fY X.stack,b∈X.env.locals::X.fs:=λb aa=>by
 rcases I.ok.wh with e|⟨e,hf⟩
 .rw[e]at aa;exact akg _ aa
 .rw[e]at aa
  unfold fY at aa;rw[anO,hf]at aa;exact aa
def Inv.Ep(I:Inv X zn Y H s):∀b∈fY X.stack,H b=none:=λb aa=>by
 rcases aj5.mp (I.Er b aa)with e|aa
 .rw[e];exact I.free
 .obtain⟨_,o,aT,_⟩:=I.ok.jf.mem aa
  exact I.base.free b o aT (I.ok.nE b aa) λz=>I.ok.r1 b z aa
def Inv.step{g':Array GenState}{t':Nat}{d':Drawn}{ch:List Addr}(I:Inv X zn Y H s)
  (mA:∀b∈ch,(b∈X.ex\/X.gk.heap.objs.size<=b)/\b≠X.env.locals/\(∀x c,X.env.cells.lookup x=some c->c≠b)/\∀p∈X.h9++zn,p.1≠b)
  (keep:∀b o,b≠X.env.locals->b∉X.fs->b∉ch->s.heap.get? b=some o->H b=none->h'.get? b=some o)
  (slot:∀b o,b≠X.env.locals->b∈X.fs->b∉ch->s.heap.get? b=some o->H b=none->∃cq,h'.get? b=some { o with slots:=cq }) (free:∀b o,b∉ch->s.heap.get? b=some o->H b=none->H' b=none)
  (there:∀b o,b∉ch->s.heap.get? b=some o->∃c7,h'.get? b=some c7)
  (lQ:∀b xs,H b=some (.tup xs)->H' b=some (.tup xs)) (ke:∀b o u,H b=some (.cc o u)->H' b=some (.cc o u)) (kz:∀b ps,H b=some (.ft ps)->∃more,H' b=some (.ft (ps++more)))
  (ns:∀m,s.heap.Ns X.env.locals m->h'.Ns X.env.locals m) (bA:et X.prog X.w H' h') (a3:amR g') :
  Inv X zn Y H' { s with heap:=h',gens:=g',drawn:=d',toks:=t' }:=by
 have K6:∀b o,X.gk.heap.get? b=some o->b≠X.env.locals:=λb o e=>aku (akr (ake e) I.ok.above)
 have y0:∀b o,X.gk.heap.get? b=some o->b∉X.ex->b∉ch:=λb o e ai aa=>by
  rcases(mA b aa).1 with z|z
  .exact ai z
  .exact absurd (akr (ake e) z) (akM _)
 have cellK:∀x c,X.env.cells.lookup x=some c->∀v,s.heap.IsCell c v->h'.IsCell c v:=λx c e v aO=>by
  obtain⟨o,aT,hd⟩:=aO;have vG:c∉ch:=λz=>(mA c z).2.2.1 x c e rfl
  by_cases hc:c∈X.fs
  .obtain⟨cq,q⟩:=slot c o (I.kQ x c e) hc vG aT (I.iN x c e)
   exact⟨_,q,hd⟩
  .exact⟨o,keep c o (I.kQ x c e) hc vG aT (I.iN x c e),hd⟩
 refine⟨I.ok,I.os,a3,⟨λb o e n aa ai=>?_,λb o e n aa ai=>?_,λb o e n ai=>?_,λb o e ai=>?_,λb xs e=>lQ b xs (I.base.lQ b xs e),λb o xs e=>ke b o xs (I.base.ke b o xs e),λb ps e=>?_⟩,?_,λx c e=>?_,?_,λx c e=>?_,λp aL=>?_,bA,I.len⟩
 .exact keep b o (K6 b o e) aa (y0 b o e ai) (I.base.keep b o e n aa ai) (I.base.free b o e n ai)
 .obtain⟨cq,aw⟩:=I.base.slot b o e n aa ai
  obtain⟨n',aG⟩:=slot b _ (K6 b o e) aa (y0 b o e ai) aw (I.base.free b o e n ai);exact⟨n',aG⟩
 .obtain⟨c7,aw⟩:=I.base.there b o e ai
  exact free b c7 (y0 b o e ai) aw (I.base.free b o e n ai)
 .obtain⟨c7,aw⟩:=I.base.there b o e ai
  exact there b c7 (y0 b o e ai) aw
 .obtain⟨yK,aw⟩:=I.base.kz b ps e
  obtain⟨ZR,aG⟩:=kz b _ aw;exact⟨yK++ZR,by rw[aG,Array.append_assoc]⟩
 .obtain⟨m,aF,hl⟩:=I.loc
  refine⟨m,ns m aF,λi x v aw aG c3=>?_⟩;obtain⟨u,r,l⟩:=hl i x v aw aG c3;refine⟨u,r,?_⟩;rcases l with l|⟨k,c,e,z⟩
  .exact .inl l
  .exact .inr ⟨k,c,e,cellK x c e _ z⟩
 .obtain⟨v,z⟩:=I.cell x c e
  exact⟨v,cellK x c e v z⟩
 .obtain⟨m,⟨o,_,_,aT,_⟩,_⟩:=I.loc
  exact free _ o (λz=>(mA _ z).2.1 rfl) aT I.free
 .obtain⟨v,o,aT,hd⟩:=I.cell x c e
  exact free c o (λz=>(mA c z).2.2.1 x c e rfl) aT (I.iN x c e)
 .obtain⟨e,n,ne,mU,d⟩:=I.pin p aL
  have vG:p.1∉ch:=λz=>(mA p.1 z).2.2.2 p aL rfl
  exact⟨keep p.1 p.2 ne mU vG e n,free p.1 p.2 vG e n,ne,mU,d⟩
def Inv.un{t':Nat}(I:Inv X zn Y H s)(u:fA X.fs [] H H' s.heap h')(bA:et X.prog X.w H' h'):Inv X zn Y H' { s with heap:=h',toks:=t' }:=by
 obtain⟨m,⟨o,ay,cn,aT,r⟩,_⟩:=id I.loc;obtain⟨cq,kh⟩:=u.any aT I.free (by simp);exact I.step (g':=s.gens) (d':=s.drawn) (ch:=[]) (λ_ z=>nomatch z) (λb o _ aa _ e n=>u.keep b o e n aa (by simp)) (λb o _ aa _ e n=>u.slot b o e n aa (by simp)) (λb o _ e n=>u.free b o e n (by simp)) (λb o _ e=>u.there b o e (by simp)) u.lQ u.ke u.kz (λfq hm=>by
  obtain⟨c7,Bn,Bi,gj,bH⟩:=hm;rw[aT]at gj;cases gj;exact⟨_,Bn,Bi,kh,bH⟩) bA I.bare
def Inv.call{g':Array GenState}{t':Nat}{d':Drawn}{ch:List Addr}(I:Inv X zn Y H s)(u:fA (fY X.stack) ch H H' s.heap h')(bA:et X.prog X.w H' h')(a3:amR g')
  (mA:∀b∈ch,(b∈X.ex\/X.gk.heap.objs.size<=b)/\b≠X.env.locals/\(∀x c,X.env.cells.lookup x=some c->c≠b)/\∀p∈X.h9++zn,p.1≠b) :
  Inv X zn Y H' { s with heap:=h',gens:=g',drawn:=d',toks:=t' }:=by
 obtain⟨m,⟨o,ay,cn,aT,r⟩,_⟩:=id I.loc;obtain⟨cq,kh⟩:=u.any aT I.free λz=>(mA _ z).2.1 rfl
 exact I.step (ch:=ch) mA (λb o kh aa hc e n=>u.keep b o e n (λz=>(aj5.mp (I.Er b z)).elim kh aa) hc) (λb o _ _ hc e n=>u.any e n hc) (λb o hc e n=>u.free b o e n hc) (λb o hc e=>u.there b o e hc) u.lQ u.ke u.kz (λfq hm=>by
  obtain⟨c7,Bn,Bi,gj,bH⟩:=hm;rw[aT]at gj;cases gj;exact⟨_,Bn,Bi,kh,bH⟩) bA a3
def Inv.turned{t':Nat}{it:Addr}(I:Inv X zn Y H s)(k:∀b o,b≠it->s.heap.get? b=some o->h'.get? b=some o)(aF:H it=none)(kh:it≠X.env.locals)
  (ae:it∈X.ex\/X.gk.heap.objs.size<=it) (ag:∀x c,X.env.cells.lookup x=some c->c≠it) (bO:∀p∈X.h9++zn,p.1≠it):Inv X zn Y H { s with heap:=h',toks:=t' }:=by
 have vJ:∀b u,H b=some u->b≠it:=λb u e z=>by rw[z,aF]at e;cases e
 refine I.step (g':=s.gens) (d':=s.drawn) (ch:=[it]) (λb aa=>?_) (λb o _ _ hc e _=>k b o (λz=>hc (by simp[z])) e) (λb o _ _ hc e _=>⟨o.slots,k b o (λz=>hc (by simp[z])) e⟩) (λ_ _ _ _ n=>n)
  (λb o hc e=>⟨o,k b o (λz=>hc (by simp[z])) e⟩) (λ_ _ e=>e) (λ_ _ _ e=>e) (λb ps e=>⟨#[],by rw[e];simp⟩) (λm hm=>?_) (λb u e=>?_) I.bare
 .have e:b=it:=by simpa using aa
  subst e;exact⟨ae,kh,ag,bO⟩
 .obtain⟨o,ay,cn,aT,r⟩:=hm
  exact⟨o,ay,cn,k _ o (alR kh) aT,r⟩
 .refine(I.bA b u e).m2 (λc v hc q=>k c v ?_ q) (λ_ q=>q) λ_ _ q=>q
  rcases hc with z|z
  .rw[z];exact vJ b u e
  .exact vJ c _ z
theorem Inv.tok(I:Inv X zn Y H s)(t:Nat):Inv X zn Y H { s with toks:=t }:=I.un (h':=s.heap) (t':=t) fA.refl I.bA
def Inv.kept{t':Nat}(I:Inv X zn Y H s)(k:∀b u,s.heap.get? b=some u->h'.get? b=some u):Inv X zn Y H { s with heap:=h',toks:=t' }:=I.un (fA.kept k) (I.bA.kept k)
def Inv.laid{t':Nat}(I:Inv X zn Y H s)(k:∀b u,s.heap.get? b=some u->h'.get? b=some u)(aL:s.heap.objs.size<=a)(new:fL X.prog X.w (upd H a o) h' a o) :
  Inv X zn Y (upd H a o) { s with heap:=h',toks:=t' }:=I.un (fA.laid k aL (I.bA.fresh aL)) (I.bA.laid k aL new)
def Inv.write{x e:Addr}{o:f'}{t':Nat}(I:Inv X zn Y H s)(jn:tR (H x))(he:e=x\/H e=some (.own x))(k:∀b u,b≠e->s.heap.get? b=some u->h'.get? b=some u)(r':∃u,h'.get? e=some u)
  (new:fL X.prog X.w (upd H x o) h' x o):Inv X zn Y (upd H x o) { s with heap:=h',toks:=t' }:=I.un (fA.write jn he k r') (I.bA.write jn he k r' new)
def Inv.weak{Y':List (Option V)}(I:Inv X zn Y H s)(hl:Y'.length=Y.length)(w:∀(i:Nat) v,Y'[i]? = some (some v)->Y[i]? = some (some v)):Inv X zn Y' H s:=
 ⟨I.ok,I.os,I.bare,I.base,let⟨m,aF,XK⟩:=I.loc;⟨m,aF,λi x v aw aG c3=>XK i x v aw (w i v aG) c3⟩,I.cell,I.free,I.iN,I.pin,I.bA,hl.trans I.len⟩
def Inv.LI(I:Inv X zn Y H s)(h:∀p∈abL,s.heap.get? p.1=some p.2/\H p.1=none/\p.1≠X.env.locals/\p.1∉X.fs/\∀v,p.2.data≠.cell v):Inv X abL Y H s:=
 ⟨I.ok,I.os,I.bare,I.base,I.loc,I.cell,I.free,I.iN,λp aL=>(alb.mp aL).elim (λz=>I.pin p (alP _ z)) (h p),I.bA,I.len⟩
def Dm{N:List Str}(hN:N.Nodup){i j:Nat}{x:Str}(a:N[i]? = some x)(b:N[j]? = some x):i=j:=by
 obtain⟨ae,aw⟩:=aj1.mp a;obtain⟨ag,aG⟩:=aj1.mp b;exact(List.getElem_inj hN).mp (aw.trans aG.symm)
theorem NR{M:Model}{A:akm}{E:b'}{i:Nat}{x:Str}{v:V}{u:Value}{Q:Unit->aj0->Prop}(I:Inv X zn Y H s)(hN:X.N.Nodup)(aA:X.N[i]? = some x)(ai:Loc X.env.scope x)(r:RelV v u)
  (h:∀s',Inv X zn (Y.set i (some v)) H s'->(∃a,amZ a s.heap s'.heap/\(a=X.env.locals\/X.env.cells.lookup x=some a))->Q () s') (hf:X.fn x=true\/X.env.scope.names.lookup x=some .local:=by first|exact .inl rfl|exact .inr rfl|assumption):wpAny M A (storeName X.env x u) Q E s:=by
 obtain⟨m,aF,hl⟩:=id I.loc;have Xg:(X.env.scope.kind==.class||(X.env.scope.kind==.module&&X.env.locals != X.env.globals))=false:=by rw[I.ok.kind];rfl
 have o7:i<Y.length:=by rw[I.len];exact(aj1.mp aA).1
 have kQ:=I.kQ;have tracked:∀{a:Addr}{h':Heap},(∃o,s.heap.get? a=some o/\H a=none)->amZ a s.heap h'->et X.prog X.w H h':=λ{a h'} ao az b bh e=>by
  obtain⟨_,_,x'⟩:=ao;refine(I.bA b bh e).m2 (λc eg hc q=>(az.2 c ?_).trans q) (λ_ q=>q) λ_ _ q=>q
  rintro rfl;rcases hc with rfl|hc
  .rw[x']at e;cases e
  .rw[x']at hc;cases hc
 rcases ai with aB|aB
 .refine wpAny_storeName_local aB aF (λh' uS az=>?_) Xg
  obtain⟨Dt,_,_,mD,_⟩:=id aF;refine h _ ⟨I.ok,I.os,I.bare,⟨λb o e n aa ai=>?_,λb o e n aa ai=>?_,I.base.free,λb o e ai=>?_,I.base.lQ,I.base.ke,I.base.kz⟩,⟨_,uS,λj y fg aw aG c3=>?_⟩,λy c e=>?_,I.free,I.iN,λp aL=>?_,tracked ⟨Dt,mD,I.free⟩ az,by simpa using I.len⟩ ⟨_,az,.inl rfl⟩
  .exact(az.2 b (aku (akr (ake e) I.ok.above))).trans (I.base.keep b o e n aa ai)
  .obtain⟨cq,aw⟩:=I.base.slot b o e n aa ai
   exact⟨cq,(az.2 b (aku (akr (ake e) I.ok.above))).trans aw⟩
  .obtain⟨c7,aw⟩:=I.base.there b o e ai
   exact⟨c7,(az.2 b (aku (akr (ake e) I.ok.above))).trans aw⟩
  .by_cases aR:j=i
   .subst aR
    rw[aA]at aw;cases aw;rw[aks o7]at aG;cases aG;exact⟨u,r,.inl ⟨aB,by simp⟩⟩
   .rw[akk (alR aR)]at aG
    obtain⟨u',bH,q⟩:=hl j y fg aw aG c3;refine⟨u',bH,?_⟩;rcases q with⟨k,e⟩|⟨k,c,e,z⟩
    .refine .inl ⟨k,?_⟩
     have:y≠x:=λe=>aR (Dm hN aw (e▸aA))
     simp[this,e]
    .exact .inr ⟨k,c,e,z.sameBut az (kQ y c e)⟩
  .obtain⟨eg,z⟩:=I.cell y c e
   exact⟨eg,z.sameBut az (kQ y c e)⟩
  .obtain⟨e,n,ne,mU,d⟩:=I.pin p aL
   exact⟨(az.2 p.1 ne).trans e,n,ne,mU,d⟩
 .have B3:X.fn x=true:=by
   rcases hf with z|z
   .exact z
   .rw[z]at aB;cases aB
  obtain⟨c,hc⟩:=I.ok.has x (.inl aB);obtain⟨eg,z⟩:=I.cell x c hc;refine wpAny_storeName_cell I.ok.kind aB hc z (λh' x8 az=>?_);obtain⟨cw,se,X0⟩:=id z;refine h { s with heap:=h' } ⟨I.ok,I.os,I.bare,⟨λb o e n aa ai=>?_,λb o e n aa ai=>?_,I.base.free,λb o e ai=>?_,I.base.lQ,I.base.ke,I.base.kz⟩,⟨m,aF.sameBut az (alR (kQ x c hc)),λj y fg aw aG c3=>?_⟩,λy c' e=>?_,I.free,I.iN,λp aL=>?_,tracked ⟨cw,se,I.iN x c hc⟩ az,by simpa using I.len⟩ ⟨c,az,.inr hc⟩
  .exact(az.2 b (aku (akr (ake e) (I.ok.rQ x c B3 hc)))).trans (I.base.keep b o e n aa ai)
  .obtain⟨cq,aw⟩:=I.base.slot b o e n aa ai
   exact⟨cq,(az.2 b (aku (akr (ake e) (I.ok.rQ x c B3 hc)))).trans aw⟩
  .obtain⟨c7,aw⟩:=I.base.there b o e ai
   exact⟨c7,(az.2 b (aku (akr (ake e) (I.ok.rQ x c B3 hc)))).trans aw⟩
  .by_cases aR:j=i
   .subst aR
    rw[aA]at aw;cases aw;rw[aks o7]at aG;cases aG;exact⟨u,r,.inr ⟨.inl aB,c,hc,x8⟩⟩
   .rw[akk (alR aR)]at aG
    obtain⟨u',bH,q⟩:=hl j y fg aw aG c3;refine⟨u',bH,?_⟩;rcases q with q|⟨k,c',e,iC⟩
    .exact .inl q
    .refine .inr ⟨k,c',e,iC.sameBut az ?_⟩
     rintro rfl;exact aR (Dm hN aw (I.ok.inj _ _ _ e hc▸aA))
  .by_cases nK:c'=c
   .subst nK;exact⟨_,x8⟩
   .obtain⟨lT,d7⟩:=I.cell y c' e
    exact⟨lT,d7.sameBut az nK⟩
  .obtain⟨e,n,ne,mU,d⟩:=I.pin p aL
   refine⟨(az.2 p.1 ?_).trans e,n,ne,mU,d⟩;intro q;rw[q,se]at e;have g5:cw=p.2:=aky e;exact d eg (by rw[<-g5];exact X0)
def zy{M:Model}{A:akm}{E:b'}{i:Nat}{x:Str}{v:V}{u:Value}{Q:Unit->aj0->Prop}(I:Inv X zn Y H s)(hN:X.N.Nodup)(aA:X.N[i]? = some x)(ai:Loc X.env.scope x)(r:RelV v u)
  (h:∀s',Inv X zn (Y.set i (some v)) H s'->Q () s') (hf:X.fn x=true\/X.env.scope.names.lookup x=some .local:=by first|exact .inl rfl|exact .inr rfl|assumption):wpAny M A (storeName X.env x u) Q E s:=
 NR I hN aA ai r (λs' gb _=>h s' gb) hf
theorem Inv.xv{s':aj0}{ch:List Addr}(I:Inv X zn Y H s)(aT:s'.os=s.os)(u:fA (fY X.stack) ch H H' s.heap s'.heap)(bA:et X.prog X.w H' s'.heap)(a3:amR s'.gens)
  (mA:∀b∈ch,(b∈X.ex\/X.gk.heap.objs.size<=b)/\b≠X.env.locals/\(∀x c,X.env.cells.lookup x=some c->c≠b)/\∀p∈X.h9++zn,p.1≠b):Inv X zn Y H' s':=by
 obtain⟨h',g',d',t',c7⟩:=s';have e:c7=s.os:=aT;subst e;exact I.call (g':=g') (t':=t') (d':=d') u bA a3 mA
end
abbrev eS:=Value->Option Addr->ah->Prop
abbrev St:=List (Option V)
abbrev cD:=V->ah->Prop
abbrev TE:=St->ah->cD->Prop
abbrev TT:=St->ah->(Bool->ah->Prop)->Prop
abbrev fj:=St->ah->(List V->ah->Prop)->Prop
structure Ends where
 bw:St->ah->Prop
 cP:cD
 d4:St->ah->Prop:=λ_ _=>False
 cb:St->ah->Prop:=λ_ _=>False
abbrev fz:=Ends->St->ah->Prop
def gq(X:aJ)(zn:cC)(Y:St)(Q:cD)(u:Value)(s':aj0):Prop:=∃v H',Inv X zn Y H' s'/\RelV v u/\Q v H'
def Ai(X:aJ)(zn:cC)(Y:St)(Q:Bool->ah->Prop)(b:Bool)(s':aj0):Prop:=∃H',Inv X zn Y H' s'/\Q b H'
def OO(X:aJ)(zn:cC)(Y:St)(Q:List V->ah->Prop)(us:List Value)(s':aj0):Prop:=∃vs H',Inv X zn Y H' s'/\Vals vs us/\Q vs H'
def kN(X:aJ)(zn:cC)(D:Ends)(f:Flow)(s':aj0):Prop:=
 match f with
 |.next=>∃Y' H',Inv X zn Y' H' s'/\D.bw Y' H'|.brk=>∃Y' H',Inv X zn Y' H' s'/\D.d4 Y' H'|.cont=>∃Y' H',Inv X zn Y' H' s'/\D.cb Y' H'|.ret u=>∃v Y' H',Inv X zn Y' H' s'/\RelV v u/\D.cP v H'
def bM(X:aJ)(e:Expr)(t:TE):Prop:=
 ∀(zn:cC)(s:aj0)(Y:St)(H:ah)(Q:cD),Inv X zn Y H s->t Y H Q->wpAny (model X.prog X.w) X.A (eval e X.env) (gq X zn Y Q) X.cL s
def hX(X:aJ)(e:Expr)(t:TT):Prop:=
 ∀(zn:cC)(s:aj0)(Y:St)(H:ah)(Q:Bool->ah->Prop),Inv X zn Y H s->t Y H Q->wpAny (model X.prog X.w) X.A (isTrue e X.env (eval e X.env)) (Ai X zn Y Q) X.cL s
def j7(X:aJ)(e:Expr)(t:TT):Prop:=
 ∀(whole:Sem Value)(zn:cC)(s:aj0)(Y:St)(H:ah)(Q:Bool->ah->Prop),Inv X zn Y H s->t Y H Q->wpAny (model X.prog X.w) X.A (isTrue e X.env whole) (Ai X zn Y Q) X.cL s
def j7.pt{t:TT}(h:j7 X e t):hX X e t:=h _
def gd(X:aJ)(ay:List Expr)(t:fj):Prop:=
 ∀(pos:Pos)(zn:cC)(s:aj0)(Y:St)(H:ah)(Q:List V->ah->Prop),Inv X zn Y H s->t Y H Q->wpAny (model X.prog X.w) X.A (spliced (ako pos (ajY ay X.env))) (OO X zn Y Q) X.cL s
def hH(X:aJ)(st:Stmt)(t:fz):Prop:=
 ∀(zn:cC)(s:aj0)(Y:St)(H:ah)(D:Ends),Inv X zn Y H s->t D Y H->wpAny (model X.prog X.w) X.A (exec st X.env) (kN X zn D) X.cL s
def gP(X:aJ)(st:List Stmt)(t:fz):Prop:=
 ∀(zn:cC)(s:aj0)(Y:St)(H:ah)(D:Ends),Inv X zn Y H s->t D Y H->wpAny (model X.prog X.w) X.A (execs st X.env) (kN X zn D) X.cL s
def bN{α:Type}{t:Sem α}{Q fM:α->aj0->Prop}{M:Model}{A:akm}{E:b'}{s:aj0}(h:wpAny M A t Q E s)(iQ:∀a s,Q a s->fM a s):wpAny M A t fM E s:=akB h iQ λ_ _ x=>x
section
variable{X:aJ}
def aeW(i:Nat):TE:=λY H Q=>∃v,Y[i]? = some (some v)/\Q v H
def m5(v:V):TE:=λ_ H Q=>Q v H
def pI(hN:X.N[i]? = some x)(bu:j9 X.env.scope x)(hd:(x==("__debug__":Str))=false:=by decide)(ew:(x==("__classdict__":Str))=false:=by decide):bM X (.Name x pos) (aeW i):=by
 intro zn s Y H Q I h;obtain⟨v,e,h⟩:=h;obtain⟨m,aF,hl⟩:=I.loc;obtain⟨u,r,l⟩:=hl i x v hN e bu;have fin:gq X zn Y Q u s:=⟨v,H,I,r,h⟩;rcases l with⟨aB,hm⟩|⟨aB,c,hc,I5⟩
 .exact wpAny_Name (wpAny_loadName_local I.ok.kind aB aF hm fin) hd
 .rcases aB with aB|aB
  .exact wpAny_Name (wpAny_loadName_cell I.ok.kind aB hc I5 fin) hd
  .exact wpAny_Name (wpAny_loadName_free I.ok.kind aB hc I5 fin ew) hd
def abr{i j pos}:bM X (.Constant (.int i) j pos) (m5 (.int i)):=λ_ _ _ H _ I h=>wpAny_Constant_int ⟨.int i,H,I.tok _,⟨_,rfl⟩,h⟩
def abf{b j pos}:bM X (.Constant (.bool b) j pos) (m5 (.au b)):=λ_ _ _ H _ I h=>Constant_bool ⟨.au b,H,I,rfl,h⟩
def abx{j pos}:bM X (.Constant .none j pos) (m5 .aN):=λ_ _ _ H _ I h=>Constant_none ⟨.aN,H,I,rfl,h⟩
def abz{x j pos}:bM X (.Constant (.str x) j pos) (m5 (.str x)):=λ_ _ _ H _ I h=>Calls.Constant_str ⟨.str x,H,I.tok _,⟨_,rfl⟩,h⟩
def dD(X:aJ)(x:Str):Prop:=X.env.kindOf x=some .globalImplicit
def mM{E:b'}{zn:cC}{s:aj0}{Y:St}{H:ah}{x:Str}{u:Value}{pos:Pos}{Q:b'}(I:Inv X zn Y H s)(a3:dD X x)(hm:X.mg x=some u)(h:Q u s)
  (hd:(x==("__debug__":Str))=false:=by decide):wpAny (model X.prog X.w) X.A (eval (.Name x pos) X.env) Q E s:=
 an7 I.ok.kind a3 (Calls.loadGlobal_global (by rw[I.ok.glob];exact I.mod.glob.keeps I.d4) hm h) hd
def qB{E:b'}{zn:cC}{s:aj0}{Y:St}{H:ah}{x:Str}{u:Value}{pos:Pos}{Q:b'}(I:Inv X zn Y H s)(a3:dD X x)(hm:X.mg x=none)(bu:akJ x=some u)(h:Q u s)
  (aF:x≠"__name__":=by decide) (hd:(x==("__debug__":Str))=false:=by decide):wpAny (model X.prog X.w) X.A (eval (.Name x pos) X.env) Q E s:=by
 obtain⟨cE,ae,ag⟩:=I.mod.blt;exact an7 I.ok.kind a3 (Calls.loadGlobal_builtin (by rw[I.ok.glob];exact I.mod.glob.keeps I.d4) hm (by rw[I.ok.blt];exact ae.keeps I.d4) ((ag x aF).trans bu) h) hd
def Lw{v:V}(a3:dD X x)(hm:X.mg x=some u)(r:RelV v u)(hd:(x==("__debug__":Str))=false:=by decide):bM X (.Name x pos) (m5 v):=
 λ_ _ _ H _ I h=>mM I a3 hm ⟨v,H,I,r,h⟩ hd
def sU{v:V}(a3:dD X x)(hm:X.mg x=none)(bu:akJ x=some u)(r:RelV v u)(aF:x≠"__name__":=by decide)(hd:(x==("__debug__":Str))=false:=by decide):bM X (.Name x pos) (m5 v):=
 λ_ _ _ H _ I h=>qB I a3 hm bu ⟨v,H,I,r,h⟩ aF hd
variable{a b:Expr}{bR cS:TE}{pos:Pos}
def O'(X:aJ)(op:CmpOp)(a b:Expr)(t:TE):Prop:=
 ∀(zn:cC)(s:aj0)(Y:St)(H:ah)(Q:cD),Inv X zn Y H s->t Y H Q->
  wpAny (model X.prog X.w) X.A (eval a X.env) (λv c_=>wpAny (model X.prog X.w) X.A (eval b X.env) (λu lO=>wpAny (model X.prog X.w) X.A (akG op v u) (gq X zn Y Q) X.cL lO) X.cL c_) X.cL s
def aat(b:Expr)(h:op≠.In)(ag:op≠.NotIn):alT op b=false:=by
 have aw:(op==CmpOp.In)=false:=by cases op<;>first|rfl|exact absurd rfl h
 have aG:(op==CmpOp.NotIn)=false:=by cases op<;>first|rfl|exact absurd rfl ag
 cases b<;>simp[alT,aw,aG]
def NW(t:TE):TT:=λY H Q=>t Y H λx H1=>∃c,x=.au c/\Q c H1
def ajH{t:TE}(h:O' X op a b t)(ae:alT op b=false:=by first|exact aat _ (by decide) (by decide)|rfl):hX X (.Compare a [op] [b] pos) (NW t):=by
 intro zn s Y H Q I hw;refine wpAny_isTrue_Compare1 (bN (h zn s Y H _ I hw) λv s1 ae=>bN ae λu s2 ag=>bN ag λc s3 ⟨x,H1,aV,bF,bp⟩=>?_) ae;obtain⟨d,rfl,q⟩:=bp;cases bF;exact alg ⟨H1,aV,q⟩
def LM{e:Expr}{t:TE}(h:bM X e t)(he:∀whole,isTrue e X.env whole=(do let v <-whole;amc e.pos;alS [v] (truthy v)):=by intro _;rfl):hX X e (NW t):=by
 intro zn s Y H Q I hw;refine isTrue_plain (bN (h zn s Y H _ I hw) λv s1 ⟨x,H1,aV,bF,bp⟩=>?_) (he _);obtain⟨d,rfl,q⟩:=bp;cases bF;exact alg ⟨H1,aV,q⟩
variable{m4 zB:TT}{rest:List Expr}
def aer(t u:TT):TT:=λY H Q=>t Y H λc H1=>if c=true then u Y H1 Q else Q false H1
def aeN(t u:TT):TT:=λY H Q=>t Y H λc H1=>if c=true then Q true H1 else u Y H1 Q
def aeL(t:TT):TT:=λY H Q=>t Y H λc H1=>Q (!c) H1
def abZ(ao:hX X a m4):j7 X (.BoolOp .And [a] pos) m4:=by
 intro rf zn s Y H Q I h;refine isTrue_and (bN (ao zn s Y H Q I h) λc s1 e=>?_)
 cases c with
 |true=>exact isTrue_and_nil e|false=>exact e
def LQ(ao:hX X a m4):j7 X (.BoolOp .Or [a] pos) m4:=by
 intro rf zn s Y H Q I h;refine isTrue_or (bN (ao zn s Y H Q I h) λc s1 e=>?_)
 cases c with
 |false=>exact isTrue_or_nil e|true=>exact e
def abY(ao:hX X a m4)(aa:j7 X (.BoolOp .And (b::rest) pos) zB):j7 X (.BoolOp .And (a::b::rest) pos) (aer m4 zB):=by
 intro rf zn s Y H Q I h;refine isTrue_and (bN (ao zn s Y H _ I h) λc s1 aO=>?_);obtain⟨H1,aV,bp⟩:=aO
 cases c with
 |true=>exact aa rf zn s1 Y H1 Q aV bp|false=>exact⟨H1,aV,bp⟩
def LP(ao:hX X a m4)(aa:j7 X (.BoolOp .Or (b::rest) pos) zB):j7 X (.BoolOp .Or (a::b::rest) pos) (aeN m4 zB):=by
 intro rf zn s Y H Q I h;refine isTrue_or (bN (ao zn s Y H _ I h) λc s1 aO=>?_);obtain⟨H1,aV,bp⟩:=aO
 cases c with
 |true=>exact⟨H1,aV,bp⟩|false=>exact aa rf zn s1 Y H1 Q aV bp
def LL(ao:hX X a m4):hX X (.UnaryOp .Not a pos) (aeL m4):=by
 intro zn s Y H Q I h;exact isTrue_not (ao zn s Y H (λc H1=>Q (!c) H1) I h)
def aes(bR cS:TE):TE:=λY H Q=>bR Y H λx H1=>∃c,x=.au c/\if c=true then cS Y H1 Q else Q (.au false) H1
def aeM(bR:TE):TE:=λY H Q=>bR Y H λx H1=>∃c,x=.au c/\Q (.au (!c)) H1
def LA{op}{t:TE}(h:bM X a t):bM X (.BoolOp op [a] pos) t:=λzn s Y H Q I hw=>BoolOp_one (h zn s Y H Q I hw)
def Lr(ao:bM X a bR)(aa:bM X (.BoolOp .And (b::rest) pos) cS):bM X (.BoolOp .And (a::b::rest) pos) (aes bR cS):=by
 intro zn s Y H Q I h;refine BoolOp_and (bN (ao zn s Y H _ I h) λv s1 aO=>?_);obtain⟨x,H1,aV,bF,bp⟩:=aO;obtain⟨c,rfl,bp⟩:=bp;cases bF;refine alg ?_
 cases c with
 |true=>exact aa zn s1 Y H1 Q aV bp|false=>exact⟨.au false,H1,aV,rfl,bp⟩
def aby(ao:bM X a bR):bM X (.UnaryOp .Not a pos) (aeM bR):=by
 intro zn s Y H Q I h;refine UnaryOp_ (bN (ao zn s Y H _ I h) λv s1 aO=>?_);obtain⟨x,H1,aV,bF,bp⟩:=aO;obtain⟨c,rfl,bp⟩:=bp;cases bF;exact not_of (alg ⟨.au (!c),H1,aV,rfl,bp⟩)
end
def du(K:aM)(H:ah)(a:Addr)(xs:List V):Prop:=
 fi H a (.lst xs)\/
  ∃(o:Obj)(its:Array Value)(n:Nat),K.lookup a=some o/\o.cls=.type "list"/\o.dict=none/\o.data=.seq its n/\its.size<=aj6/\Vals xs its.toList
def dj(K:aM)(H:ah)(a:Addr)(xs:List V):Prop:=
 fi H a (.tup xs)\/
  ∃(o:Obj)(its:Array Value)(n:Nat),K.lookup a=some o/\o.cls=.type "tuple"/\o.data=.seq its n/\its.size<=aj6/\Vals xs its.toList
def Po:Value->Option V
 |.none=>some .aN|.bool b=>some (.au b)|.int i _=>some (.int i)|.str x _=>some (.str x)|.bytes b _=>some (.xo b)|.float b _=>some (.xN b)|.ref a=>some (.ref a)|.type n=>some (.ty n)|_=>none
def RelV.abs(r:RelV x u):Po u=some x:=by
 cases x with
 |aN=>cases r;rfl
 |au _=>cases r;rfl
 |int _=>obtain⟨t,rfl⟩:=r;rfl
 |str _=>obtain⟨t,rfl⟩:=r;rfl
 |xo _=>obtain⟨t,rfl⟩:=r;rfl
 |xN _=>obtain⟨t,rfl⟩:=r;rfl
 |ref _=>cases r;rfl
 |ty _=>cases r;rfl
def RelV.inj(r:RelV x u)(q:RelV y u):x=y:=aky (r.abs.symm.trans q.abs)
theorem Vals.inj:∀{xs ys:List V}{us:List Value},Vals xs us->Vals ys us->xs=ys
 |_,_,_,.nil,.nil=>rfl| _,_,_,.cons r t,.cons bH t'=>by rw[r.inj bH,Vals.inj t t']
section
variable{X:aJ}{zn:cC}{Y:St}{H:ah}{s:aj0}{a:Addr}{xs ys:List V}
def du.of{K:aM}(h:H a=some (.lst xs)):du K H a xs:=.inl (.inl h)
def dj.of{K:aM}(h:H a=some (.tup xs)):dj K H a xs:=.inl (.inl h)
def Inv.list(I:Inv X zn Y H s)(h:du X.K H a xs):∃its:List Value,Vals xs its/\PlainL s.heap a its.toArray/\xs.length<=aj6:=by
 rcases h with h|⟨o,its,n,aB,hc,hd,az,hz,r⟩
 .obtain⟨z,its,n,r,e⟩:=h.ok I.bA
  exact⟨its,r,⟨_,n,e,rfl,rfl,rfl⟩,z⟩
 .refine⟨its.toList,r,⟨o,n,I.dW a o aB,hc,hd,by simpa using az⟩,?_⟩
  have e:=r.length;simp only[akN]at e;omega
def Inv.tuple(I:Inv X zn Y H s)(h:dj X.K H a xs):∃its:List Value,Vals xs its/\IsTup s.heap a its.toArray/\xs.length<=aj6:=by
 rcases h with h|⟨o,its,n,aB,hc,az,hz,r⟩
 .obtain⟨z,its,r,p⟩:=h.ok I.bA
  exact⟨its,r,p,z⟩
 .refine⟨its.toList,r,⟨o,I.dW a o aB,hc,n,by simpa using az⟩,?_⟩
  have e:=r.length;simp only[akN]at e;omega
def Inv.Kf(I:Inv X zn Y H s)(h:du X.K H a xs)(h':du X.K H a ys):xs=ys:=by
 obtain⟨its,r,⟨o,n,e,_,_,d⟩,_⟩:=I.list h;obtain⟨its',bH,⟨c7,jo,bZ,_,_,d'⟩,_⟩:=I.list h';rw[e]at bZ;cases bZ;rw[d]at d';injection d' with kR _
 have:its=its':=by simpa using congrArg Array.toList kR
 subst this;exact r.inj bH
def Inv.N'(I:Inv X zn Y H s)(h:dj X.K H a xs)(h':dj X.K H a ys):xs=ys:=by
 obtain⟨its,r,⟨o,e,_,n,d⟩,_⟩:=I.tuple h;obtain⟨its',bH,⟨c7,bZ,_,jo,d'⟩,_⟩:=I.tuple h';rw[e]at bZ;cases bZ;rw[d]at d';injection d' with kR _
 have:its=its':=by simpa using congrArg Array.toList kR
 subst this;exact r.inj bH
end
abbrev aJ.lW(X:aJ)(E:b'):aJ:={ X with cL:=E }
abbrev aJ.fZ(X:aJ):aJ:=X.lW λ_ _=>False
def aJ.Ok.lW{X:aJ}(ok:X.Ok)(E:b'):(X.lW E).Ok:=
 ⟨ok.mod,ok.kind,ok.glob,ok.blt,ok.above,ok.inj,ok.has,ok.rQ,ok.hd,ok.frames,ok.wh,ok.uk,ok.bs,ok.kb,ok.sG,ok.r1,ok.jf,ok.nE⟩
def aJ.Ok.oe{X:aJ}(ok:(X.lW E).Ok):X.Ok:=
 ⟨ok.mod,ok.kind,ok.glob,ok.blt,ok.above,ok.inj,ok.has,ok.rQ,ok.hd,ok.frames,ok.wh,ok.uk,ok.bs,ok.kb,ok.sG,ok.r1,ok.jf,ok.nE⟩
section
variable{X:aJ}{zn:cC}{Y:St}{H:ah}{s:aj0}{E:b'}
def Inv.lW(I:Inv X zn Y H s)(E:b'):Inv (X.lW E) zn Y H s:=⟨I.ok.lW E,I.os,I.bare,I.base,I.loc,I.cell,I.free,I.iN,I.pin,I.bA,I.len⟩
def Inv.oe(I:Inv (X.lW E) zn Y H s):Inv X zn Y H s:=⟨I.ok.oe,I.os,I.bare,I.base,I.loc,I.cell,I.free,I.iN,I.pin,I.bA,I.len⟩
def kN.oe{D:Ends}(h:kN (X.lW E) zn D f s'):kN X zn D f s':=by
 cases f with
 |next=>obtain⟨Y',H',I,q⟩:=h;exact⟨Y',H',I.oe,q⟩
 |brk=>obtain⟨Y',H',I,q⟩:=h;exact⟨Y',H',I.oe,q⟩
 |cont=>obtain⟨Y',H',I,q⟩:=h;exact⟨Y',H',I.oe,q⟩
 |ret u=>obtain⟨v,Y',H',I,r,q⟩:=h;exact⟨v,Y',H',I.oe,r,q⟩
theorem bM.fZ{t:TE}(h:bM X.fZ e t):bM X e t:=λzn s Y H Q I hw=>
 akB (h zn s Y H Q (I.lW _) hw) (λ_ _ ⟨v,H',gb,r,q⟩=>⟨v,H',gb.oe,r,q⟩) λ_ _ z=>akv z
theorem gP.fZ{st:List Stmt}{t:fz}(h:gP X.fZ st t):gP X st t:=λzn s Y H D I hw=>
 akB (h zn s Y H D (I.lW _) hw) (λ_ _ q=>q.oe) λ_ _ z=>akv z
end
section
variable{X:aJ}{st:Stmt}{rest:List Stmt}{t u:fz}{e:Expr}{te:TE}{pos:Pos}
def aeJ:fz:=λD Y H=>D.bw Y H
def aeQ(t u:fz):fz:=λD Y H=>t { D with bw:=u D } Y H
def D0:gP X [] aeJ:=λ_ _ Y H _ I h=>aoR ⟨Y,H,I,h⟩
def vW(ae:hH X st t)(ag:gP X rest u):gP X (st::rest) (aeQ t u):=by
 intro zn s Y H D I h;refine aoz (bN (ae zn s Y H { D with bw:=u D } I h) λf s1 q=>?_)
 cases f with
 |next=>
  obtain⟨Y',H',gb,q⟩:=q;exact ag zn s1 Y' H' D gb q
 |ret v=>exact q|brk=>exact q|cont=>exact q
def D1(ae:hH X st t):gP X [st] t:=by
 intro zn s Y H D I h;refine aoz (bN (ae zn s Y H D I h) λf s1 q=>?_)
 cases f with
 |next=>exact aoR q
 |ret v=>exact q|brk=>exact q|cont=>exact q
def Inv.quiet{H:ah}(I:Inv X zn Y H s):interactive X.env=false:=by simp[interactive,I.ok.kind]
def aez(te:TE):fz:=λD Y H=>te Y H λ_ H1=>D.bw Y H1
def DW(he:bM X e te)(az:ak6 e none pos.line X.env=pure false:=by rfl):hH X (.Expr e pos) (aez te):=by
 intro zn s Y H D I h;exact wpAny_Expr_any (bN (he zn s Y H _ I h) λv s1 ⟨x,H1,aV,bF,bp⟩=>⟨Y,H1,aV,bp⟩) I.quiet az
def aeP(te:TE):fz:=λD Y H=>te Y H D.cP
def DZ(he:bM X e te):hH X (.Return (some e) pos) (aeP te):=by
 intro zn s Y H D I h;exact wpAny_Return_some (bN (he zn s Y H _ I h) λv s1 ⟨x,H1,aV,bF,bp⟩=>⟨x,Y,H1,aV,bF,bp⟩)
def aeB(c:TT)(t u:fz):fz:=λD Y H=>c Y H λb H1=>if b=true then t D Y H1 else u D Y H1
def DY(hc:hX X c pQ)(ao:gP X a t)(aa:gP X b u):hH X (.If c a b pos) (aeB pQ t u):=by
 intro zn s Y H D I h;refine wpAny_If (bN (hc zn s Y H _ I h) λd s1 aO=>?_);obtain⟨H1,aV,bp⟩:=aO
 cases d with
 |true=>exact ao zn s1 Y H1 D aV bp|false=>exact aa zn s1 Y H1 D aV bp
def aeI:fz:=λ_ _ _=>False
def abT:hH X st aeI:=λ_ _ _ _ _ _ h=>h.elim
end
abbrev ij:=V->St->ah->(St->ah->Prop)->Prop
abbrev oK:=List V->St->ah->(St->ah->Prop)->Prop
def oG(X:aJ)(target:Expr)(t:ij):Prop:=
 ∀(zn:cC)(s:aj0)(Y:St)(H:ah)(v:V)(u:Value)(Q:St->ah->Prop),Inv X zn Y H s->RelV v u->t v Y H Q->
  wpAny (model X.prog X.w) X.A (amO target X.env u) (λ_ s'=>∃Y' H',Inv X zn Y' H' s'/\Q Y' H') X.cL s
def mc(X:aJ)(fv:List Expr)(t:oK):Prop:=
 ∀(zn:cC)(s:aj0)(Y:St)(H:ah)(vs:List V)(us:List Value)(Q:St->ah->Prop),Inv X zn Y H s->Vals vs us->t vs Y H Q->
  wpAny (model X.prog X.w) X.A (assignInOrder ((akI fv X.env).map (·.2)) us) (λ_ s'=>∃Y' H',Inv X zn Y' H' s'/\Q Y' H') X.cL s
section
variable{X:aJ}{pos:Pos}
def kf(i:Nat):ij:=λv Y H Q=>Q (Y.set i (some v)) H
def vT(hN:X.N.Nodup)(aA:X.N[i]? = some x)(ai:Loc X.env.scope x)(hf:X.fn x=true\/X.env.scope.names.lookup x=some .local:=by first|exact .inl rfl|exact .inr rfl|assumption):oG X (.Name x pos) (kf i):=by
 intro zn s Y H v u Q I r h;exact wpAny_assign_Name (zy I hN aA ai r (λs' gb=>⟨_,H,gb,h⟩) hf)
def Im:oK:=λvs Y H Q=>vs=[]/\Q Y H
def Il(t:ij)(u:oK):oK:=λvs Y H Q=>∃v r,vs=v::r/\t v Y H λY' H'=>u r Y' H' Q
def abH:mc X [] Im:=by
 intro zn s Y H vs us Q I r h;obtain⟨e,h⟩:=h;subst e;cases r;exact assignInOrder_nil ⟨Y,H,I,h⟩
def abG{e:Expr}{ay:List Expr}{t:ij}{u:oK}(ae:oG X e t)(ag:mc X ay u)
  (az:(akI (e::ay) X.env).map (·.2)=amO e X.env::(akI ay X.env).map (·.2):=by rfl):mc X (e::ay) (Il t u):=by
 intro zn s Y H vs us Q I r h;obtain⟨v,EJ,aw,h⟩:=h;subst aw
 cases r with
 |cons r ba=>
  rw[az];refine assignInOrder_cons (bN (ae zn s Y H _ _ _ I r h) λ_ s1 aO=>?_);obtain⟨gM,H1,aV,bp⟩:=aO;exact ag zn s1 gM H1 _ _ Q aV ba bp
def xV(K:aM)(n:Nat)(t:oK):ij:=λv Y H Q=>∃a xs,v=.ref a/\dj K H a xs/\xs.length=n/\t xs Y H Q
def DT{ay:List Expr}{k:Nat}{t:oK}{n:Nat}(hc:X.calm=true)(h:mc X ay t)
  (aF:(akI ay X.env).length=n:=by rfl) (eB:(akI ay X.env).findIdx? (·.1)=none:=by rfl):oG X (.Tuple ay k pos) (xV X.K n t):=by
 intro zn s Y H v u Q I r hw;obtain⟨a,xs,aw,a6,hl,hw⟩:=hw;subst aw;cases r;obtain⟨its,bG,bC,hz⟩:=I.tuple a6;refine assign_Tuple_tuple (I.ok.hd hc) bC (by simp[aF,<-hl,bG.length]) eB λh' ai=>?_
 have aV:Inv X zn Y H { s with heap:=h' }:=I.kept (t':=s.toks) λb o e=>ai b o (aku (ake e)) e
 exact h zn _ Y H xs _ Q aV (by simpa using bG) hw
def tc(te:TE)(g:ij):fz:=λD Y H=>te Y H λx H1=>g x Y H1 D.bw
def abQ{b7 e:Expr}{te:TE}{g:ij}(he:bM X e te)(a3:oG X b7 g)(az:swapsWithSole [b7] e pos.line X.env=pure false:=by rfl)(hw:swappedStores [b7] e X.env=pure none:=by rfl)
  (ae:(akI [b7] X.env).map (·.2)=[amO b7 X.env]:=by rfl):hH X (.Assign [b7] e pos) (tc te g):=by
 intro zn s Y H D I h;refine wpAny_Assign_stores (bN (he zn s Y H _ I h) λv s1 ⟨x,H1,aV,bF,bp⟩=>?_) az hw;rw[ae];exact bN (a3 zn s1 Y H1 x v _ aV bF bp) λ_ s2 q=>q
def vV(hN:X.N.Nodup)(aA:X.N[i]? = some x)(ai:Loc X.env.scope x)(he:bM X e te)(az:ak6 e (some (.Name x pos')) pos.line X.env=pure false:=by rfl)(hf:X.fn x=true\/X.env.scope.names.lookup x=some .local:=by first|exact .inl rfl|exact .inr rfl|assumption) :
  hH X (.Assign [.Name x pos'] e pos) (tc te (kf i)):=by
 intro zn s Y H D I h;refine wpAny_Assign_Name (bN (he zn s Y H _ I h) λv s1 ⟨y,H1,aV,bF,bp⟩=>?_) az;exact zy aV hN aA ai bF (λs2 bS=>⟨_,H1,bS,bp⟩) hf
end
structure hG where
 go:Nat->ah->Prop
 oo:Nat->ah->V->ah->Prop
 stop:Nat->ah->Prop
def gr(X:aJ)(zn:cC)(H:ah)(b:Addr):Prop:=
 H b=none/\b≠X.env.locals/\b∉X.fs/\(b∈X.ex\/X.gk.heap.objs.size<=b)/\(∀x c,X.env.cells.lookup x=some c->c≠b)/\∀p∈X.h9++zn,p.1≠b
def Inv.qe{H H':ah}{s:aj0}(I:Inv X zn Y H s)(aa:s.heap.objs.size<=b)(aF:H' b=none):gr X zn H' b:=by
 refine⟨aF,aoA (akr I.lt aa),I.aaw aa,.inr (akS I.zz aa),λx c e z=>?_,λp aL z=>?_⟩
 .obtain⟨v,q⟩:=I.cell x c e
  exact absurd (akr q.lt (by rw[z];exact aa)) (akM _)
 .exact absurd (akr (ake (I.pin p aL).1) (by rw[z];exact aa)) (akM _)
structure Turn(P:aki)(w:World)(K:aM)(b7:Expr)(bJ:hG)(aY:List Addr)(it:Addr)(eQ:Nat->Heap->Prop):Prop where
 mem:it∈aY
 obj:∀i h,eQ i h->∀b∈aY,∃o,h.get? b=some o/\∀v,o.data≠.cell v
 keep:∀i h h',eQ i h->(∀b∈aY,∀o,h.get? b=some o->h'.get? b=some o)->eQ i h'
 item:∀(X:aJ),X.prog=P->X.w=w->X.K=K->X.calm=true->∀(i:Nat)(zn:cC)(s:aj0)(Y:St)(H:ah)(E:b'),Inv X zn Y H s->(∀b∈aY,gr X zn H b)->eQ i s.heap->bJ.go i H->
  wpAny (model P w) X.A (am0 (.ref it)) (λr s1=>∃u,r=some u/\
   wpAny (model P w) X.A (anC b7 (.ref it) u) (λ_ s2=>∃x H',Inv X zn Y H' s2/\RelV x u/\bJ.oo i H x H'/\eQ (i+1) s2.heap/\∀b∈aY,H' b=none) E s1) E s
 done:∀(X:aJ),X.prog=P->X.w=w->X.K=K->X.calm=true->∀(i:Nat)(zn:cC)(s:aj0)(Y:St)(H:ah)(E:b'),Inv X zn Y H s->(∀b∈aY,gr X zn H b)->eQ i s.heap->bJ.stop i H->
  wpAny (model P w) X.A (am0 (.ref it)) (λr s1=>r=none/\Inv X zn Y H s1) E s
 self:∀(A:akm)(i:Nat)(s:aj0)(Q:b')(E:b'),eQ i s.heap->Q (.ref it) s->wpAny (model P w) A (pyIter (.ref it)) Q E s
abbrev TI:=St->ah->(hG->ah->Prop)->Prop
def FA(X:aJ)(zn:cC)(Y:St)(b7:Expr)(R:hG->ah->Prop)(yv:Value)(s2:aj0):Prop:=
 ∃(it:Addr)(aY:List Addr)(eQ:Nat->Heap->Prop)(bJ:hG)(H':ah),yv=.ref it/\Inv X zn Y H' s2/\Turn X.prog X.w X.K b7 bJ aY it eQ/\eQ 0 s2.heap/\(∀b∈aY,gr X zn H' b)/\R bJ H'
def jC(X:aJ)(b7 iter:Expr)(wi:TI):Prop:=
 ∀(zn:cC)(s:aj0)(Y:St)(H:ah)(R:hG->ah->Prop),Inv X zn Y H s->wi Y H R->
  wpAny (model X.prog X.w) X.A (eval iter X.env) (λv s1=>wpAny (model X.prog X.w) X.A (pyIter v) (FA X zn Y b7 R) X.cL s1) X.cL s
def uB{M:Model}{A:akm}{E:b'}{s:aj0}{b7:Expr}{it:Addr}{u:Value}{o:Obj}{n:String}{vs:Array Value}{Q:Unit->aj0->Prop}(aT:s.heap.get? it=some o)(hc:o.cls=.type n)(hd:o.data=.fields vs)
    (aF:["enumerate","zip","dict_itemiterator","dict_reverseitemiterator","odict_iterator","itertools.zip_longest","itertools.pairwise"].contains n=false) (iQ:Q () s):wpAny M A (anC b7 (.ref it) u) Q E s:=by
  unfold anC;cases b7<;>first
    |exact aj4 iQ
    |(cases u<;>first
        |exact aj4 iQ
        | (refine ajX (wpAny_load aT ?_)
           rw[hc,hd];show wpAny M A (if(["enumerate","zip","dict_itemiterator","dict_reverseitemiterator","odict_iterator","itertools.zip_longest","itertools.pairwise"].contains n&&vs[0]? == some (alo _))=true then _ else _) Q E s;rw[if_neg (by intro h;rw[aF,Bool.false_and]at h;cases h)];exact aj4 iQ))
def l8(K:aM)(a:Addr):hG:=
 ⟨λi H=>∃xs x,du K H a xs/\xs[i]? = some x,λi H x H'=>H'=H/\∀xs,du K H a xs->xs[i]? = some x,λi H=>∃xs,du K H a xs/\xs.length<=i⟩
def rx(K:aM)(a:Addr):hG:=
 ⟨λi H=>∃xs x,dj K H a xs/\xs[i]? = some x,λi H x H'=>H'=H/\∀xs,dj K H a xs->xs[i]? = some x,λi H=>∃xs,dj K H a xs/\xs.length<=i⟩
def ru(lo:Int)(n:Nat):hG:=⟨λi _=>i<n,λi H x H'=>H'=H/\x=.int (lo+i),λi _=>n<=i⟩
def afr{P:aki}{w:World}{K:aM}{b7:Expr}(a it:Addr):Turn P w K b7 (l8 K a) [it] it (λi h=>h.IsListIter it a i) where
 mem:=by simp
 obj:=λi h st b aa=>by
  have e:b=it:=by simpa using aa
  subst e;obtain⟨o,e,c,d⟩:=st;exact⟨o,e,λv z=>by rw[d]at z;cases z⟩
 keep:=λi h h' st k=>st.at λo e=>k it (by simp) o e
 item:=by
  intro X d1 hw gU hc i zn s Y H E I hf st a3;subst d1 hw gU;obtain⟨xs,x,a6,ai⟩:=a3;obtain⟨its,bG,p,hz⟩:=I.list a6;obtain⟨u,cp,ed⟩:=bG.get ai;obtain⟨f0,f1,f2,fX,f4,gi⟩:=hf it (by simp);refine wpAny_pyNext_list_item st p.isList (x:=u) (by simpa using cp) λh' bW jU=>?_
  have aV:Inv X zn Y H { s with heap:=h' }:=I.turned (t':=s.toks) (λb o aa e=>(jU.2 b aa).trans e) f0 f1 fX f4 gi;obtain⟨o,e,c,d⟩:=id bW;exact⟨u,rfl,uB (s:={ s with heap:=h' }) e c d (by decide) ⟨x,H,aV,ed,⟨rfl,λys a'=>by rw[I.Kf a' a6];exact ai⟩,bW,λb aa=>(hf b aa).1⟩⟩
 done:=by
  intro X d1 hw gU hc i zn s Y H E I hf st a3;subst d1 hw gU;obtain⟨xs,a6,ai⟩:=a3;obtain⟨its,bG,p,hz⟩:=I.list a6;obtain⟨f0,f1,f2,fX,f4,gi⟩:=hf it (by simp);have hl:=bG.length;exact wpAny_pyNext_list_end (I.ok.hd hc) st p.isList (by simp;omega) λh' dh=>⟨rfl,I.turned (t':=s.toks) (λb o aa e=>dh b o aa e) f0 f1 fX f4 gi⟩
 self:=λ_ _ _ _ _ st h=>wpAny_pyIter_listiter st h
def aft{P:aki}{w:World}{K:aM}{b7:Expr}(a it:Addr):Turn P w K b7 (rx K a) [it] it (λi h=>h.IsTupleIter it a i) where
 mem:=by simp
 obj:=λi h st b aa=>by
  have e:b=it:=by simpa using aa
  subst e;obtain⟨o,e,c,d⟩:=st;exact⟨o,e,λv z=>by rw[d]at z;cases z⟩
 keep:=λi h h' st k=>st.at λo e=>k it (by simp) o e
 item:=by
  intro X d1 hw gU hc i zn s Y H E I hf st a3;subst d1 hw gU;obtain⟨xs,x,a6,ai⟩:=a3;obtain⟨its,bG,p,hz⟩:=I.tuple a6;obtain⟨u,cp,ed⟩:=bG.get ai;obtain⟨f0,f1,f2,fX,f4,gi⟩:=hf it (by simp);refine wpAny_pyNext_tuple_item st (show s.heap.IsTuple a its.toArray from p) (x:=u) (by simpa using cp) λh' bW jU=>?_
  have aV:Inv X zn Y H { s with heap:=h' }:=I.turned (t':=s.toks) (λb o aa e=>(jU.2 b aa).trans e) f0 f1 fX f4 gi;obtain⟨o,e,c,d⟩:=id bW;exact⟨u,rfl,uB (s:={ s with heap:=h' }) e c d (by decide) ⟨x,H,aV,ed,⟨rfl,λys a'=>by rw[I.N' a' a6];exact ai⟩,bW,λb aa=>(hf b aa).1⟩⟩
 done:=by
  intro X d1 hw gU hc i zn s Y H E I hf st a3;subst d1 hw gU;obtain⟨xs,a6,ai⟩:=a3;obtain⟨its,bG,p,hz⟩:=I.tuple a6;obtain⟨f0,f1,f2,fX,f4,gi⟩:=hf it (by simp);have hl:=bG.length;exact wpAny_pyNext_tuple_end (I.ok.hd hc) st (show s.heap.IsTuple a its.toArray from p) (by simp;omega) λh' dh=>⟨rfl,I.turned (t':=s.toks) (λb o aa e=>dh b o aa e) f0 f1 fX f4 gi⟩
 self:=λ_ _ _ _ _ st h=>wpAny_pyIter_tupleiter st h
def afs{P:aki}{w:World}{K:aM}{b7:Expr}(it:Addr)(lo:Int)(n:Nat):Turn P w K b7 (ru lo n) [it] it (λi h=>IsRangeIter h it (lo+(i:Nat)*1) ((n:Int)-(i:Nat)) 1) where
 mem:=by simp
 obj:=λi h st b aa=>by
  have e:b=it:=by simpa using aa
  subst e;exact⟨_,st,λv z=>by
   have iC:Data.fields _=Data.cell v:=z;cases iC⟩
 keep:=λi h h' st k=>k it (by simp) _ st
 item:=by
  intro X d1 hw gU hc i zn s Y H E I hf st a3;subst d1 hw gU;obtain⟨f0,f1,f2,fX,f4,gi⟩:=hf it (by simp);have W:=Walks.range (prog:=X.prog) (w:=X.w) (I.ok.hd hc) it lo 1 n;refine W.item i s _ _ a3 st λv h' tk bu bW ff=>?_
  obtain⟨t,rfl⟩:=bu;have aV:Inv X zn Y H { s with heap:=h',toks:=tk }:=I.turned (λb o aa e=>ff b o (by simpa using aa) e) f0 f1 fX f4 gi;refine⟨_,rfl,uB (s:={ s with heap:=h',toks:=tk }) (n:="range_iterator") bW rfl rfl (by decide) ⟨.int (lo+i),H,aV,⟨t,?_⟩,⟨rfl,rfl⟩,bW,λb aa=>(hf b aa).1⟩⟩;rw[Int.mul_one]
 done:=by
  intro X d1 hw gU hc i zn s Y H E I hf st a3;subst d1 hw gU;obtain⟨f0,f1,f2,fX,f4,gi⟩:=hf it (by simp);exact wpAny_pyNext_range_end (I.ok.hd hc) st (by have:n<=i:=a3;omega) λh' dh=>⟨rfl,I.turned (t':=s.toks) (λb o aa e=>dh b o aa e) f0 f1 fX f4 gi⟩
 self:=λ_ _ _ _ _ st h=>wpAny_pyIter_rangeiter st h
section
variable{X:aJ}{b7:Expr}
def Yl(K:aM)(iz:TE):TI:=λY H R=>iz Y H λx H1=>∃a,x=.ref a/\(∃xs,du K H1 a xs)/\R (l8 K a) H1
def Ym(K:aM)(iz:TE):TI:=λY H R=>iz Y H λx H1=>∃a,x=.ref a/\(∃xs,dj K H1 a xs)/\R (rx K a) H1
def DV(hl:bM X l iz):jC X b7 l (Yl X.K iz):=by
 intro zn s Y H R I h;refine bN (hl zn s Y H _ I h) λv s1 aO=>?_
 obtain⟨x,H1,aV,bF,bp⟩:=aO;obtain⟨a,e,⟨xs,a6⟩,q⟩:=bp;subst e;cases bF;obtain⟨its,bG,p,hz⟩:=aV.list a6;refine al9 p.isList ?_;refine⟨s1.heap.objs.size,[s1.heap.objs.size],_,_,H1,rfl,aV.kept (t':=s1.toks) λb o e=>ajZ _ e,afr a _,⟨_,akc _ rfl,rfl,rfl⟩,λb aa=>?_,q⟩;have e:b=s1.heap.objs.size:=by simpa using aa
 subst e;exact aV.qe (aj8 _) (aV.bA.fresh (aj8 _))
def LG(hl:bM X l iz):jC X b7 l (Ym X.K iz):=by
 intro zn s Y H R I h;refine bN (hl zn s Y H _ I h) λv s1 aO=>?_
 obtain⟨x,H1,aV,bF,bp⟩:=aO;obtain⟨a,e,⟨xs,a6⟩,q⟩:=bp;subst e;cases bF;obtain⟨its,bG,p,hz⟩:=aV.tuple a6;refine amt (show s1.heap.IsTuple a its.toArray from p) ?_;refine⟨s1.heap.objs.size,[s1.heap.objs.size],_,_,H1,rfl,aV.kept (t':=s1.toks) λb o e=>ajZ _ e,aft a _,⟨_,akc _ rfl,rfl,rfl⟩,λb aa=>?_,q⟩;have e:b=s1.heap.objs.size:=by simpa using aa
 subst e;exact aV.qe (aj8 _) (aV.bA.fresh (aj8 _))
def acb{zn:cC}{Y:St}{H:ah}{s:aj0}{R:hG->ah->Prop}{E:b'}{lo aA:Int}{t u v:Tok}{tk:Nat}(I:Inv X zn Y H s)(ae:-(2 ^ 62)<=lo)(ag:lo<2 ^ 62)(bO:-(2 ^ 62)<=aA)(cO:aA<2 ^ 62)
  (q:R (ru lo (aA-lo).toNat) H):wpAny (model X.prog X.w) X.A (pyIter (.ref s.heap.objs.size)) (FA X zn Y b7 R) E { s with heap:=s.heap.push { cls:=.type "range",data:=.fields #[.int lo t,.int aA u,.int 1 v] },toks:=tk }:=by
 refine wpAny_pyIter_range (IsRange.new ..) (small_one ae ag bO cO) ?_;have aV:Inv X zn Y H { s with heap:=s.heap.push { cls:=.type "range",data:=.fields #[.int lo t,.int aA u,.int 1 v] },toks:=tk }:=I.kept λb o e=>ajZ _ e
 refine⟨(s.heap.push { cls:=.type "range",data:=.fields #[.int lo t,.int aA u,.int 1 v] }).objs.size,[(s.heap.push { cls:=.type "range",data:=.fields #[.int lo t,.int aA u,.int 1 v] }).objs.size],_,_,H,rfl,
  aV.kept (t':=tk) λb o e=>ajZ _ e,afs _ lo (aA-lo).toNat,?_,λb aa=>?_,q⟩
 .have aw:lo+((0:Nat):Int)*1=lo:=by simp
  have aG:(((aA-lo).toNat:Nat):Int)-((0:Nat):Int)=Builtin.Range.rangeSize lo aA 1:=by rw[rangeSize_one];split<;>omega
  show IsRangeIter _ _ (lo+((0:Nat):Int)*1) ((((aA-lo).toNat:Nat):Int)-((0:Nat):Int)) 1;rw[aw,aG];exact akc _ rfl
 .have e:b=(s.heap.push { cls:=.type "range",data:=.fields #[.int lo t,.int aA u,.int 1 v] }).objs.size:=by simpa using aa
  subst e;exact aV.qe (aj8 _) (aV.bA.fresh (aj8 _))
def Cm(bR:fj):TI:=λY H R=>bR Y H λvs H1=>∃j:Int,vs=[.int j]/\-(2 ^ 62)<=j/\j<2 ^ 62/\R (ru 0 j.toNat) H1
def LF(a3:dD X "range")(hm:X.mg "range"=none)(ao:gd X [a] bR)(az:ajY [a] X.env=[(false,eval a X.env)]:=by rfl):jC X b7 (.Call (.Name "range" p) [a] [] pos) (Cm bR):=by
 intro zn s Y H R I h;refine Call_ (qB I a3 hm boot_range (amK (bN (ao pos zn s Y H _ I h) λus s1 ⟨vs,H1,aV,bF,bp⟩=>?_) az rfl));obtain⟨j,e,bp,b2,q⟩:=bp;subst e
 cases bF with
 |cons r ba=>
  cases ba;obtain⟨t,rfl⟩:=r;exact call_range_1 (acb aV (by omega) (by omega) bp b2 (by simpa using q))
def td(wi:TI)(g:ij)(cS:fz):fz:=λD Y H=>wi Y H λbJ H1=>∃W:Nat->Nat->St->ah->Prop,(∃m,W 0 m Y H1)/\∀i m Y H,W i m Y H->
 (bJ.stop i H/\D.bw Y H)\/(bJ.go i H/\∃N:St->ah->Prop,(∀Y' H',N Y' H'->∃fq,fq<m/\W (i+1) fq Y' H')/\∀x H',bJ.oo i H x H'->g x Y H' λdp aK=>cS { D with bw:=N,cb:=N,d4:=D.bw } dp aK)
def qW(aY:List Addr)(h:Heap):List (Addr×Obj):=aY.filterMap λb=>(h.get? b).map λo=>(b,o)
def yX{h:Heap}(aa:b∈aY)(e:h.get? b=some o):(b,o)∈qW aY h:=anY.mpr ⟨b,aa,by rw[e];rfl⟩
def aaG{h:Heap}(aL:p∈qW aY h):p.1∈aY/\h.get? p.1=some p.2:=by
 obtain⟨b,aa,e⟩:=anY.mp aL
 cases q:h.get? b with
 |none=>rw[q]at e;cases e
 |some o=>
  rw[q]at e;have bZ:(b,o)=p:=aky e;subst bZ;exact⟨aa,q⟩
def Inv.pinned{H:ah}{s:aj0}(I:Inv X zn Y H s)(hf:∀b∈aY,gr X zn H b)(aT:∀b∈aY,∃o,s.heap.get? b=some o/\∀v,o.data≠.cell v):Inv X (zn++qW aY s.heap) Y H s:=
 I.LI λp aL=>(alb.mp aL).elim (λz=>I.pin p (akz _ z)) λz=>by
  obtain⟨aa,e⟩:=aaG z;obtain⟨f0,f1,f2,_⟩:=hf p.1 aa;obtain⟨o,bZ,d⟩:=aT p.1 aa;rw[e]at bZ;cases bZ;exact⟨e,f0,f1,f2,d⟩
def Inv.wq{H:ah}(I:Inv X (zn++pl) Y H s):Inv X zn Y H s:=I.LI λp aL=>I.pin p (akz _ (alP _ aL))
def DX{iter:Expr}{body:List Stmt}{wi:TI}{g:ij}{cS:fz}{pos:Pos}(aL:aoS (model X.prog X.w) X.A X.env X.cL)(hc:X.calm=true)(aA:jC X b7 iter wi)(a3:oG X b7 g)(aa:gP X body cS)
  (az:∀x,ak0 iter X.env x=pure x:=by intro _;rfl):hH X (.For b7 iter body [] pos) (td wi g cS):=by
 intro zn s Y H D I h;refine wpAny_For (bN (aA zn s Y H _ I h) λv s1 ae=>bN ae λyv s2 ag=>?_) az;obtain⟨it,aY,eQ,bJ,aK,e,bS,T,cf,f2,W,⟨m0,EK⟩,turn⟩:=ag;subst e;have q6:∀{H':ah},(∀b∈aY,H' b=none)->∀b∈aY,gr X zn H' b:=λaF b aa=>⟨aF b aa,(f2 b aa).2⟩
 refine codeAny_forLoop_any (λn s'=>∃i Y' H',Inv X zn Y' H' s'/\eQ i s'.heap/\(∀b∈aY,H' b=none)/\W i n Y' H') ?_ m0 ⟨0,Y,aK,bS,cf,λb aa=>(f2 b aa).1,EK⟩;rintro n s3 ⟨i,wH,cI,dr,f6,Ii,afJ⟩;rcases turn i n wH cI afJ with⟨stop,s6⟩|⟨go,N,hN,step⟩
 .refine amT aL (bN (T.done X rfl rfl rfl hc i zn s3 wH cI X.cL dr (q6 Ii) f6 stop) λr s4 aO=>?_)
  obtain⟨aD,gv⟩:=aO;subst aD;exact aoR ⟨wH,cI,gv,s6⟩
 .refine amT aL (bN (T.item X rfl rfl rfl hc i zn s3 wH cI X.cL dr (q6 Ii) f6 go) λr s4 aO=>?_)
  obtain⟨u,aD,cO⟩:=aO;subst aD;refine amT aL (bN cO λ_ s5 aO=>?_);obtain⟨x,j5,rr,D7,agW,tb,xR⟩:=aO;have O4:=rr.pinned (q6 xR) (T.obj _ _ tb);refine amT aL (bN (a3 _ s5 wH j5 x u _ O4 D7 (step x j5 agW)) λ_ pN aO=>?_);obtain⟨ahP,OY,tO,ab1⟩:=aO;refine amT aL (bN (aa _ pN ahP OY _ tO ab1) λf g6 pL=>?_);have again:∀{l2:St}{i8:ah},Inv X (zn++qW aY s5.heap) l2 i8 g6->N l2 i8->∃m,m<n/\∃i Y' H',Inv X zn Y' H' g6/\eQ i g6.heap/\(∀b∈aY,H' b=none)/\W i m Y' H':=λ{l2 i8} jz vD=>by
   obtain⟨fq,hm,afL⟩:=hN l2 i8 vD;refine⟨fq,hm,i+1,l2,i8,jz.wq,T.keep _ _ _ tb λb aa o e=>(jz.pin (b,o) (akz _ (akz _ (yX aa e)))).1,λb aa=>?_,afL⟩;obtain⟨o,e,d⟩:=T.obj _ _ tb b aa;exact(jz.pin (b,o) (akz _ (akz _ (yX aa e)))).2.1
  cases f with
  |next=>obtain⟨l2,i8,jz,vD⟩:=pL;exact again jz vD
  |cont=>obtain⟨l2,i8,jz,vD⟩:=pL;exact again jz vD
  |brk=>obtain⟨l2,i8,jz,pL⟩:=pL;exact⟨l2,i8,jz.wq,pL⟩
  |ret v=>obtain⟨agJ,l2,i8,jz,D8,pL⟩:=pL;exact⟨agJ,l2,i8,jz.wq,D8,pL⟩
end
abbrev eR:=V->V->ah->cD->Prop
def dN(X:aJ)(f:Value->Value->Sem Value)(r:eR):Prop:=
 ∀(zn:cC)(s:aj0)(Y:St)(H:ah)(x y:V)(v u:Value)(Q:cD),Inv X zn Y H s->RelV x v->RelV y u->r x y H Q->
  wpAny (model X.prog X.w) X.A (f v u) (gq X zn Y Q) X.cL s
def Aj(X:aJ)(f:Value->Sem Value)(r:V->ah->cD->Prop):Prop:=
 ∀(zn:cC)(s:aj0)(Y:St)(H:ah)(x:V)(v:Value)(Q:cD),Inv X zn Y H s->RelV x v->r x H Q->
  wpAny (model X.prog X.w) X.A (f v) (gq X zn Y Q) X.cL s
def iD(X:aJ)(f:Value)(r:List V->ah->cD->Prop):Prop:=
 ∀(zn:cC)(s:aj0)(Y:St)(H:ah)(xs:List V)(us:List Value)(Q:cD),Inv X zn Y H s->Vals xs us->r xs H Q->
  wpAny (model X.prog X.w) X.A (call f us) (gq X zn Y Q) X.cL s
def tf(r:eR)(bR cS:TE):TE:=λY H Q=>bR Y H λx H1=>cS Y H1 λy aK=>r x y aK Q
def aeV(r:V->ah->cD->Prop)(bR:TE):TE:=λY H Q=>bR Y H λx H1=>r x H1 Q
def ju(C:Int->Int->Prop)(g:Int->Int->V):eR:=λx y H Q=>∃i j,x=.int i/\y=.int j/\C i j/\Q (g i j) H
def hQ(g:Int->Int->V):eR:=λx y H Q=>∃i j,x=.int i/\y=.int j/\Q (g i j) H
def L4(g:Int->V):V->ah->cD->Prop:=λx H Q=>∃i,x=.int i/\Q (g i) H
section
variable{X:aJ}{a b:Expr}{bR cS:TE}{pos:Pos}
def AP(ao:bM X a bR)(aa:bM X b cS){zn:cC}{s:aj0}{Y:St}{H:ah}{R:V->V->ah->Prop}(I:Inv X zn Y H s)
  (h:bR Y H λx H1=>cS Y H1 λy aK=>R x y aK) {Q:b'}{f:Value->Value->Sem Value}
  (hf:∀v u s2 x y aK,Inv X zn Y aK s2->RelV x v->RelV y u->R x y aK->wpAny (model X.prog X.w) X.A (f v u) Q X.cL s2) :
  wpAny (model X.prog X.w) X.A (eval a X.env) (λv c_=>wpAny (model X.prog X.w) X.A (eval b X.env) (λu lO=>wpAny (model X.prog X.w) X.A (f v u) Q X.cL lO) X.cL c_) X.cL s:=by
 refine bN (ao zn s Y H _ I h) λv s1 aO=>?_
 obtain⟨x,H1,aV,bF,bp⟩:=aO;refine bN (aa zn s1 Y H1 _ aV bp) λu s2 aO=>?_
 obtain⟨y,aK,bS,b5,b2⟩:=aO;exact hf v u s2 x y aK bS bF b5 b2
def DS{r:eR}(aT:dN X (alQ op) r)(ao:bM X a bR)(aa:bM X b cS):bM X (.BinOp a op b pos) (tf r bR cS):=by
 intro zn s Y H Q I h;exact wpAny_BinOp (AP ao aa I h λv u s2 x y aK bS aU bz q=>aT zn s2 Y aK x y v u Q bS aU bz q)
def abB{r:V->ah->cD->Prop}(aT:Aj X (unaryOp op) r)(ao:bM X a bR):bM X (.UnaryOp op a pos) (aeV r bR):=by
 intro zn s Y H Q I h;exact UnaryOp_ (bN (ao zn s Y H _ I h) λv s1 ⟨x,H1,aV,bF,bp⟩=>aT zn s1 Y H1 x v Q aV bF bp)
def sO{f:Value->Value->Sem Value}{C:Int->Int->Prop}{g:Int->Int->Int}
  (rule:∀(i j:Int)(t u:Tok)(s:aj0)(Q:b')(E:b'),C i j->Q (.int (g i j) s.toks) { s with toks:=s.toks+1 }->wpAny (model X.prog X.w) X.A (f (.int i t) (.int j u)) Q E s) :
  dN X f (ju C λi j=>.int (g i j)):=by
 intro zn s Y H x y v u Q I aU bz h;obtain⟨i,j,rfl,rfl,hc,q⟩:=h;obtain⟨t,rfl⟩:=aU;obtain⟨t',rfl⟩:=bz;exact rule i j t t' s _ _ hc ⟨.int (g i j),H,I.tok _,⟨_,rfl⟩,q⟩
def zi{f:Value->Value->Sem Value}{g:Int->Int->Int}
  (rule:∀(i j:Int)(t u:Tok)(s:aj0)(Q:b')(E:b'),Q (.int (g i j) s.toks) { s with toks:=s.toks+1 }->wpAny (model X.prog X.w) X.A (f (.int i t) (.int j u)) Q E s) :
  dN X f (hQ λi j=>.int (g i j)):=by
 intro zn s Y H x y v u Q I aU bz h;obtain⟨i,j,rfl,rfl,q⟩:=h;obtain⟨t,rfl⟩:=aU;obtain⟨t',rfl⟩:=bz;exact rule i j t t' s _ _ ⟨.int (g i j),H,I.tok _,⟨_,rfl⟩,q⟩
def DK{f:Value->Value->Sem Value}{g:Int->Int->Bool}
  (rule:∀(i j:Int)(t u:Tok)(s:aj0)(Q:b')(E:b'),Q (.bool (g i j)) s->wpAny (model X.prog X.w) X.A (f (.int i t) (.int j u)) Q E s) :
  dN X f (hQ λi j=>.au (g i j)):=by
 intro zn s Y H x y v u Q I aU bz h;obtain⟨i,j,rfl,rfl,q⟩:=h;obtain⟨t,rfl⟩:=aU;obtain⟨t',rfl⟩:=bz;exact rule i j t t' s _ _ ⟨.au (g i j),H,I,rfl,q⟩
def wL(i j:Int):Prop:=0<=j/\j<=1000000/\i.natAbs<2 ^ 64
def wK(i j:Int):Prop:=(-(2 ^ 64)<i/\i<2 ^ 64)\/(-(2 ^ 64)<j/\j<2 ^ 64)
def wK.ok{i j:Int}(h:wK i j):IntMulOk i j:=by
 rcases h with⟨ae,ag⟩|⟨ae,ag⟩
 .exact .of_left (intBits_le_64 ae ag)
 .exact .of_right (intBits_le_64 ae ag)
def afv(k:Nat):(0:Int)<=2 ^ k:=by
 rw[two_pow_cast];exact Int.natCast_nonneg _
def aaN:dN X (alQ .Add) (hQ λi j=>.int (i+j)):=zi λ_ _ _ _ _ _ _ q=>add_int q
def aaZ:dN X (alQ .Sub) (hQ λi j=>.int (i-j)):=zi λ_ _ _ _ _ _ _ q=>sub_int q
def aaT:dN X (alQ .Mod) (ju (λ_ j=>0<j) λi j=>.int (i % j)):=sO λi j _ _ _ _ _ hc q=>by
 have ae:(0:Int)<j:=hc;exact mod_int' (by omega) (by rw[Int.fmod_eq_emod_of_nonneg i (by omega)];exact q)
def aaW:dN X (alQ .Pow) (ju wL λi j=>.int (i ^ j.toNat)):=sO λ_ _ _ _ _ _ _ hc q=>pow_int_small hc.1 hc.2.1 hc.2.2 q
def aaX:dN X (alQ .LShift) (ju wL λi j=>.int (i*2 ^ j.toNat)):=sO λ_ _ _ _ _ _ _ hc q=>lshift_int_small hc.1 hc.2.1 hc.2.2 q
def aaY:dN X (alQ .RShift) (ju (λ_ j=>0<=j) λi j=>.int (i / 2 ^ j.toNat)):=sO λi j _ _ _ _ _ hc q=>
 rshift_int hc (by rw[an8 i (afv _)];exact q)
def aaP:dN X (alQ .BitAnd) (hQ λi j=>.int (amD i j)):=zi λ_ _ _ _ _ _ _ q=>and_int q
def aaV:dN X (alQ .BitOr) (hQ λi j=>.int (anl i j)):=zi λ_ _ _ _ _ _ _ q=>or_int q
def afx{f:Value->Sem Value}{g:Int->Int}
  (rule:∀(i:Int)(t:Tok)(s:aj0)(Q:b')(E:b'),Q (.int (g i) s.toks) { s with toks:=s.toks+1 }->wpAny (model X.prog X.w) X.A (f (.int i t)) Q E s) :
  Aj X f (L4 λi=>.int (g i)):=by
 intro zn s Y H x v Q I aU h;obtain⟨i,rfl,q⟩:=h;obtain⟨t,rfl⟩:=aU;exact rule i t s _ _ ⟨.int (g i),H,I.tok _,⟨_,rfl⟩,q⟩
def afy:Aj X (unaryOp .USub) (L4 λi=>.int (-i)):=afx λ_ _ _ _ _ q=>neg_int q
end
section
variable{X:aJ}{a b c:Expr}{bR cS pQ:TE}{pos:Pos}
def Bv{H:ah}{Q:cD}{k jO:Bool}(I:Inv X zn Y H s)(q:Q (.au k) H)(e:k=jO):gq X zn Y Q (.bool jO) s:=by
 subst e;exact⟨.au k,H,I,rfl,q⟩
def Ll:dN X (akG .Lt) (hQ λi j=>.au (decide (i<j))):=DK λ_ _ _ _ _ _ _ q=>lt_int q
def sP:dN X (akG .LtE) (hQ λi j=>.au (decide (i<=j))):=DK λ_ _ _ _ _ _ _ q=>le_int q
def Lh:dN X (akG .GtE) (hQ λi j=>.au (decide (j<=i))):=DK λ_ _ _ _ _ _ _ q=>ge_int q
def Lj:dN X (akG .In) (λx y H Q=>∃i j,x=.str i/\y=.str j/\Q (.au (!(amr j i 0 j.length 1).isEmpty)) H):=by
 intro zn s Y H x y v u Q I aU bz h;obtain⟨i,j,rfl,rfl,q⟩:=h;obtain⟨t,rfl⟩:=aU;obtain⟨t',rfl⟩:=bz;exact in_str (Bv I q rfl)
def Lk:dN X (akG .Is) (λx y H Q=>y=.aN/\Q (.au (decide (x=.aN))) H):=by
 intro zn s Y H x y v u Q I aU bz h;obtain⟨rfl,q⟩:=h;cases bz;refine is_none_gen (Bv I q ?_);cases x<;>first
  |(cases aU;rfl)
  |(obtain⟨t,rfl⟩:=aU;rfl)
def Lm:dN X (akG .IsNot) (λx y H Q=>y=.aN/\Q (.au (!decide (x=.aN))) H):=by
 intro zn s Y H x y v u Q I aU bz h;obtain⟨rfl,q⟩:=h;cases bz;refine isnot_none_gen (Bv I q ?_);cases x<;>first
  |(cases aU;rfl)
  |(obtain⟨t,rfl⟩:=aU;rfl)
def h8(b:Expr)(h:op≠.In:=by decide)(ag:op≠.NotIn:=by decide):alT op b=false:=by
 have aw:(op==CmpOp.In)=false:=by cases op<;>first|rfl|exact absurd rfl h
 have aG:(op==CmpOp.NotIn)=false:=by cases op<;>first|rfl|exact absurd rfl ag
 cases b<;>simp[alT,aw,aG]
def abl{r:eR}(aT:dN X (akG op) r)(ao:bM X a bR)(aa:bM X b cS)(hm:alT op b=false):bM X (.Compare a [op] [b] pos) (tf r bR cS):=by
 intro zn s Y H Q I h;exact wpAny_Compare1 (AP ao aa I h λv u s2 x y aK bS aU bz q=>aT zn s2 Y aK x y v u Q bS aU bz q) hm
def wm(t:TE):TT:=λY H Q=>t Y H λx H'=>∃k,x=.au k/\Q k H'
theorem abW{r:eR}(aT:dN X (akG op) r)(ao:bM X a bR)(aa:bM X b cS)(hm:alT op b=false):hX X (.Compare a [op] [b] pos) (wm (tf r bR cS)):=by
 intro zn s Y H Q I h;refine wpAny_isTrue_Compare1 (bN (ao zn s Y H _ I h) λv s1 ⟨x,H1,aV,bF,bp⟩=>bN (aa zn s1 Y H1 _ aV bp) λu s2 ⟨y,aK,bS,b5,b2⟩=>
  bN (aT zn s2 Y aK x y v u _ bS bF b5 b2) λc s3 ⟨z,cI,dr,n6,k,e,gG⟩=>?_) hm
 subst e;cases n6;exact alg ⟨cI,dr,gG⟩
def Eu(r bH:eR)(bR cS pQ:TE):TE:=λY H Q=>bR Y H λx H1=>cS Y H1 λy aK=>r x y aK λz cI=>∃k,z=.au k/\
 (if k=true then pQ Y cI λeg gu=>bH y eg gu Q else Q (.au false) cI)
def abk{op jQ:CmpOp}{r bH:eR}(aT:dN X (akG op) r)(gj:dN X (akG jQ) bH)(ao:bM X a bR)(aa:bM X b cS)(hc:bM X c pQ)
  (hm:lastMarks [op,jQ] [b,c]=false:=by with_unfolding_all rfl):bM X (.Compare a [op,jQ] [b,c] pos) (Eu r bH bR cS pQ):=by
 intro zn s Y H Q I h;refine Compare_chain (bN (ao zn s Y H _ I h) λv s1 ⟨x,H1,aV,bF,bp⟩=>chain_link (bN (aa zn s1 Y H1 _ aV bp) λu s2 ⟨y,aK,bS,b5,b2⟩=>
  bN (aT zn s2 Y aK x y v u _ bS bF b5 b2) λd s3 ⟨z,cI,dr,n6,k,e,gG⟩=>?_)) hm
 subst e;cases n6;refine alg ?_
 cases k with
 |false=>exact ite_ff ⟨.au false,cI,dr,rfl,gG⟩|true=>exact ite_tt (chain_last (bN (hc zn s3 Y cI _ dr gG) λeg s4 ⟨iC,gu,gv,q0,vX⟩=>gj zn s4 Y gu y iC u eg Q gv b5 q0 vX))
def abV{op jQ:CmpOp}{r bH:eR}(aT:dN X (akG op) r)(gj:dN X (akG jQ) bH)(ao:bM X a bR)(aa:bM X b cS)(hc:bM X c pQ)
  (hm:lastMarks [op,jQ] [b,c]=false:=by with_unfolding_all rfl):hX X (.Compare a [op,jQ] [b,c] pos) (wm (Eu r bH bR cS pQ)):=by
 intro zn s Y H Q I h;refine isTrue_chain (bN (ao zn s Y H _ I h) λv s1 ⟨x,H1,aV,bF,bp⟩=>test_link (bN (aa zn s1 Y H1 _ aV bp) λu s2 ⟨y,aK,bS,b5,b2⟩=>
  bN (aT zn s2 Y aK x y v u _ bS bF b5 b2) λd s3 ⟨z,cI,dr,n6,k,e,gG⟩=>?_)) hm
 subst e;cases n6;refine alg ?_
 cases k with
 |false=>
  obtain⟨jO,bZ,g5⟩:=gG;cases bZ;exact ite_ff ⟨cI,dr,g5⟩
 |true=>
  refine ite_tt (test_last (bN (hc zn s3 Y cI _ dr gG) λeg s4 ⟨iC,gu,gv,q0,vX⟩=>bN (gj zn s4 Y gu y iC u eg _ gv b5 q0 vX) λd' s5 aO=>?_));obtain⟨d7,j5,rr,D7,k2,aG,ab0⟩:=aO;subst aG;cases D7;exact alg ⟨j5,rr,ab0⟩
def vb:(aj6:Nat)<2 ^ 63:=by rw[akK];decide
def aaO:dN X (alQ .Add) (λx y H Q=>∃i j,x=.str i/\y=.str j/\i.length+j.length<=aj6/\Q (.str (i++j)) H):=by
 intro zn s Y H x y v u Q I aU bz h;obtain⟨i,j,rfl,rfl,hz,q⟩:=h;obtain⟨t,rfl⟩:=aU;obtain⟨t',rfl⟩:=bz;exact add_str (λt' tk=>⟨.str (i++j),H,I.tok _,⟨_,rfl⟩,q⟩) hz
def vals1(r:Vals [x] us):∃u,us=[u]/\RelV x u:=by
 cases r with
 |cons bF b5=>cases b5;exact⟨_,rfl,bF⟩
def vals2(r:Vals [x,y] us):∃u eg,us=[u,eg]/\RelV x u/\RelV y eg:=by
 cases r with
 |cons bF b5=>
  cases b5 with
  |cons n6 q0=>cases q0;exact⟨_,_,rfl,bF,n6⟩
def Sl:iD X (.builtin "abs") (λxs H Q=>∃i,xs=[.int i]/\Q (.int (if i<0 then -i else i)) H):=by
 intro zn s Y H xs us Q I r h;obtain⟨i,rfl,q⟩:=h;obtain⟨u,rfl,t,rfl⟩:=vals1 r;exact call_abs_int λu tk=>⟨.int (if i<0 then -i else i),H,I.tok _,⟨_,rfl⟩,q⟩
def Sv(hc:X.calm=true):iD X (.builtin "max") (λxs H Q=>∃i j,xs=[.int i,.int j]/\Q (.int (if j > i then j else i)) H):=by
 intro zn s Y H xs us Q I r h;obtain⟨i,j,rfl,q⟩:=h;obtain⟨u,eg,rfl,⟨t,rfl⟩,⟨t',rfl⟩⟩:=vals2 r;refine max_two_ints (I.ok.hd hc) λh' tk k=>⟨_,H,I.kept k,?_,q⟩
 by_cases aR:j > i
 .rw[if_pos aR,if_pos aR];exact⟨_,rfl⟩
 .rw[if_neg aR,if_neg aR];exact⟨_,rfl⟩
end
structure p5(h:Heap)(x bU C:Addr)(d2:a9):Prop where
 obj:h.get? x=some (amY C bU)
 ns:h.Ns1 bU d2
 ne:bU≠x
def ZK{h:Heap}{d2:a9}(n:h.Ns1 bU d2):∃cT,h.get? bU=some cT/\∀name,W.lookIn name cT=some (d2 name):=by
 obtain⟨o,ay,cn,aT,hd,aB,_,hm⟩:=n;refine⟨o,aT,λname=>?_⟩;have e:=hm name;unfold nsFind anZ at e;rw[<-Array.find?_toList]at e;unfold W.lookIn;rw[hd];dsimp only;split
 .rename_i y q
  rw[q]at e;exact congrArg some e
 .rename_i q
  rw[q]at e;have a:ay.toList.any (·.refKey)=false:=by
   rw[List.any_eq_false];intro y a';obtain⟨z,t,yc⟩:=aB y (Array.mem_toList_iff.mp a');simp[DictEntry.refKey,yc]
  have Pl:¬ay.toList.any (·.refKey)=true:=by rw[a];exact aj7
  rw[if_neg Pl];exact congrArg some e
def p5.look{d2:a9}(I:p5 h x bU C d2):∃cT,W.InstAt h x (amY C bU) C (some cT)/\∀name,W.lookIn name cT=some (d2 name):=
 let⟨cT,aT,hl⟩:=ZK I.ns
 ⟨cT,⟨I.obj,rfl,rfl,aT⟩,hl⟩
section
variable{prog:aki}{w:World}{A:akm}{E:b'}{s:aj0}{K:aM}{x bU C f:Addr}{d2:a9}{name:Str}{v:Value}
def get_map{expr:Bool}{Q:b'}(X:K.In s.heap)(I:p5 s.heap x bU C d2)(a3:aoo K C name=true)(c6:ao2 K C=true)
  (ao:alL K (.ref C) name=some none) (bu:d2 name=some v) (o':W.handedIn v=true) (h:Q v { s with toks:=s.toks+1 }) :
  wpAny (model prog w) A (getAttr (.ref x) name expr) Q E s:=by
 obtain⟨cT,bJ,hl⟩:=I.look;exact W.get_value X bJ (W.plainGet_of a3).1 (W.findObj_own c6 ao rfl (by rw[hl,bu])) o' h
def Vr{pl:Sem Bool}{Q:Value×List Value->aj0->Prop}(X:K.In s.heap)(I:p5 s.heap x bU C d2)(a3:aoo K C name=true)
  (hf:alL K (.ref C) name=some (some (.ref f))) (bC:W.isFn K (.ref f)=true) (bu:d2 name=none) (h:Q (.ref f,[.ref x]) s) :
  wpAny (model prog w) A (alU (.ref x) name pl) Q E s:=by
 obtain⟨cT,bJ,hl⟩:=I.look;exact W.method_fn X bJ (W.plainGet_of a3).1 (W.plainGet_of a3).2 hf (beq_iff_eq.mp bC) (by show(W.lookIn name cT).map (·.isSome)=some false;rw[hl,bu];rfl) h
def ad1{ns:List Str}{Q:Unit->aj0->Prop}(X:K.In s.heap)(I:p5 s.heap x bU C d2)
  (az:alL K (.ref C) "__setattr__"=some (some (.builtin "object.__setattr__"))) (aL:W.plainOver K C=true) (bC:W.takerIn K C name=some none) (c6:ao2 K C=true)
  (hw:Within d2 ns) (hsz:ns.length<=aj6)
  (h:∀h',p5 h' x bU C (λy=>if y=name then some v else d2 y)->amZ bU s.heap h'->Q () { s with heap:=h',toks:=s.toks+2 }) :
  wpAny (model prog w) A (setAttr (.ref x) name v) Q E s:=by
 obtain⟨cT,bJ,hl⟩:=I.look;refine W.set_plain X bJ az (W.osa_open (s:={ s with toks:=s.toks+1 }) (r:=none) X bJ aL bC λb=>?_);obtain⟨cd,hc,BZ⟩:=W.any_some c6;have ai:s.heap.get? x=some ⟨.ref C,some bU,.plain,#[]⟩:=I.obj;refine ajX (aj4 (ajX (ajX (wpAny_loadPart ai (ajX (W.Looks.here (s:={ s with toks:=s.toks+1 }) (W.looks_clsIn X hc) ?_))))));rw[BZ];refine aj4 (a:=some bU) (ajX (aj4 (ajX ?_)));refine wpAny_nsSet1 (s:={ s with toks:=s.toks+1 }) I.ns λh' sb jN=>?_
 obtain⟨ajA,ai8,ai7,XX,Xh,nJ⟩:=sb.count (Within.cons name v hw);refine ajX (wpAny_lookBehind XX (by rw[Xh];exact pastItsLine_dict (akS nJ (by rw[akn];omega))) ?_);exact aj4 (h _ ⟨(jN.2 _ (alR I.ne)).trans I.obj,sb,I.ne⟩ jN)
def ZW{R:Result->aj0->Prop}{vs:List Value}{kw:List (Str×Value)}(X:K.In s.heap)(hm:W.makesIn K C=true)
  (aA:alL K (.ref C) "__init__"=some (some (.ref f))) (hf:W.typeIn K (.ref f)=some (.type "function"))
  (h:amd (model prog w) (A.under (.builtin "type.__call__" ⟨.ref C::vs,kw⟩)) (.call (.ref f) ⟨.ref (s.heap.objs.size+1)::vs,kw⟩) (W.InitBack (s.heap.objs.size+1) R)
   { s with heap:=(s.heap.push amb).push (amY C s.heap.objs.size) }) :
  amd (model prog w) A (.call (.ref C) ⟨vs,kw⟩) R s:=by
 obtain⟨c6,g,d,t,os⟩:=s;exact W.make_core (W.makes_of X hm) (W.looks_findIn X aA) (λself=>W.bind_fn X self hf) (.inl rfl) h
end
def hB(f:Str)(v:V):List (Str×V)->List (Str×V)
 |[]=>[(f,v)]
 |(g,x)::r=>if g=f then(g,v)::r else(g,x)::hB f v r
theorem Ki(f g:Str)(v:V):∀fs:List (Str×V),(hB f v fs).lookup g=if g=f then some v else fs.lookup g
 |[]=>by
  show alI g [(f,v)]=_
  by_cases h:g=f
  .have aa:(g==f)=true:=beq_iff_eq.mpr h
   simp only[alI,aa,if_pos h]
  .have aa:(g==f)=false:=beq_eq_false_iff_ne.mpr h
   simp only[alI,aa,if_neg h]
 |(k,x)::r=>by
  have aZ:=Ki f g v r;rw[show hB f v ((k,x)::r)=(if k=f then(k,v)::r else(k,x)::hB f v r)from rfl]
  by_cases aB:k=f
  .rw[if_pos aB]
   by_cases h:g=k
   .have aa:(g==k)=true:=beq_iff_eq.mpr h
    simp only[alI,aa,if_pos (h.trans aB)]
   .have aa:(g==k)=false:=beq_eq_false_iff_ne.mpr h
    simp only[alI,aa,if_neg (λe:g=f=>h (e.trans aB.symm))]
  .rw[if_neg aB]
   by_cases h:g=k
   .have aa:(g==k)=true:=beq_iff_eq.mpr h
    simp only[alI,aa,if_neg (λe:g=f=>aB (h.symm.trans e))]
   .have aa:(g==k)=false:=beq_eq_false_iff_ne.mpr h
    simp only[alI,aa];exact aZ
theorem CH(f:Str)(v:V):∀fs:List (Str×V),f∈(hB f v fs).map (·.1)/\∀g,g∈fs.map (·.1)->g∈(hB f v fs).map (·.1)
 |[]=>⟨by simp[hB],λg h=>by simp at h⟩
 |(k,x)::r=>by
  obtain⟨eN,fe⟩:=CH f v r;rw[show hB f v ((k,x)::r)=(if k=f then(k,v)::r else(k,x)::hB f v r)from rfl]
  by_cases aB:k=f
  .rw[if_pos aB]
   subst aB;exact⟨by simp,λg h=>by simpa using h⟩
  .rw[if_neg aB]
   refine⟨?_,λg h=>?_⟩
   .rw[akb]
    exact akg _ eN
   .rw[akb]at h ⊢
    rcases aj5.mp h with e|e
    .exact aj5.mpr (.inl e)
    .exact akg _ (fe g e)
theorem Kc(f:Str)(v:V):∀fs:List (Str×V),(hB f v fs).length<=fs.length+1
 |[]=>by simp[hB]|(k,x)::r=>by
  have aZ:=Kc f v r;rw[show hB f v ((k,x)::r)=(if k=f then(k,v)::r else(k,x)::hB f v r)from rfl]
  by_cases aB:k=f
  .rw[if_pos aB,akn,akn];omega
  .rw[if_neg aB,akn,akn];omega
def hI.some_of{v:V}(r:hI (some v) o):∃u,o=some u/\RelV v u:=by
 cases o with
 |none=>exact(show False from r).elim|some u=>exact⟨u,rfl,r⟩
def hI.none_of(r:hI none o):o=none:=by
 cases o with
 |none=>rfl|some u=>exact(show False from r).elim
def VX{v:V}(r:RelV v u):W.handedIn u=true:=by
 cases v with
 |aN=>cases(show u=ak5 from r);rfl
 |au b=>cases(show u=amL b from r);rfl
 |int i=>obtain⟨t,e⟩:=(show ∃t,u=anU i t from r);cases e;rfl
 |str x=>obtain⟨t,e⟩:=(show ∃t,u=anV x t from r);cases e;rfl
 |xo b=>obtain⟨t,e⟩:=(show ∃t,u=Value.bytes b t from r);cases e;rfl
 |xN b=>obtain⟨t,e⟩:=(show ∃t,u=Value.float b t from r);cases e;rfl
 |ref a=>cases(show u=akl a from r);rfl
 |ty n=>cases(show u=anA n from r);rfl
section
variable{P:aki}{w:World}{H:ah}{h:Heap}{a C bU:Addr}{fs:List (Str×V)}
def Cp(bA:et P w H h)(e:H a=some (.ins C bU fs)):∃d2,p5 h a bU C d2/\(∀f,hI (fs.lookup f) (d2 f))/\Within d2 (fs.map (·.1))/\fs.length<=1000/\H bU=some (.own a):=by
 obtain⟨d,z,ne,bh,d2,n,r,q⟩:=(show fL P w H h a (.ins C bU fs)from bA a _ e);exact⟨d2,⟨bh,n,ne⟩,r,q,z,d⟩
end
structure hT(K:aM)(C:Addr):Prop where
 vS:aoo K C Str.empty=true
 hd:ao2 K C=true
 po:W.plainOver K C=true
 n8:alL K (.ref C) "__setattr__"=some (some (.builtin "object.__setattr__"))
def hT.get{K:aM}{C:Addr}(c:hT K C)(f:Str):aoo K C f=true:=c.vS
def p3(K:aM)(C:Addr)(f:Str):Prop:=alL K (.ref C) f=some none
def p3.ae3{K:aM}{C:Addr}{f:Str}(n:p3 K C f):W.takerIn K C f=some none:=by
 unfold W.takerIn;rw[show alL K (.ref C) f=some none from n];rfl
structure Meth(K:aM)(C:Addr)(m:Str)(f:Addr):Prop where
 at_:alL K (.ref C) m=some (some (.ref f))
 fn:W.isFn K (.ref f)=true
 kp:alW K (.ref f)=true
section
variable{X:aJ}{zn:cC}{Y:St}{H:ah}{s:aj0}{a C bU:Addr}{fs:List (Str×V)}{f:Str}{v:V}{A:akm}{E:b'}
def Vs{b:Bool}{Q:b'}(I:Inv X zn Y H s)(e:H a=some (.ins C bU fs))(c:hT X.K C)(n:p3 X.K C f)(l:fs.lookup f=some v)
  (h:∀u s',Inv X zn Y H s'->RelV v u->Q u s'):wpAny (model X.prog X.w) A (getAttr (.ref a) f b) Q E s:=by
 obtain⟨d2,O,r,_,_,_⟩:=Cp I.bA e;obtain⟨u,cp,ed⟩:=hI.some_of (v:=v) (o:=d2 f) (by rw[<-l];exact r f);exact get_map I.dW O (c.get f) c.hd n cp (VX ed) (h u _ (I.tok _) ed)
def uy{m:Str}{g:Addr}{pl:Sem Bool}{Q:Value×List Value->aj0->Prop}(I:Inv X zn Y H s)(e:H a=some (.ins C bU fs))(c:hT X.K C)(k:Meth X.K C m g)(l:fs.lookup m=none)
  (h:Q (.ref g,[.ref a]) s):wpAny (model X.prog X.w) A (alU (.ref a) m pl) Q E s:=by
 obtain⟨d2,O,r,_,_,_⟩:=Cp I.bA e;have aF:d2 m=none:=hI.none_of (by rw[<-l];exact r m);exact Vr I.dW O (c.get m) k.at_ k.fn aF h
def ad3{y:V}{u:Value}{Q:Unit->aj0->Prop}(I:Inv X zn Y H s)(e:H a=some (.ins C bU fs))(c:hT X.K C)(n:p3 X.K C f)(hl:fs.length<1000)(bz:RelV y u)
  (h:∀s',Inv X zn Y (upd H a (.ins C bU (hB f y fs))) s'->Q () s'):wpAny (model X.prog X.w) A (setAttr (.ref a) f u) Q E s:=by
 obtain⟨d2,O,r,wi,_,aT⟩:=Cp I.bA e;have hz:(fs.map (·.1)).length<=aj6:=by rw[aj2,akK];omega
 refine ad1 I.dW O c.n8 c.po n.ae3 c.hd wi hz λh' ak jU=>h _ ?_
 have hd:∃o,h'.get? bU=some o:=let⟨o,_,_,bZ,_⟩:=ak.ns;⟨o,bZ⟩
 refine I.write (x:=a) (e:=bU) (by rw[e];exact alB) (.inr aT) (λb q aa z=>(jU.2 b aa).trans z) hd ?_;refine⟨by rw[cG O.ne];exact aT,?_,O.ne,ak.obj,_,ak.ns,λg=>?_,λg a3=>?_⟩
 .have:=Kc f y fs;omega
 .show hI ((hB f y fs).lookup g) (if g=f then some u else d2 g)
  rw[Ki]
  by_cases q:g=f
  .rw[if_pos q,if_pos q];exact bz
  .rw[if_neg q,if_neg q];exact r g
 .by_cases q:g=f
  .rw[q];exact(CH f y fs).1
  .refine(CH f y fs).2 g (wi g λz=>a3 ?_)
   show(if g=f then some u else d2 g)=none;rw[if_neg q];exact z
theorem Inv.made(I:Inv X zn Y H s):Inv X zn Y (upd (upd H s.heap.objs.size (.own (s.heap.objs.size+1))) (s.heap.objs.size+1) (.ins C s.heap.objs.size []))
  { s with heap:=(s.heap.push amb).push (amY C s.heap.objs.size) }:=by
 have aw:(s.heap.push amb).get? s.heap.objs.size=some amb:=akc s.heap rfl;have aG:((s.heap.push amb).push (amY C s.heap.objs.size)).get? (s.heap.objs.size+1)=some (amY C s.heap.objs.size):=by
  have:=akc (s.heap.push amb) (o:=amY C s.heap.objs.size) rfl
  rwa[amE]at this
 have c3:(s.heap.push amb).Ns s.heap.objs.size (λ_=>none):=⟨amb,#[],_,aw,rfl,(λe he=>absurd he (by simp)),λ_=>rfl⟩;have aV:=I.laid (a:=s.heap.objs.size) (o:=.own (s.heap.objs.size+1)) (h':=s.heap.push amb) (t':=s.toks) (λb u q=>ajZ _ q) (aj8 _) ⟨_,aw⟩;refine aV.laid (a:=s.heap.objs.size+1) (o:=.ins C s.heap.objs.size []) (t':=s.toks) (λb u q=>ajZ _ q) (amF (amE _ _)) ?_;have ne:s.heap.objs.size≠s.heap.objs.size+1:=aku (Nat.lt_succ_self _);refine⟨by rw[cG ne,dn],akA _,ne,aG,λ_=>none,(Heap.Ns1.of_empty c3).at λo q=>ajZ _ q,λ_=>alB,λy a'=>absurd rfl a'⟩
def PD{prog:aki}{w:World}{env:Env}{e:Expr}{f:Str}{pos:Pos}{s:aj0}{Q:b'}(aa:alz e f env (eval e env)=eval e env)
  (h:wpAny (model prog w) A (eval e env) (λo c_=>wpAny (model prog w) A (getAttr o f true) Q E c_) E s):wpAny (model prog w) A (eval (.Attribute e f pos) env) Q E s:=
 Attribute_any_ h (by rw[arm_eval_Attribute,aa])
end
def aeA(K:aM)(bR:TE)(f:Str):TE:=λY H Q=>bR Y H λx H1=>∃a C bU fs v,x=.ref a/\H1 a=some (.ins C bU fs)/\hT K C/\p3 K C f/\fs.lookup f=some v/\Q v H1
def acz(K:aM)(bR oc:TE)(f:Str):fz:=λD Y H=>oc Y H λy H1=>bR Y H1 λx aK=>∃a C bU fs,x=.ref a/\aK a=some (.ins C bU fs)/\hT K C/\p3 K C f/\fs.length<1000/\
 D.bw Y (upd aK a (.ins C bU (hB f y fs)))
section
variable{X:aJ}{o e value:Expr}{f:Str}{pos pos':Pos}{bR oc:TE}
def abp(he:bM X e bR)(aa:alz e f X.env (eval e X.env)=eval e X.env):bM X (.Attribute e f pos) (aeA X.K bR f):=by
 intro zn s Y H Q I h;refine PD aa (bN (he zn s Y H _ I h) λu s1 aO=>?_);obtain⟨x,H1,aV,aU,a,C,bU,fs,v,ex,fm,c,n,l,q⟩:=aO;subst ex;obtain rfl:u=akl a:=aU;exact Vs aV fm c n l λu' s2 bS ed=>⟨v,H1,bS,ed,q⟩
def abS(ao:bM X o bR)(bu:bM X value oc)(az:ak6 value (some (.Attribute o f pos')) pos.line X.env=pure false):hH X (.Assign [.Attribute o f pos'] value pos) (acz X.K bR oc f):=by
 intro zn s Y H D I h;refine plainObj_wpAny_Assign_Attribute (bN (bu zn s Y H _ I h) λu s1 ⟨y,H1,aV,bz,q⟩=>bN (ao zn s1 Y H1 _ aV q) λcx s2 ⟨x,aK,bS,aU,a,C,bU,fs,ex,fm,c,n,l,b2⟩=>?_) az;subst ex;obtain rfl:cx=akl a:=aU;exact ad3 bS fm c n l bz λs3 dr=>⟨Y,_,dr,b2⟩
def ajy{pl:Sem Bool}{m:Str}{apos:Pos}{args:List Expr}{zn:cC}{s:aj0}{Y:St}{H:ah}{Q:b'}{te:TE}(he:bM X e te)(I:Inv X zn Y H s)
  (h:te Y H λx H1=>∃a C bU fs g,x=.ref a/\H1 a=some (.ins C bU fs)/\hT X.K C/\Meth X.K C m g/\fs.lookup m=none/\
   ∀s1,Inv X zn Y H1 s1->wpAny (model X.prog X.w) X.A (ame pos (.ref g) [.ref a] (ako pos (ajY args X.env)) (alE pos (ak8 [] X.env))) Q X.cL s1)
  (bC:eval (.Call (.Attribute e m apos) args [] pos) X.env=(do
   let cx <-eval e X.env
   amc apos.atName
   let(f,first) <-alS [cx] (alU cx m pl)
   ame pos f first (ako pos (ajY args X.env)) (alE pos (ak8 [] X.env)))) :
  wpAny (model X.prog X.w) X.A (eval (.Call (.Attribute e m apos) args [] pos) X.env) Q X.cL s:=by
 refine amU (pl:=pl) (bN (he zn s Y H _ I h) λu s1 ⟨x,H1,aV,aU,a,C,bU,fs,g,ex,fm,c,k,l,q⟩=>?_) bC;subst ex;obtain rfl:u=akl a:=aU;exact uy aV fm c k l (q s1 aV)
end
structure cg(k:Nat)(A:akm):Prop where
 hd:A.handled=none
 ue:A.depth+3*k+5<recursionLimit
 un:A.units+16*k+200<cLine
def cg.mono{j k:Nat}(r:cg k A)(h:j<=k):cg j A:=⟨r.hd,by have:=r.ue;omega,by have:=r.un;omega⟩
def cg.deeper{k:Nat}{A:akm}(r:cg (k+1) A)(env:Env):cg k (A.deeper env):=
 ⟨r.hd,by have:=r.ue;show A.depth+1+3*k+5 < _;omega,by have:=r.un;show A.units+3+16*k+200 < _;omega⟩
def cg.in1{k:Nat}{A:akm}(r:cg (k+1) A):cg k A.in1:=
 ⟨r.hd,by have:=r.ue;show A.depth+3*k+5 < _;omega,by have:=r.un;show A.units+1+16*k+200 < _;omega⟩
def ZV{A:akm}:(A.under (.builtin "type.__call__" ⟨.ref C::us,kw⟩)).depth=A.depth+1:=by
 first|rfl|simp[apl,Code.weight,Code.isCreation,Code.isGuard,Code.isCaller,Code.frames,Code.isFrame,guardIds]
def ZX{A:akm}:(A.under (.builtin "type.__call__" ⟨.ref C::us,kw⟩)).units=A.units+1:=by
 first|rfl|simp[apl,Code.cUnits,Code.frames,Code.isFrame]
def cg.make{k:Nat}{A:akm}(r:cg (k+1) A)(C:Addr)(us:List Value)(kw:List (Str×Value)):cg k (A.under (.builtin "type.__call__" ⟨.ref C::us,kw⟩)):=
 ⟨r.hd,by have:=r.ue;rw[ZV];omega,by have:=r.un;rw[ZX];omega⟩
def cg.depth{k:Nat}{A:akm}(r:cg k A):A.depth<recursionLimit:=by have:=r.ue;omega
def cg.units{k:Nat}{A:akm}(r:cg k A):A.units+64<cLine:=by have:=r.un;omega
def cg.afz{k:Nat}{A:akm}(r:cg k A):A.units<cLine:=by have:=r.un;omega
def wk:fj:=λ_ H Q=>Q [] H
def aev(bR:TE)(i3:fj):fj:=λY H Q=>bR Y H λx H1=>i3 Y H1 λxs aK=>Q (x::xs) aK
section
variable{X:aJ}{e:Expr}{ay:List Expr}{te:TE}{t:fj}{pos:Pos}
def qU:gd X [] wk:=λ_ _ _ _ H Q I h=>aoi ⟨[],H,I,.nil,h⟩
theorem lH(ao:bM X e te)(aD:gd X ay t)(az:ajY (e::ay) X.env=(false,eval e X.env)::ajY ay X.env:=by rfl):gd X (e::ay) (aev te t):=by
 intro pos zn s Y H Q I h;rw[az];show wpAny _ _ (spliced ((false,eval e X.env)::ako pos (ajY ay X.env))) _ _ s;refine am1 (bN (ao zn s Y H _ I h) λu s1 aO=>?_);obtain⟨x,H1,aV,bF,bp⟩:=aO;exact bN (aD pos zn s1 Y H1 _ aV bp) λus s2 ⟨xs,aK,bS,b5,b2⟩=>⟨x::xs,aK,bS,.cons bF b5,b2⟩
def aeU(t:fj):TE:=λY H Q=>t Y H λxs H1=>xs.length<=aj6/\∀p,H1 p=none->Q (.ref p) (upd H1 p (.tup xs))
def aeG(t:fj):TE:=λY H Q=>t Y H λxs H1=>xs.length<=aj6/\∀p,H1 p=none->Q (.ref p) (upd H1 p (.lst xs))
theorem zk{jx}(h:gd X ay t):bM X (.Tuple ay jx pos) (aeU t):=by
 intro zn s Y H Q I a6;refine wpAny_Tuple_spliced (bN (h pos zn s Y H _ I a6) λus s1 ⟨xs,H1,aV,r,z,q⟩=>⟨by rw[<-r.length];exact z,?_⟩);have hf:H1 s1.heap.objs.size=none:=aV.bA.fresh (aj8 _);refine⟨.ref s1.heap.objs.size,upd H1 s1.heap.objs.size (.tup xs),aV.laid (t':=s1.toks) (λb u e=>ajZ _ e) (aj8 _) ?_,rfl,q _ hf⟩;exact⟨z,us,r,⟨_,akc _ rfl,rfl,_,rfl⟩⟩
theorem DR(h:gd X ay t):bM X (.List ay pos) (aeG t):=by
 intro zn s Y H Q I a6;refine wpAny_List_spliced (bN (h pos zn s Y H _ I a6) λus s1 ⟨xs,H1,aV,r,z,q⟩=>⟨by rw[<-r.length];exact z,?_⟩);have hf:H1 s1.heap.objs.size=none:=aV.bA.fresh (aj8 _);refine⟨.ref s1.heap.objs.size,upd H1 s1.heap.objs.size (.lst xs),aV.laid (t':=s1.toks) (λb u e=>ajZ _ e) (aj8 _) ?_,rfl,q _ hf⟩;exact⟨z,us,0,r,akc _ rfl⟩
end
abbrev dP:=List V->ah->cD->eS->Prop
abbrev kI:=List Env->ah->aj0->eS->Value->aj0->Prop
structure j2(P:aki)(w:World)(K:aM)(mg:a9)(base:Heap)(A:akm)(outer:List Env)(s:aj0)(H:ah):Prop where
 frames:A.frames=some outer
 mod:Mod K mg base
 bs:∀b o,base.get? b=some o->s.heap.get? b=some o/\H b=none
 kb:base.objs.size<=s.heap.objs.size
 jf:s.heap.FunFrames base outer
 nE:∀b∈fY outer,H b=none
 bA:et P w H s.heap
 bare:amR s.gens
def g7(outer:List Env)(P:aki)(w:World)(H:ah)(s:aj0)(Q:cD)(u:Value)(s':aj0):Prop:=
 ∃v H',s'.os=s.os/\amR s'.gens/\fA (fY outer) [] H H' s.heap s'.heap/\et P w H' s'.heap/\RelV v u/\Q v H'
def Fm(d8:kI)(outer:List Env)(P:aki)(w:World)(H:ah)(s:aj0)(Q:cD)(E:eS)(r:Result)(s':aj0):Prop:=
 match r with
 |.ok (.ret u)=>g7 outer P w H s Q u s'|.ok _=>False|.error e=>d8 outer H s E e s'
structure ez(P:aki)(w:World)(K:aM)(mg:a9)(base:Heap)(d8:kI)(k:Nat)(f:Addr)(fd:ak4)(ps:List Str)(sp:dP):Prop where
 len:∀vs H Q E,sp vs H Q E->vs.length=ps.length
 run:∀(A:akm)(outer:List Env)(s:aj0)(H:ah)(args:Args)(us:List Value)(vs:List V)(Q:cD)(E:eS),cg k A->j2 P w K mg base A outer s H->BindsTo s fd args (ps.zip us)->Vals vs us->sp vs H Q E->
  amd (model P w) A (.call (.ref f) args) (Fm d8 outer P w H s Q E) s
def ez.mono{P:aki}{w:World}{K:aM}{mg:a9}{base:Heap}{d8:kI}{j k:Nat}{f:Addr}{fd:ak4}{ps:List Str}{sp:dP}(F:ez P w K mg base d8 j f fd ps sp)(h:j<=k) :
  ez P w K mg base d8 k f fd ps sp:=⟨F.len,λA outer s H args us vs Q E aD=>F.run A outer s H args us vs Q E (aD.mono h)⟩
def ez.imp{P:aki}{w:World}{K:aM}{mg:a9}{base:Heap}{d8:kI}{k:Nat}{f:Addr}{fd:ak4}{ps:List Str}{sp NN:dP}(F:ez P w K mg base d8 k f fd ps sp)
  (h:∀vs H Q E,NN vs H Q E->sp vs H Q E):ez P w K mg base d8 k f fd ps NN:=
 ⟨λvs H Q E q=>F.len vs H Q E (h _ _ _ _ q),λA outer s H args us vs Q E aD he aa bu az=>F.run A outer s H args us vs Q E aD he aa bu (h _ _ _ _ az)⟩
def j2.make{P:aki}{w:World}{K:aM}{mg:a9}{base:Heap}{A:akm}{outer:List Env}{s:aj0}{H:ah}(e:j2 P w K mg base A outer s H)(C:Addr)(us:List Value)(kw:List (Str×Value)) :
  j2 P w K mg base (A.under (.builtin "type.__call__" ⟨.ref C::us,kw⟩)) outer s H:=⟨by first|exact e.frames|(simpa[apl,Code.envs,Code.isFrame,pushEnvs]using e.frames),e.mod,e.bs,e.kb,e.jf,e.nE,e.bA,e.bare⟩
def j2.in1{P:aki}{w:World}{K:aM}{mg:a9}{base:Heap}{A:akm}{outer:List Env}{s:aj0}{H:ah}(e:j2 P w K mg base A outer s H) :
  j2 P w K mg base A.in1 outer s H:=⟨e.frames,e.mod,e.bs,e.kb,e.jf,e.nE,e.bA,e.bare⟩
section
variable{X:aJ}{zn:cC}{Y:St}{H:ah}{s s':aj0}
def Inv.rZ(I:Inv X zn Y H s):j2 X.prog X.w X.K X.mg X.base X.A X.stack s H:=
 ⟨I.ok.frames,I.ok.mod,I.bs,akS I.ok.kb I.zz,I.stack,I.Ep,I.bA,I.bare⟩
def Inv.after(I:Inv X zn Y H s)(h:g7 X.stack X.prog X.w H s Q u s'):gq X zn Y Q u s':=by
 obtain⟨v,H',os,bare,un,bA,r,q⟩:=h;obtain⟨c6,g,d,t,aa0⟩:=s';obtain rfl:aa0=s.os:=os;exact⟨v,H',I.call (h':=c6) (g':=g) (d':=d) (t':=t) (ch:=[]) un bA bare (λb z=>absurd z (by simp)),r,q⟩
end
def NX(sp:dP)(dvs:List V)(E:eS)(t:fj):TE:=λY H Q=>t Y H λvs H1=>sp (vs++dvs) H1 Q E
def NY(C:Addr)(m:Str)(sp:dP)(dvs:List V)(E:eS)(bR:TE)(t:fj):TE:=λY H Q=>bR Y H λx H1=>∃a bU fs,x=.ref a/\H1 a=some (.ins C bU fs)/\fs.lookup m=none/\
 t Y H1 λvs aK=>sp (x::(vs++dvs)) aK Q E
def aeH(C:Addr)(sp:dP)(dvs:List V)(E:eS)(t:fj):TE:=λY H Q=>t Y H λvs H1=>∀x bU,H1 x=none->H1 bU=none->bU≠x->
 sp (.ref x::(vs++dvs)) (upd (upd H1 bU (.own x)) x (.ins C bU [])) (λv aK=>v=.aN/\Q (.ref x) aK) E
def Binds(K:aM)(fd:ak4)(ps:List Str)(ds:List Value):Prop:=
 ∀(s:aj0)(us:List Value),K.In s.heap->(us++ds).length=ps.length->BindsTo s fd ⟨us,[]⟩ (ps.zip (us++ds))
def Binds.all{K:aM}{fd:ak4}{ps:List Str}(h:∀us:List Value,us.length=ps.length->amf fd ⟨us,[]⟩=pure (ps.zip us)):Binds K fd ps []:=λs us _ hl=>by
 rw[ak3]at hl ⊢;exact .of_eq (h us hl)
def Passes(d8:kI)(X:aJ)(E:eS):Prop:=∀(zn:cC)(Y:St)(H:ah)(s:aj0)(e:Value)(s':aj0),Inv X zn Y H s->d8 X.stack H s E e s'->X.cL e s'
section
variable{X:aJ}{d8:kI}{k:Nat}{f C:Addr}{fd:ak4}{ps:List Str}{sp:dP}{dvs:List V}{ds:List Value}{E:eS}{x m:Str}{p pos apos:Pos}{e o:Expr}{ay:List Expr}{bR:TE}{t:fj}
theorem v7{zn:cC}{Y:St}{H:ah}{s:aj0}{Q:cD}{us:List Value}{vs:List V}(F:ez X.prog X.w X.K X.mg X.base d8 k f fd ps sp)(aD:cg k X.A)(aa:Binds X.K fd ps ds)(hd:Vals dvs ds)(ai:Passes d8 X E)
  (I:Inv X zn Y H s) (r:Vals vs us) (h:sp (vs++dvs) H Q E):wpAny (model X.prog X.w) X.A (call (.ref f) us) (gq X zn Y Q) X.cL s:=by
 have b5:Vals (vs++dvs) (us++ds):=r.append hd;have hl:(us++ds).length=ps.length:=by rw[<-b5.length];exact F.len _ _ _ _ h
 refine aop (amg (F.run X.A X.stack s H ⟨us,[]⟩ (us++ds) (vs++dvs) Q E aD I.rZ (aa s us I.dW hl) b5 h) λr s' a6=>?_)
 cases r with
 |error e=>exact ai zn Y H s e s' I a6|ok aW=>
  cases aW with
  |ret u=>exact I.after a6|next=>exact akv a6
  |brk=>exact akv a6|cont=>exact akv a6
def abg(F:ez X.prog X.w X.K X.mg X.base d8 k f fd ps sp)(aD:cg k X.A)(a3:dD X x)(hm:X.mg x=some (.ref f))(aB:alW X.K (.ref f)=true)(aa:Binds X.K fd ps ds)(hd:Vals dvs ds)(ai:Passes d8 X E)
  (ao:gd X (e::ay) t) (dA:(x==("__debug__":Str))=false:=by decide) (he:ajY (e::ay) X.env=(false,eval e X.env)::ajY ay X.env:=by rfl) (dJ:(ako pos (ajY ay X.env)).any (·.1)=false:=by rfl) :
  bM X (.Call (.Name x p) (e::ay) [] pos) (NX sp dvs E t):=by
 intro zn s Y H Q I h;refine alx (mM I a3 hm ?_ dA);refine anD (h₀:=X.base) I.ok.mod.pf aB (bN (ao pos zn s Y H _ I h) λus s1 ⟨vs,H1,aV,r,q⟩=>⟨aV.dW,?_⟩) he dJ;exact v7 F aD aa hd ai aV r q
def abh(F:ez X.prog X.w X.K X.mg X.base d8 k f fd ps sp)(aD:cg k X.A)(a3:dD X x)(hm:X.mg x=some (.ref f))(aB:alW X.K (.ref f)=true)(aa:Binds X.K fd ps ds)(hd:Vals dvs ds)(ai:Passes d8 X E)
  (dA:(x==("__debug__":Str))=false:=by decide):bM X (.Call (.Name x p) [] [] pos) (NX sp dvs E wk):=by
 intro zn s Y H Q I h;refine alx (mM I a3 hm ?_ dA);exact W.callWith_K0 I.dW aB (v7 (us:=[]) F aD aa hd ai I .nil h)
theorem abv{pl:Sem Bool}(he:bM X o bR)(c:hT X.K C)(hm:Meth X.K C m f)(F:ez X.prog X.w X.K X.mg X.base d8 k f fd ps sp)(aD:cg k X.A)(aa:Binds X.K fd ps ds)(hd:Vals dvs ds)(ai:Passes d8 X E)(ao:gd X (e::ay) t)
  (eB:ajY (e::ay) X.env=(false,eval e X.env)::ajY ay X.env:=by rfl) (dJ:(ako pos (ajY ay X.env)).any (·.1)=false:=by rfl)
  (bC:eval (.Call (.Attribute o m apos) (e::ay) [] pos) X.env=(do
   let cx <-eval o X.env
   amc apos.atName
   let(f,first) <-alS [cx] (alU cx m pl)
   ame pos f first (ako pos (ajY (e::ay) X.env)) (alE pos (ak8 [] X.env))):=by rfl) :
  bM X (.Call (.Attribute o m apos) (e::ay) [] pos) (NY C m sp dvs E bR t):=by
 intro zn s Y H Q I h;refine amU (pl:=pl) (bN (he zn s Y H _ I h) λu s1 ⟨x,H1,aV,aU,a,bU,fs,ex,fm,l,q⟩=>?_) bC;subst ex;obtain rfl:u=akl a:=aU;refine uy aV fm c hm l ?_;refine anD (first:=[.ref a]) (h₀:=X.base) I.ok.mod.pf hm.kp (bN (ao pos zn s1 Y H1 _ aV q) λus s2 ⟨vs,aK,bS,r,b2⟩=>⟨bS.dW,?_⟩) eB dJ;exact v7 (us:=.ref a::us) (vs:=.ref a::vs) F aD aa hd ai bS (.cons rfl r) b2
theorem abw{pl:Sem Bool}(he:bM X o bR)(c:hT X.K C)(hm:Meth X.K C m f)(F:ez X.prog X.w X.K X.mg X.base d8 k f fd ps sp)(aD:cg k X.A)(aa:Binds X.K fd ps ds)(hd:Vals dvs ds)(ai:Passes d8 X E)
  (bC:eval (.Call (.Attribute o m apos) [] [] pos) X.env=(do
   let cx <-eval o X.env
   amc apos.atName
   let(f,first) <-alS [cx] (alU cx m pl)
   ame pos f first (ako pos (ajY [] X.env)) (alE pos (ak8 [] X.env))):=by rfl) :
  bM X (.Call (.Attribute o m apos) [] [] pos) (NY C m sp dvs E bR wk):=by
 intro zn s Y H Q I h;refine amU (pl:=pl) (bN (he zn s Y H _ I h) λu s1 ⟨x,H1,aV,aU,a,bU,fs,ex,fm,l,q⟩=>?_) bC;subst ex;obtain rfl:u=akl a:=aU;refine uy aV fm c hm l ?_;exact W.callWith_K0 (first:=[.ref a]) aV.dW hm.kp (v7 (us:=[.ref a]) (vs:=[.ref a]) F aD aa hd ai aV (.cons rfl .nil) q)
structure Fz(K:aM)(C f:Addr):Prop where
 makes:W.makesIn K C=true
 init:alL K (.ref C) "__init__"=some (some (.ref f))
 fn:W.isFn K (.ref f)=true
 kp:alW K (.ref C)=true
theorem acr{zn:cC}{Y:St}{H:ah}{s:aj0}{Q:cD}{us:List Value}{vs:List V}(M:Fz X.K C f)(F:ez X.prog X.w X.K X.mg X.base d8 k f fd ps sp)(aD:cg (k+1) X.A)(aa:Binds X.K fd ps ds)(hd:Vals dvs ds)
  (ai:Passes d8 X E) (I:Inv X zn Y H s) (r:Vals vs us)
  (h:∀x bU,H x=none->H bU=none->bU≠x->sp (.ref x::(vs++dvs)) (upd (upd H bU (.own x)) x (.ins C bU [])) (λv aK=>v=.aN/\Q (.ref x) aK) E) :
  wpAny (model X.prog X.w) X.A (call (.ref C) us) (gq X zn Y Q) X.cL s:=by
 have a6:=h (s.heap.objs.size+1) s.heap.objs.size (I.bA.fresh (Nat.le_succ _)) (I.bA.fresh (aj8 _)) (aku (Nat.lt_succ_self _));have bS:=Inv.made (C:=C) I;have b5:Vals (V.ref (s.heap.objs.size+1)::(vs++dvs)) (akl (s.heap.objs.size+1)::(us++ds)):=.cons rfl (r.append hd);have hl:(akl (s.heap.objs.size+1)::us++ds).length=ps.length:=by
  have e:=b5.length;rw[F.len _ _ _ _ a6]at e;exact e.symm
 refine aop (ZW (f:=f) I.dW M.makes M.init (beq_iff_eq.mp M.fn) (amg (F.run _ X.stack _ _ ⟨akl (s.heap.objs.size+1)::us,[]⟩ (akl (s.heap.objs.size+1)::(us++ds)) _ _ E (aD.make C us [])
  (bS.rZ.make C us []) (aa _ (akl (s.heap.objs.size+1)::us) bS.dW hl) b5 a6) λr s' mE=>?_))
 cases r with
 |error e=>exact ai zn Y _ _ e s' bS mE|ok aW=>
  cases aW with
  |ret u=>
   obtain⟨v,H',dr,bG,ev,gG⟩:=bS.after mE;subst ev;exact⟨bG,⟨V.ref (s.heap.objs.size+1),H',dr,rfl,gG⟩⟩
  |next=>exact akv mE
  |brk=>exact akv mE|cont=>exact akv mE
def abu(M:Fz X.K C f)(F:ez X.prog X.w X.K X.mg X.base d8 k f fd ps sp)(aD:cg (k+1) X.A)(a3:dD X x)(hm:X.mg x=some (.ref C))(aa:Binds X.K fd ps ds)(hd:Vals dvs ds)(ai:Passes d8 X E)
  (ao:gd X (e::ay) t) (dA:(x==("__debug__":Str))=false:=by decide) (he:ajY (e::ay) X.env=(false,eval e X.env)::ajY ay X.env:=by rfl) (dJ:(ako pos (ajY ay X.env)).any (·.1)=false:=by rfl) :
  bM X (.Call (.Name x p) (e::ay) [] pos) (aeH C sp dvs E t):=by
 intro zn s Y H Q I h;refine alx (mM I a3 hm ?_ dA);refine anD (h₀:=X.base) I.ok.mod.pf M.kp (bN (ao pos zn s Y H _ I h) λus s1 ⟨vs,H1,aV,r,q⟩=>⟨aV.dW,?_⟩) he dJ;exact acr M F aD aa hd ai aV r q
end
structure bP(N P:List Str)(sc:Scope):Prop where
 kind:sc.kind=.function:=by rfl
 co:sc.isCoroutine=false:=by rfl
 gen:sc.isGenerator=false:=by rfl
 fT:N.Nodup:=by decide +kernel
 pre:N.take P.length=P:=by rfl
 par:∀x∈P,sc.names.lookup x=some .local\/sc.names.lookup x=some .cell:=by decide +kernel
 aav:∀y∈sc.names,y.2≠.free:=by decide +kernel
theorem Ha{kindOf:Str->Option amx}{x:Str}:∀{binds:List (Str×Value)}{m:a9},(∀v,(x,v)∉binds)->bindL kindOf binds m x=m x
 |[],_,_=>rfl|(n,v)::r,m,h=>by
  unfold bindL;rw[Ha λw hw=>h w (akg _ hw)];split
  .have:x≠n:=by rintro rfl;exact h v akh
   simp[this]
  .rfl
theorem G_{kindOf:Str->Option amx}{x:Str}:∀{binds:List (Str×Value)}{m:a9},(∀v,(x,v)∉binds)->bindC kindOf binds m x=m x
 |[],_,_=>rfl|(n,v)::r,m,h=>by
  unfold bindC;rw[G_ λw hw=>h w (akg _ hw)];split
  .rfl
  .have:x≠n:=by rintro rfl;exact h v akh
   simp[this]
theorem G'{kindOf:Str->Option amx}{v:Value}:∀{P:List Str}{vs:List Value}{i:Nat}{m:a9},P.Nodup->P[i]? = some x->vs[i]? = some v->kindOf x=some .local->
  bindL kindOf (P.zip vs) m x=some v
 |[],_,_,_,_,h,_,_=>by simp at h| _::_,[],_,_,_,_,h,_=>by simp at h|p::P,w::vs,0,m,fT,ae,ag,aB=>by
  simp at ae ag;subst ae;subst ag;show bindL kindOf ((p,w)::P.zip vs) m p=_;unfold bindL;rw[Ha λv bu=>(alw.mp fT).1 (amV bu).1,if_pos aB];simp
 |p::P,w::vs,i+1,m,fT,ae,ag,aB=>by
  show bindL kindOf ((p,w)::P.zip vs) m x=_;unfold bindL;exact G' (i:=i) (alw.mp fT).2 (by simpa using ae) (by simpa using ag) aB
theorem G9{kindOf:Str->Option amx}{v:Value}:∀{P:List Str}{vs:List Value}{i:Nat}{m:a9},P.Nodup->P[i]? = some x->vs[i]? = some v->kindOf x≠some .local->
  bindC kindOf (P.zip vs) m x=some v
 |[],_,_,_,_,h,_,_=>by simp at h| _::_,[],_,_,_,_,h,_=>by simp at h|p::P,w::vs,0,m,fT,ae,ag,aB=>by
  simp at ae ag;subst ae;subst ag;show bindC kindOf ((p,w)::P.zip vs) m p=_;unfold bindC;rw[G_ λv bu=>(alw.mp fT).1 (amV bu).1,if_neg aB];simp
 |p::P,w::vs,i+1,m,fT,ae,ag,aB=>by
  show bindC kindOf ((p,w)::P.zip vs) m x=_;unfold bindC;exact G9 (i:=i) (alw.mp fT).2 (by simpa using ae) (by simpa using ag) aB
def start(N:List Str)(vs:List V):St:=vs.map some++akF (N.length-vs.length) none
def fl(d8:kI)(P:aki)(w:World)(K:aM)(mg:a9)(base:Heap)(N:List Str)(qual:Str)(scope:Scope)(f:Addr)(cd:Value)(A:akm)(outer:List Env)(s:aj0)(H:ah)(E:eS):aJ where
 prog:=P
 w:=w
 K:=K
 mg:=mg
 base:=base
 A:=A.deeper (amG qual scope s.heap.objs.size f cd)
 N:=N
 gk:=s
 H₀:=H
 env:=amG qual scope s.heap.objs.size f cd
 outer:=outer
 stack:=amG qual scope s.heap.objs.size f cd::outer
 ex:=[]
 calm:=true
 fn:=λ_=>true
 h9:=[]
 cL:=λe s'=>wpAny (model P w) (A.deeper (amG qual scope s.heap.objs.size f cd)) (leaving (amG qual scope s.heap.objs.size f cd) e) (λ_ v_=>d8 outer H s E e v_) (λbZ v_=>d8 outer H s E bZ v_) s'
def Hq{sc:Scope}(h:sc.names.lookup x=some .cell):∃c,(cellsFrom n sc.names []).lookup x=some c:=by
 have q:=aoB sc.names n [] (.inl h);exact Option.isSome_iff_exists.mp q
def JC{d8:kI}{P:aki}{w:World}{K:aM}{mg:a9}{base:Heap}{N ps:List Str}{qual:Str}{scope:Scope}{f:Addr}{cd:Value}{A:akm}{outer:List Env}{s s1:aj0}{H:ah}{E:eS}{us:List Value}{vs:List V}
  (S:bP N ps scope) (hd:A.handled=none) (dk:j2 P w K mg base A outer s H) (hl:vs.length=ps.length) (r:Vals vs us)
  (x:InCallC s s.heap.objs.size (bindL (amG qual scope s.heap.objs.size f cd).kindOf (ps.zip us) λ_=>none) (cellsFrom (s.heap.objs.size+1) scope.names []) (bindC (amG qual scope s.heap.objs.size f cd).kindOf (ps.zip us) λ_=>none) s1) :
  Inv (fl d8 P w K mg base N qual scope f cd A outer s H E) [] (start N vs) H s1:=by
 have dJ:ps.length<=N.length:=by have:=congrArg alA S.pre;rw[amh]at this;omega
 obtain⟨ae,tk,rfl,aB⟩:=x.done;have vK:∀b:Addr,b∉(fl d8 P w K mg base N qual scope f cd A outer s H E).ex:=λb z=>absurd (show b∈([]:List Addr)from z) (by simp)
 refine⟨⟨dk.mod,S.kind,rfl,rfl,aj8 _,λy z c ae ag=>?_,λy a'=>?_,λy c _ h=>?_,λ_=>hd,Around.frames_deeper dk.frames,.inr ⟨rfl,rfl⟩,λb z=>absurd z (vK b),dk.bs,dk.kb,λb _ _=>vK b,λb z=>absurd z (vK b),dk.jf,dk.nE⟩,
  rfl,dk.bare,fA.kept aB,⟨_,x.toInCall.ns,λi y v ae ag bO=>?_⟩,λy c h=>⟨_,x.cell y c h⟩,dk.bA.fresh (aj8 _),λy c h=>?_,λp aL=>absurd (show p∈([]:cC)from aL) (by simp),dk.bA.kept aB,?_⟩
 .exact name_of_addr x.apart (alv ae) (alv ag)
 .have a':scope.names.lookup y=some .cell\/scope.names.lookup y=some .free:=a'
  rcases a' with a'|a'
  .exact Hq a'
  .exact absurd rfl (S.aav _ (alv a'))
 .exact akZ (x.above y c (alv h))
 .have aA:i<vs.length:=by
   unfold start at ag
   by_cases aA:i<vs.length
   .exact aA
   .rw[akq (by simpa using aA)]at ag
    rw[alV]at ag;split at ag<;>cases ag
  have ao:vs[i]? = some v:=by
   unfold start at ag;rw[akt (by simpa using aA),akD]at ag
   cases e:vs[i]? with
   |none=>rw[e]at ag;cases ag
   |some a=>rw[e]at ag;cases ag;rfl
  obtain⟨u,cp,bG⟩:=r.get ao;have aL:ps[i]? = some y:=by
   rw[<-S.pre,List.getElem?_take_of_lt (by omega)];exact ae
  have K3:ps.Nodup:=by rw[<-S.pre];exact S.fT.sublist (List.take_sublist _ _)
  refine⟨u,bG,?_⟩;rcases S.par y (akQ aL)with k|k
  .exact .inl ⟨k,G' K3 aL cp k⟩
  .obtain⟨c,e⟩:=Hq (n:=s.heap.objs.size+1) k
   refine .inr ⟨.inl k,c,e,?_⟩;have q:=x.cell y c e;rw[G9 K3 aL cp (by show scope.names.lookup y≠_;rw[k];decide)]at q;exact q
 .exact dk.bA.fresh (akZ (x.above y c (alv h)))
 .unfold start
  show _=N.length;rw[aj9,aj2,ak7];omega
def xO{d8:kI}{P:aki}{w:World}{K:aM}{mg:a9}{base:Heap}{k:Nat}{f:Addr}{name qual:Str}{params:am2}{body:List Stmt}{scope:Scope}{oV cv doc pm bc cb cw:Value}{an cT:Option Addr}
  {eP:Array (Option Value)}{N ps:List Str}{sp:dP}(lk:K.lookup f=some ⟨cw,cT,.func (alM name qual params body scope oV cv doc pm an bc cb),eP⟩) (ew:anR K bc qual=true) (S:bP N ps scope)
  (len:∀vs H Q E,sp vs H Q E->vs.length=ps.length)
  (uL:∀(A:akm)(outer:List Env)(s:aj0)(H:ah)(vs:List V)(Q:cD)(E:eS),cg k (A.deeper (amG qual scope s.heap.objs.size f bc))->sp vs H Q E->
   ∃t,gP (fl d8 P w K mg base N qual scope f bc A outer s H E) body t/\t { bw:=λ_ H'=>Q .aN H',cP:=Q } (start N vs) H) :
  ez P w K mg base d8 (k+1) f (alM name qual params body scope oV cv doc pm an bc cb) ps sp:=by
 refine⟨len,λA outer s H args us vs Q E aD dk aa r gA=>?_⟩;have hl:=len _ _ _ _ gA;have bl:K.In s.heap:=dk.mod.pf.keeps λb o e=>(dk.bs b o e).1
 have lim:s.heap.NoLimit:=dk.mod.nolimit.keeps λb o e=>(dk.bs b o e).1
 have B7:∀y∈ps.zip us,scope.names.lookup y.1=some .local\/(scope.names.lookup y.1=some .cell/\((cellsFrom (s.heap.objs.size+1) scope.names []).lookup y.1).isSome=true):=λaO a'=>by
  obtain⟨n,v⟩:=aO;rcases S.par n (amV a').1 with q|q
  .exact .inl q
  .exact .inr ⟨q,aoB _ _ _ (.inl q)⟩
 refine codeAny_call_function aD.depth (bl _ _ lk) rfl S.co S.gen rfl (W.codeRec_of bl ew) (aa _ _ _ _ ?_);refine wpAny_newFunctionEnv_cells S.kind B7 λenv he s1 x=>?_
 subst he;refine⟨lim.keeps x.toInCall.keep,codeAny_func ?_⟩;obtain⟨t,bC,a6⟩:=uL A outer s H vs Q E (aD.deeper _) gA;have I:Inv (fl d8 P w K mg base N qual scope f bc A outer s H E) [] (start N vs) H s1:=JC S aD.hd dk hl r x;refine akB (bC [] s1 (start N vs) H _ I a6) (λaW s' az=>?_) λe s' az=>az
 have fin:∀{Y':St}{H':ah}{v:V}{u:Value},Inv (fl d8 P w K mg base N qual scope f bc A outer s H E) [] Y' H' s'->RelV v u->Q v H'->g7 outer P w H s Q u s':=
  λ{Y' H' v u} bJ bG q=>⟨v,H',bJ.os,bJ.bare,bJ.base,bJ.bA,bG,q⟩
 cases aW with
 |ret u=>
  obtain⟨v,Y',H',bJ,bG,q⟩:=az;exact fin bJ bG q
 |next=>
  obtain⟨Y',H',bJ,q⟩:=az;exact fin (v:=V.aN) (u:=ak5) bJ rfl q
 |brk=>
  obtain⟨_,_,_,q⟩:=az;exact akv q
 |cont=>
  obtain⟨_,_,_,q⟩:=az;exact akv q
section
variable{X:aJ}{x:Str}{p pos:Pos}{e:Expr}{ay:List Expr}{t:fj}{id T:String}{r:List V->ah->cD->Prop}
def Et(r:List V->ah->cD->Prop)(t:fj):TE:=λY H Q=>t Y H λvs H1=>r vs H1 Q
def DP(hc:iD X (.builtin id) r)(a3:dD X x)(hm:X.mg x=none)(bu:akJ x=some (.builtin id))(ao:gd X (e::ay) t)(aF:x≠"__name__":=by decide)(dA:(x==("__debug__":Str))=false:=by decide)
  (he:ajY (e::ay) X.env=(false,eval e X.env)::ajY ay X.env:=by rfl) (dJ:(ako pos (ajY ay X.env)).any (·.1)=false:=by rfl):bM X (.Call (.Name x p) (e::ay) [] pos) (Et r t):=by
 intro zn s Y H Q I h;refine alx (qB I a3 hm bu ?_ aF dA);exact PyProof.Rows.callWith_builtin1 (bN (ao pos zn s Y H _ I h) λus s1 ⟨vs,H1,aV,bF,bp⟩=>hc zn s1 Y H1 vs us Q aV bF bp) he dJ
def abi(hc:iD X (.type T) r)(a3:dD X x)(hm:X.mg x=none)(bu:akJ x=some (.type T))(ao:gd X (e::ay) t)(aF:x≠"__name__":=by decide)(dA:(x==("__debug__":Str))=false:=by decide)
  (he:ajY (e::ay) X.env=(false,eval e X.env)::ajY ay X.env:=by rfl) (dJ:(ako pos (ajY ay X.env)).any (·.1)=false:=by rfl):bM X (.Call (.Name x p) (e::ay) [] pos) (Et r t):=by
 intro zn s Y H Q I h;refine alx (qB I a3 hm bu ?_ aF dA);exact amK (bN (ao pos zn s Y H _ I h) λus s1 ⟨vs,H1,aV,bF,bp⟩=>hc zn s1 Y H1 vs us Q aV bF bp) he dJ
end
end ax
namespace da
open PySem PyProof.Rows
def Bj(A:akm)(s:aj0)(a:Int)(t:Tok)(c:Int)(u:Tok):∃e,SeqAt.EqAt A s (.int a t) (.int c u) e/\(e=true↔a=c):=
 ⟨(a==c),apm a t c u,by simp⟩
section
variable{prog:aki}{w:World}{A:akm}{E:b'}{s:aj0}
def ck(n d:Nat):Option Int->Nat
 |none=>d|some v=>if v<0 then(v+(n:Int)).toNat else min v.toNat n
def acC(n d:Nat):ck n d none=d:=rfl
def acB(n d k:Nat):ck n d (some (k:Int))=min k n:=by
 show(if(k:Int)<0 then((k:Int)+(n:Int)).toNat else min (k:Int).toNat n)=min k n;rw[if_neg (by omega),aoj]
def acA(n d:Nat)(hd:d<=n)(o:Option Int):ck n d o<=n:=by
 cases o with
 |none=>exact hd|some v=>
  show(if v<0 then(v+(n:Int)).toNat else min v.toNat n)<=n
  by_cases bu:v<0
  .rw[if_pos bu];omega
  .rw[if_neg bu];exact Nat.min_le_right _ _
def Hv(v:Int)(n d:Nat):(if v<0 then max (v+(n:Int)) 0 else min v (n:Int))=((ck n d (some v):Nat):Int):=by
 show(if v<0 then max (v+(n:Int)) 0 else min v (n:Int))=(((if v<0 then(v+(n:Int)).toNat else min v.toNat n):Nat):Int)
 by_cases bu:v<0
 .simp only[if_pos bu];omega
 .simp only[if_neg bu];omega
def Pp(lo aA:Option Int)(n:Nat):amW lo aA 1 (n:Int)=(((ck n 0 lo:Nat):Int),((ck n n aA:Nat):Int)):=by
 have ae:¬((1:Int)<0):=by omega
 unfold amW;simp only[ae,if_false];refine Prod.ext ?_ ?_
 .cases lo with
  |none=>rfl|some v=>exact Hv v n 0
 .cases aA with
  |none=>rfl|some v=>exact Hv v n n
def abM(i j:Nat):ama (i:Int) (j:Int) 1=j-i:=by
 unfold ama;have ae:(1:Int) > 0:=by omega
 simp only[ae,if_true,Int.ediv_one];split<;>omega
def NH{v:Value}{o:Option Int}{Q:Option Int->aj0->Prop}(p:anf v o)(h:Q o s):wpAny (model prog w) A (Builtin.Slice.slicePartIndex v) Q E s:=by
 cases p with
 |none=>exact slicePart_none h|int i t=>exact slicePart_int h
def NG{cq:Addr}{fh f7:Value}{lo aA:Option Int}{n:Nat}{Q:Int×Int×Nat->aj0->Prop}(az:s.heap.IsSliceOf cq fh f7 .none)(pl:anf fh lo)(pu:anf f7 aA)
  (h:Q (((ck n 0 lo:Nat):Int),1,ck n n aA-ck n 0 lo) s):wpAny (model prog w) A (an9 (.ref cq) (pure (n:Int))) Q E s:=by
 obtain⟨os,qr,x9,nM⟩:=id az;unfold an9 Builtin.Slice.sliceFields;refine ajX (ajX (akV qr nM (x:=fh) rfl (ajX (akV qr nM (x:=f7) rfl (ajX (akV qr nM (x:=.none) rfl (aj4 ?_)))))));refine ajX (slicePart_none ?_);show wpAny _ _ (if((1:Int)==0)=true then _ else _) _ _ s;rw[if_neg (by decide)];refine ajX (NH pl (ajX (NH pu (ajX (aj4 ?_)))));show wpAny _ _ (match amW lo aA 1 (n:Int)with|(lo,aA)=>pure (lo,(1:Int),ama lo aA 1)) _ _ s;rw[Pp lo aA n];show wpAny _ _ (pure (((ck n 0 lo:Nat):Int),(1:Int),ama ((ck n 0 lo:Nat):Int) ((ck n n aA:Nat):Int) 1)) _ _ s;rw[abM];exact aj4 h
def abJ(xs:Array Value)(i k:Nat):((akU k).filterMap λ(m:Nat)=>xs[((i:Int)+(m:Int)*1).toNat]?).toArray=((xs.toList.drop i).take k).toArray:=by
 have e:(λ(m:Nat)=>xs[((i:Int)+(m:Int)*1).toNat]?)=λm=>xs[i+m]?:=by
  funext m
  have:((i:Int)+(m:Int)*1).toNat=i+m:=by omega
  rw[this]
 rw[e];have:=pick_run xs i k;rw[List.filterMap_map]at this;have aG:((λx=>xs[x]?)∘λx=>i+x)=λm=>xs[i+m]?:=rfl
 rw[aG]at this;rw[this]
def Vn{t cq:Addr}{items:Array Value}{fh f7:Value}{lo aA:Option Int}{Q:b'}(bC:IsTup s.heap t items)(az:s.heap.IsSliceOf cq fh f7 .none)(pl:anf fh lo)(pu:anf f7 aA)
  (hw:¬(ck items.size 0 lo=0/\ck items.size items.size aA=items.size))
  (h:Q (.ref s.heap.objs.size) { s with heap:=s.heap.push { cls:=.type "tuple",data:=.seq ((items.toList.drop (ck items.size 0 lo)).take (ck items.size items.size aA-ck items.size 0 lo)).toArray } })
  (hsz:items.size<=aj6):wpAny (model prog w) A (am8 (.ref t) (.ref cq)) Q E s:=by
 have yl:sizeOk (.seq ((items.toList.drop (ck items.size 0 lo)).take (ck items.size items.size aA-ck items.size 0 lo)).toArray):=by
  show((items.toList.drop (ck items.size 0 lo)).take (ck items.size items.size aA-ck items.size 0 lo)).toArray.size<=aj6;rw[akd,amh,akY,akN];omega
 have aR:ck items.size items.size aA<=items.size:=acA _ _ (aj8 _) aA;obtain⟨os,qr,x9,nM⟩:=id az;have BS:s.TypeIs (.ref cq) "slice":=⟨os,qr,x9⟩;unfold am8
 try with_reducible refine al5 ?_
 first|refine ajX (aj4 ?_)|skip
 refine ajX (wpAny_sequenceKey bC.typeIs (by decide) ?_);refine ajX (alD (name:=akj "__getitem__") bC.typeIs ak9
  (ami ak9 bC.typeIs entry_tuple_getitem ?_ (args_tuple_getitem _ _)))
 show wpAny _ _ (aoa (.ref t) >>= _) _ _ s;refine ajX (tupleItemsOf_ bC ?_);refine ajX (wpAny_typeOf BS ?_);rw[if_pos (by decide)];refine ajX (NG az pl pu ?_);have XT:¬((((ck items.size 0 lo:Nat):Int)==0&&(1:Int)==1&&(ck items.size items.size aA-ck items.size 0 lo)==items.size)=true):=by
  intro q;rw[akw,akw]at q;have bp:((ck items.size 0 lo:Nat):Int)=0:=eq_of_beq q.1.1;have b2:ck items.size items.size aA-ck items.size 0 lo=items.size:=eq_of_beq q.2;exact hw ⟨by omega,by omega⟩
 show wpAny _ _ (if(((ck items.size 0 lo:Nat):Int)==0&&(1:Int)==1&&(ck items.size items.size aA-ck items.size 0 lo)==items.size)=true then _ else _) _ _ s;rw[if_neg XT,abJ]
 first
  |exact ajX (m:=amj _) (alF (aj4 ⟨_,rfl,aj4 h⟩) yl)
  |exact ajX (m:=amj _) (alF (ajX (aj4 (aj4 ⟨_,rfl,aj4 h⟩))) yl)
  |exact ajX (ajX (m:=amj _) (alF (aj4 (aj4 ⟨_,rfl,aj4 h⟩)) yl))
  |exact ajX (ajX (m:=amj _) (alF (aj4 ⟨_,rfl,aj4 h⟩) yl))
end
end da
namespace ax
open PySem PySem.Spec PyProof.Rows
abbrev dF:=St->ah->(Option Int->ah->Prop)->Prop
def tT(X:aJ)(e:Option Expr)(t:dF):Prop:=
 ∀(zn:cC)(s:aj0)(Y:St)(H:ah)(Q:Option Int->ah->Prop),Inv X zn Y H s->t Y H Q->
  wpAny (model X.prog X.w) X.A (evalPart e X.env) (λu s'=>∃o H',Inv X zn Y H' s'/\anf u o/\Q o H') X.cL s
def aeK:dF:=λ_ H Q=>Q none H
def aeO(t:TE):dF:=λY H Q=>t Y H λx H1=>∃i,x=.int i/\Q (some i) H1
def intsAre_of{ns:List Int}:∀{us:List Value},Vals (ns.map V.int) us->ali us ns:=by
 induction ns with
 |nil=>intro us r;rw[aoC]at r;cases r;exact .nil
 |cons n ns aZ=>
  intro us r;rw[akb]at r
  cases r with
  |cons bF b5=>
   obtain⟨t,e⟩:=bF;subst e;exact .cons n t (aZ b5)
section
variable{X:aJ}{e:Expr}{te:TE}{lo aA:Option Expr}{iz zI:dF}{pos cy:Pos}
def abN:tT X none aeK:=by
 intro zn s Y H Q I h;rw[evalPart_none];exact aj4 ⟨none,H,I,.none,h⟩
def abO(h:bM X e te):tT X (some e) (aeO te):=by
 intro zn s Y H Q I hw;rw[evalPart_some];refine bN (h zn s Y H _ I hw) λu s1 aO=>?_
 obtain⟨x,H1,aV,bF,bp⟩:=aO;obtain⟨i,rfl,q⟩:=bp;obtain⟨t,rfl⟩:=bF;exact⟨some i,H1,aV,.int i t,q⟩
def nj(X:aJ)(r:V->Option Int->Option Int->ah->cD->Prop):Prop:=
 ∀(zn:cC)(s:aj0)(Y:St)(H:ah)(x:V)(v fh f7:Value)(lo aA:Option Int)(cq:Addr)(Q:cD),Inv X zn Y H s->RelV x v->s.heap.IsSliceOf cq fh f7 .none->anf fh lo->anf f7 aA->r x lo aA H Q->
  ∃T id,typeLookup (.type T) "__getitem__"=pure (some (.builtin id))/\s.TypeIs v T/\wpAny (model X.prog X.w) X.A (am8 v (.ref cq)) (gq X zn Y Q) X.cL s
def nj.or{r bH:V->Option Int->Option Int->ah->cD->Prop}(h:nj X r)(h':nj X bH):nj X (λx lo aA H Q=>r x lo aA H Q\/bH x lo aA H Q):=by
 intro zn s Y H x v fh f7 lo aA cq Q I aU az pl pu q;rcases q with q|q
 .exact h zn s Y H x v fh f7 lo aA cq Q I aU az pl pu q
 .exact h' zn s Y H x v fh f7 lo aA cq Q I aU az pl pu q
def aeR(r:V->Option Int->Option Int->ah->cD->Prop)(te:TE)(iz zI:dF):TE:=λY H Q=>te Y H λx H1=>iz Y H1 λl aK=>zI Y aK λu cI=>r x l u cI Q
def LB{r:V->Option Int->Option Int->ah->cD->Prop}(aD:nj X r)(he:bM X e te)(hl:tT X lo iz)(cp:tT X aA zI):bM X (.Subscript e (.Slice lo aA none cy) pos) (aeR r te iz zI):=by
 intro zn s Y H Q I h;refine Subscript_ (bN (he zn s Y H _ I h) λv s1 aO=>?_);obtain⟨x,H1,aV,bF,bp⟩:=aO;refine wpAny_Slice (bN (hl zn s1 Y H1 _ aV bp) λfh s2 ⟨l,aK,bS,pl,b2⟩=>bN (cp zn s2 Y aK _ bS b2) λf7 s3 aO=>?_);obtain⟨u,cI,dr,pu,gG⟩:=aO;rw[evalPart_none];refine aj4 ?_;have gv:Inv X zn Y cI { s3 with heap:=s3.heap.push { cls:=.type "slice",data:=.fields #[fh,f7,.none] } }:=dr.kept (t':=s3.toks) λb bh q=>ajZ _ q
 obtain⟨T,id,eA,bC,a3⟩:=aD zn { s3 with heap:=s3.heap.push { cls:=.type "slice",data:=.fields #[fh,f7,.none] } } Y cI x v fh f7 l u s3.heap.objs.size Q gv bF (apn ..) pl pu gG;show wpAny (model X.prog X.w) X.A (aob e (.Slice lo aA none cy) v (.ref s3.heap.objs.size)) (gq X zn Y Q) X.cL { s3 with heap:=s3.heap.push { cls:=.type "slice",data:=.fields #[fh,f7,.none] } };exact tail_any (ops:=[.ref s3.heap.objs.size,v]) bC eA a3 (by with_unfolding_all rfl)
def oT(xs:List V)(lo aA:Option Int):List V:=(xs.drop (da.ck xs.length 0 lo)).take (da.ck xs.length xs.length aA-da.ck xs.length 0 lo)
def HF(xs:List V)(lo aA:Option Int):(oT xs lo aA).length<=xs.length:=by
 unfold oT;rw[amh,akY];omega
def ab8(K:aM):V->Option Int->Option Int->ah->cD->Prop:=λx lo aA H Q=>∃a xs,x=.ref a/\dj K H a xs/\
 ¬(da.ck xs.length 0 lo=0/\da.ck xs.length xs.length aA=xs.length)/\∀p,H p=none->Q (.ref p) (upd H p (.tup (oT xs lo aA)))
theorem ad6:nj X (ab8 X.K):=by
 intro zn s Y H x v fh f7 lo aA cq Q I aU az pl pu h;obtain⟨a,xs,rfl,ai,hw,q⟩:=h;cases aU;obtain⟨its,r,bC,hz⟩:=I.tuple ai;have hlen:its.toArray.size=xs.length:=by rw[akd];exact r.length.symm
 refine⟨"tuple",_,ak9.lookup,bC.typeIs,?_⟩;refine da.Vn bC az pl pu (by rw[hlen];exact hw) ?_ (by rw[hlen];exact hz);rw[hlen];refine⟨.ref s.heap.objs.size,_,I.laid (t':=s.toks) (o:=.tup (oT xs lo aA)) (λb bh q=>ajZ _ q) (aj8 _) ?_,rfl,q _ (I.bA.fresh (aj8 _))⟩;exact⟨akS (HF xs lo aA) hz,_,(r.drop (da.ck xs.length 0 lo)).take (da.ck xs.length xs.length aA-da.ck xs.length 0 lo),IsTup.new _ _⟩
end
def qv(n:Nat)(i:Int):Option Nat:=if 0<=i then(if i<n then some i.toNat else none)else if -(n:Int)<=i then some (i+n).toNat else none
def eK{α:Type}(xs:List α)(i:Int):Option α:=(qv xs.length i).bind λj=>xs[j]?
def YM{i:Int}(h:qv n i=some j):seqIndex? i n=some j/\j<n/\-(n:Int)<=i/\i<n:=by
 unfold qv at h
 by_cases h0:0<=i
 .rw[if_pos h0]at h
  by_cases ae:i<n
  .rw[if_pos ae]at h
   have e:i.toNat=j:=aky h;exact⟨by rw[seqIndex_of h0 ae,e],by omega,by omega,ae⟩
  .rw[if_neg ae]at h;cases h
 .rw[if_neg h0]at h
  by_cases ae:-(n:Int)<=i
  .rw[if_pos ae]at h
   have e:(i+n).toNat=j:=aky h;exact⟨by rw[seqIndex_neg (by omega) ae,e],by omega,ae,by omega⟩
  .rw[if_neg ae]at h;cases h
def xc{α:Type}{xs:List α}{i:Int}{v:α}(h:eK xs i=some v):∃j,seqIndex? i xs.length=some j/\xs[j]? = some v/\j<xs.length/\-(xs.length:Int)<=i/\i<xs.length:=by
 unfold eK at h
 cases e:qv xs.length i with
 |none=>rw[e]at h;cases h
 |some j=>
  rw[e]at h;obtain⟨ae,ag,bO,cO⟩:=YM e;exact⟨j,ae,h,ag,bO,cO⟩
def PA{α:Type}{xs:List α}{j:Nat}{v:α}(h:xs[j]? = some v):eK xs (j:Int)=some v:=by
 have aR:j<xs.length:=(aj1.mp h).1;have e:qv xs.length (j:Int)=some j:=by
  unfold qv;rw[if_pos (by omega),if_pos (by omega)];simp
 unfold eK;rw[e];exact h
def FC(b:Expr):Prop:=∀o i,ao3 b false o i=operate [o,i] (am8 o i)
def l9(X:aJ)(r:eR):Prop:=
 ∀(value slice:Expr)(zn:cC)(s:aj0)(Y:St)(H:ah)(x y:V)(v u:Value)(Q:cD),Inv X zn Y H s->RelV x v->RelV y u->r x y H Q->
  ao3 slice false v u=operate [v,u] (am8 v u)->wpAny (model X.prog X.w) X.A (aob value slice v u) (gq X zn Y Q) X.cL s
def w0(X:aJ)(id:String)(r:V->List V->ah->cD->Prop):Prop:=
 ∀(zn:cC)(s:aj0)(Y:St)(H:ah)(x:V)(xs:List V)(v:Value)(us:List Value)(Q:cD),Inv X zn Y H s->RelV x v->Vals xs us->r x xs H Q->
  wpAny (model X.prog X.w) X.A (call (.builtin id) (v::us)) (gq X zn Y Q) X.cL s
section
variable{X:aJ}{a b:Expr}{bR cS:TE}{pos:Pos}
def l9.or{r bH:eR}(h:l9 X r)(h':l9 X bH):l9 X (λx y H Q=>r x y H Q\/bH x y H Q):=by
 intro value slice zn s Y H x y v u Q I aU bz q az;rcases q with q|q
 .exact h value slice zn s Y H x y v u Q I aU bz q az
 .exact h' value slice zn s Y H x y v u Q I aU bz q az
def abt{r:eR}(aD:l9 X r)(ao:bM X a bR)(aa:bM X b cS)(az:FC b):bM X (.Subscript a b pos) (tf r bR cS):=by
 intro zn s Y H Q I h;exact Subscript_ (AP ao aa I h λv u s2 x y aK bS aU bz q=>aD a b zn s2 Y aK x y v u Q bS aU bz q (az _ _))
def L1(K:aM):eR:=λx y H Q=>∃p xs i v,x=.ref p/\y=.int i/\du K H p xs/\eK xs i=some v/\Q v H
def L3(K:aM):eR:=λx y H Q=>∃p xs i v,x=.ref p/\y=.int i/\dj K H p xs/\eK xs i=some v/\Q v H
def L2:eR:=λx y H Q=>∃z i c,x=.str z/\y=.int i/\z.length<=aj6/\eK z.cps.toList i=some c/\Q (.str ⟨#[c]⟩) H
def YN:l9 X (L1 X.K):=by
 intro value slice zn s Y H x y v u Q I aU bz h az;obtain⟨p,xs,i,z,rfl,rfl,a6,he,q⟩:=h;cases aU;obtain⟨t,rfl⟩:=bz;obtain⟨its,r,pl,hz⟩:=I.list a6;obtain⟨j,ae,ag,bO,cO,dV⟩:=xc he;obtain⟨w,qb,iw⟩:=r.get ag;have hl:=r.length;have aF:=vb;have fin:gq X zn Y Q w s:=⟨z,H,I,iw,q⟩
 by_cases h0:0<=i
 .have aR:i.toNat=j:=by
   rw[seqIndex_of h0 dV]at ae;exact aky ae
  exact item_listR pl.isList h0 (by omega) (by rw[aR];simpa using qb) fin az
 .have aR:(i+(its.toArray.size:Int)).toNat=j:=by
   rw[seqIndex_neg (by omega) cO]at ae;rw[akd,<-hl];exact aky ae
  exact subscriptTail_builtinR (x:=w) pl.isList.typeIs aok.lookup
   (wpAny_getItem_list_neg (Q:=λr s'=>r=w/\gq X zn Y Q r s') pl.isList (by omega) (by rw[akd]<;>omega) (by omega) (by rw[aR];simpa using qb) ⟨rfl,fin⟩) az
def YP:l9 X (L3 X.K):=by
 intro value slice zn s Y H x y v u Q I aU bz h az;obtain⟨p,xs,i,z,rfl,rfl,a6,he,q⟩:=h;cases aU;obtain⟨t,rfl⟩:=bz;obtain⟨its,r,pl,hz⟩:=I.tuple a6;obtain⟨j,ae,ag,bO,cO,dV⟩:=xc he;obtain⟨w,qb,iw⟩:=r.get ag;have hl:=r.length;have aF:=vb;have fin:gq X zn Y Q w s:=⟨z,H,I,iw,q⟩;exact subscriptTail_builtinR (x:=w) pl.typeIs slot_tuple_getitem.lookup
  (getItem_tuple (j:=j) (Q:=λr s'=>r=w/\gq X zn Y Q r s') pl (by omega) (by omega) (by rw[akd,<-hl];exact ae) (by simpa using qb) ⟨rfl,fin⟩) az
def YO:l9 X L2:=by
 intro value slice zn s Y H x y v u Q I aU bz h az;obtain⟨z,i,c,rfl,rfl,hz,he,q⟩:=h;obtain⟨t,rfl⟩:=aU;obtain⟨t',rfl⟩:=bz;obtain⟨j,ae,ag,bO,cO,dV⟩:=xc he;have hl:z.cps.toList.length=z.length:=by simp[Str.length]
 rw[hl]at ae cO dV;have aF:=vb;exact tail_any (typeIs_str s z t) slot_str_getitem.lookup (getItem_str (c:=c) (by
  have aw:decide (i < -(2 ^ 63:Int))=false:=decide_eq_false (by omega);have aG:decide (i≥2 ^ 63)=false:=decide_eq_false (by omega);rw[aw,aG,Bool.or_false]) (by rw[ae];simpa using ag) ⟨.str ⟨#[c]⟩,H,I.tok _,⟨_,rfl⟩,q⟩) az
def L0(K:aM):eR:=λx y H Q=>L1 K x y H Q\/L3 K x y H Q\/L2 x y H Q
def hA:l9 X (L0 X.K):=YN.or (YP.or YO)
def NI(lo aA:Option Int)(n:Nat):(alJ lo aA none n).1=((da.ck n 0 lo:Nat):Int)/\(alJ lo aA none n).2.1=((da.ck n n aA:Nat):Int)/\(alJ lo aA none n).2.2=1:=by
 refine⟨?_,?_,rfl⟩
 .cases lo with
  |none=>simp[alJ,da.ck]|some i=>
   simp only[alJ,da.ck,Option.getD_none,show(1:Int) > 0 by decide,if_true]
   by_cases h:i<0
   .simp only[h,if_true]<;>omega
   .simp only[h,if_false]<;>omega
 .cases aA with
  |none=>simp[alJ,da.ck]|some i=>
   simp only[alJ,da.ck,Option.getD_none,show(1:Int) > 0 by decide,if_true]
   by_cases h:i<0
   .simp only[h,if_true]<;>omega
   .simp only[h,if_false]<;>omega
def ad8(its:List Value)(lo aA:Option Int):slicePick its.toArray lo aA none=((its.drop (da.ck its.length 0 lo)).take (da.ck its.length its.length aA-da.ck its.length 0 lo)).toArray:=by
 obtain⟨ae,ag,bO⟩:=NI lo aA its.toArray.size;unfold slicePick;rw[ae,ag,bO];simp only[sliceRange_one,pick_run,akd]<;>rfl
def ab7(K:aM):V->Option Int->Option Int->ah->cD->Prop:=λx lo aA H Q=>∃a xs,x=.ref a/\du K H a xs/\∀p,H p=none->Q (.ref p) (upd H p (.lst (oT xs lo aA)))
theorem ajN:nj X (ab7 X.K):=by
 intro zn s Y H x v fh f7 lo aA cq Q I aU az pl pu h;obtain⟨a,xs,rfl,ai,q⟩:=h;cases aU;obtain⟨its,r,bC,hz⟩:=I.list ai;have hlen:=r.length;refine⟨"list",_,aok.lookup,bC.isList.typeIs,?_⟩;refine wpAny_getItem_list_slice bC.isList az pl pu .none (by simp) ?_ (by rw[akd]<;>omega);rw[ad8,<-hlen];refine⟨.ref s.heap.objs.size,_,I.laid (t':=s.toks) (o:=.lst (oT xs lo aA)) (λb bh q=>ajZ _ q) (aj8 _) ?_,rfl,q _ (I.bA.fresh (aj8 _))⟩;exact⟨akS (HF xs lo aA) hz,_,0,(r.drop (da.ck xs.length 0 lo)).take (da.ck xs.length xs.length aA-da.ck xs.length 0 lo),akc _ rfl⟩
def mu:V->Bool
 |.aN=>true|.au _=>true|.int _=>true|.str _=>true|_=>false
def mr:V->V->Bool
 |.aN,.aN=>true|.au a,.au b=>a==b|.au a,.int b=>(if a then 1 else 0)==b|.int a,.au b=>a==(if b then 1 else 0)|.int a,.int b=>a==b|.str a,.str b=>a==b|_,_=>false
theorem UY{u v:Value}(bz:RelV y u)(aU:RelV x v)(Vi:mu y=true)(mw:mu x=true):SeqAt.EqAt A s u v (mr y x):=by
 cases y with
 |aN=>
  cases bz
  cases x with
  |aN=>cases aU;exact SeqAt.EqAt.same _
  |au b=>cases aU;exact SeqAt.EqAt.none_bool b
  |int b=>obtain⟨t,rfl⟩:=aU;exact SeqAt.EqAt.none_int b t
  |str b=>obtain⟨t,rfl⟩:=aU;exact SeqAt.EqAt.none_str b t
  |_=>exact absurd (show false=true from mw) aj7
 |au a=>
  cases bz
  cases x with
  |aN=>cases aU;exact SeqAt.EqAt.bool_none a
  |au b=>cases aU;exact SeqAt.EqAt.bool_bool a b
  |int b=>obtain⟨t,rfl⟩:=aU;exact SeqAt.EqAt.bool_int a b t
  |str b=>obtain⟨t,rfl⟩:=aU;exact SeqAt.EqAt.bool_str a b t
  |_=>exact absurd (show false=true from mw) aj7
 |int a=>
  obtain⟨t',rfl⟩:=bz
  cases x with
  |aN=>cases aU;exact SeqAt.EqAt.int_none a t'
  |au b=>cases aU;exact SeqAt.EqAt.int_bool a t' b
  |int b=>obtain⟨t,rfl⟩:=aU;exact apm a t' b t
  |str b=>obtain⟨t,rfl⟩:=aU;exact apj a t' b t
  |_=>exact absurd (show false=true from mw) aj7
 |str a=>
  obtain⟨t',rfl⟩:=bz
  cases x with
  |aN=>cases aU;exact SeqAt.EqAt.str_none a t'
  |au b=>cases aU;exact SeqAt.EqAt.str_bool a t' b
  |int b=>obtain⟨t,rfl⟩:=aU;exact apk a t' b t
  |str b=>obtain⟨t,rfl⟩:=aU;exact SeqAt.EqAt.str_str a t' b t
  |_=>exact absurd (show false=true from mw) aj7
 |_=>exact absurd (show false=true from Vi) aj7
def nD(x:V)(u:Value):Bool:=match u with
 |.none=>mr .aN x|.bool b=>mr (.au b) x|.int i _=>mr (.int i) x|.str z _=>mr (.str z) x|_=>false
theorem H3(r:RelV y u)(f:mu y=true):nD x u=mr y x:=by
 cases y with
 |aN=>cases r;rfl
 |au b=>cases r;rfl
 |int i=>obtain⟨t,rfl⟩:=r;rfl
 |str z=>obtain⟨t,rfl⟩:=r;rfl
 |_=>exact absurd (show false=true from f) aj7
theorem Ao:∀{xs:List V}{us:List Value},Vals xs us->xs.all mu=true->us.any (nD x)=xs.any λy=>mr y x
 |_,_,.nil,_=>rfl|y::xs,u::us,.cons r t,f=>by
  rw[al6,akw]at f;rw[alK,alK,H3 r f.1,Ao t f.2]
theorem Dh{v:Value}(aU:RelV x v)(mw:mu x=true):∀{xs:List V}{us:List Value},Vals xs us->xs.all mu=true->∀u∈us,SeqAt.EqAt A s u v (nD x u)
 |_,_,.nil,_=>λu cp=>by cases cp
 |y::xs,u::us,.cons r t,f=>λu' cp=>by
  rw[al6,akw]at f;rcases aj5.mp cp with rfl|cp
  .rw[H3 r f.1];exact UY r aU f.1 mw
  .exact Dh aU mw t f.2 u' cp
def Cn(x:V)(xs:List V):Bool:=xs.any λy=>mr y x
def LX(K:aM)(neg:Bool):eR:=λx y H Q=>∃p xs,y=.ref p/\(du K H p xs\/dj K H p xs)/\mu x=true/\xs.all mu=true/\Q (.au (if neg then !Cn x xs else Cn x xs)) H
def Li:dN X (akG .In) (LX X.K false):=by
 intro zn s Y H x y v u Q I aU bz h;obtain⟨p,xs,rfl,a6,mw,fs,q⟩:=h;cases bz;rcases a6 with a6|a6
 .obtain⟨its,r,pl,hz⟩:=I.list a6
  refine SeqAt.in_listAt (nD x) pl.isList (λw hw=>Dh aU mw r fs w (by simpa using hw)) ⟨.au _,H,I,rfl,?_⟩;rw[show its.toArray.any (nD x)=its.any (nD x)by simp,Ao r fs];exact q
 .obtain⟨its,r,pl,hz⟩:=I.tuple a6
  refine SeqAt.in_tupleAt (nD x) pl (λw hw=>Dh aU mw r fs w (by simpa using hw)) ⟨.au _,H,I,rfl,?_⟩;rw[show its.toArray.any (nD x)=its.any (nD x)by simp,Ao r fs];exact q
def Ss:iD X (.builtin "len") (λxs H Q=>∃p ys,xs=[.ref p]/\(du X.K H p ys\/dj X.K H p ys)/\Q (.int ys.length) H):=by
 intro zn s Y H xs us Q I r h;obtain⟨p,ys,rfl,a6,q⟩:=h;obtain⟨u,rfl,aU⟩:=vals1 r;cases aU;have aF:=vb;rcases a6 with a6|a6
 .obtain⟨its,bH,pl,hz⟩:=I.list a6
  have hlen:=bH.length;exact Calls.call_len_list pl.isList (by simp only[akd]<;>omega) ⟨.int ys.length,H,I.tok _,⟨s.toks+1,by rw[akd,hlen]⟩,q⟩
 .obtain⟨its,bH,pl,hz⟩:=I.tuple a6
  have hlen:=bH.length;exact len_tuple pl (by simp only[akd]<;>omega) ⟨.int ys.length,H,I.tok _,⟨s.toks+1,by rw[akd,hlen]⟩,q⟩
def Su:iD X (.builtin "len") (λxs H Q=>∃z,xs=[.str z]/\z.length<=aj6/\Q (.int z.length) H):=by
 intro zn s Y H xs us Q I r h;obtain⟨z,rfl,hz,q⟩:=h;obtain⟨u,rfl,t,rfl⟩:=vals1 r;have aF:=vb;exact len_str (by omega) ⟨.int z.length,H,I.tok _,⟨_,rfl⟩,q⟩
theorem A0:iD X (.type "tuple") (λxs H Q=>∃p ys,xs=[.ref p]/\((du X.K H p ys/\∀l,H l=none->Q (.ref l) (upd H l (.tup ys)))\/(dj X.K H p ys/\Q (.ref p) H))):=by
 intro zn s Y H xs us Q I r h;obtain⟨p,ys,rfl,h⟩:=h;obtain⟨u,rfl,aU⟩:=vals1 r;cases aU;rcases h with⟨a6,q⟩|⟨a6,q⟩
 .obtain⟨its,bH,pl,hz⟩:=I.list a6
  have hlen:=bH.length;refine call_tuple_list pl.isList (λh' kp=>?_) (by simp only[akd]<;>omega);have aV:Inv X zn Y H { s with heap:=h' }:=I.kept (t':=s.toks) kp;have bS:Inv X zn Y (upd H h'.objs.size (.tup ys)) { s with heap:=h'.push { cls:=.type "tuple",data:=.seq its.toArray } }:=
   aV.laid (t':=s.toks) (λb o e=>ajZ _ e) (aj8 _) (show fL X.prog X.w _ _ _ (.tup ys)from⟨hz,its,bH,IsTup.new _ _⟩)
  exact⟨.ref h'.objs.size,_,bS,rfl,q _ (aV.bA.fresh (aj8 _))⟩
 .obtain⟨its,bH,pl,hz⟩:=I.tuple a6
  exact call_tuple_same pl ⟨.ref p,H,I,rfl,q⟩
def zL(K:aM)(T:String)(x:V)(H:ah):Prop:=match x with
 |.str _=>T="str"|.int _=>T="int"|.ref p=>(T="list"/\∃xs,du K H p xs)\/(T="tuple"/\∃o,K.lookup p=some o/\o.cls=.type "tuple"/\o.dict=none)\/
   (T="dict"/\((∃aC,H p=some (.hu aC))\/∃aC,H p=some (.gz aC)))\/(T="set"/\∃S n,H p=some (.set S n))
 |_=>False
def Oe{H:ah}{v:Value}(I:Inv X zn Y H s)(r:RelV x v)(ty:zL X.K T x H) :
  s.TypeIs v T/\∀a,v=.ref a->∃bh,s.heap.get? a=some bh/\bh.dict=none:=by
 cases x with
 |str z=>
  obtain⟨t,rfl⟩:=r;cases(show T="str" from ty);exact⟨typeIs_str s z t,λ_ e=>nomatch e⟩
 |int i=>
  obtain⟨t,rfl⟩:=r;cases(show T="int" from ty);exact⟨typeIs_int s i t,λ_ e=>nomatch e⟩
 |ref p=>
  cases r;rcases ty with⟨rfl,xs,a6⟩|⟨rfl,o,aB,hc,hd⟩|⟨rfl,aB⟩|⟨rfl,S,n,aB⟩
  .obtain⟨its,_,pl,_⟩:=I.list a6
   refine⟨pl.isList.typeIs,λa e=>?_⟩;cases e;obtain⟨o,n,e,c,hd,_⟩:=pl;exact⟨o,e,hd⟩
  .refine⟨⟨o,I.dW p o aB,hc⟩,λa e=>?_⟩
   cases e;exact⟨o,I.dW _ o aB,hd⟩
  .have z:∃o,s.heap.get? p=some o/\o.ExactDict:=by
    rcases aB with⟨aC,aB⟩|⟨aC,aB⟩
    .obtain⟨_,_,_,_,o,_,_,e,ex,_⟩:=I.bA p _ aB
     exact⟨o,e,ex⟩
    .obtain⟨_,_,_,_,o,_,_,e,ex,_⟩:=I.bA p _ aB
     exact⟨o,e,ex⟩
   obtain⟨o,e,ex⟩:=z;refine⟨⟨o,e,ex.1⟩,λa aG=>?_⟩;cases aG;exact⟨o,e,ex.2.1⟩
  .obtain⟨o,_,_,_,e,ex,_⟩:=I.bA p _ aB
   refine⟨⟨o,e,ex.1⟩,λa aG=>?_⟩;cases aG;exact⟨o,e,ex.2.1⟩
 |_=>exact akv ty
def aeu(K:aM)(T:String)(r:V->List V->ah->cD->Prop)(to:TE):TE:=λY H Q=>to Y H λx H1=>zL K T x H1/\r x [] H1 Q
def aet(K:aM)(T:String)(r:V->List V->ah->cD->Prop)(to:TE)(t:fj):TE:=λY H Q=>to Y H λx H1=>zL K T x H1/\t Y H1 λxs aK=>r x xs aK Q
variable{o e:Expr}{ay:List Expr}{to:TE}{t:fj}{name:Str}{apos cK:Pos}{T id:String}{r:V->List V->ah->cD->Prop}
def Lu(sS:PlainAttrs T)(slot:Slot T name id)(qt:typeOf (.builtin id)=pure (.type "method_descriptor"))(hm:w0 X id r)(aT:bM X o to)
  (k8:alz o name X.env (eval o X.env)=eval o X.env:=by rfl) (la:(apos.endLine==cK.line)=true:=by rfl):bM X (.Call (.Attribute o name apos) [] [] cK) (aeu X.K T r to):=by
 intro zn s Y H Q I h;refine wpAny_Call_method0_late k8 la (bN (aT zn s Y H _ I h) λv s1 aO=>?_);obtain⟨x,H1,aV,bF,ty,bp⟩:=aO;obtain⟨ae,ag⟩:=Oe aV bF ty;exact⟨T,id,sS,slot,qt,ae,ag,amy rfl (PySem.evalArgs_none (hm zn s1 Y H1 x [] v [] Q aV bF .nil bp))⟩
def Ls(sS:PlainAttrs T)(slot:Slot T name id)(qt:typeOf (.builtin id)=pure (.type "method_descriptor"))(hm:w0 X id r)(aT:bM X o to)(ao:gd X (e::ay) t)
  (k8:alz o name X.env (eval o X.env)=eval o X.env:=by rfl)
  (uO:((ako cK (ajY (e::ay) X.env)).all (λx=>!x.1)&&(alE cK (ak8 [] X.env)).all (λx=>x.1.isSome)
&&decide ((e::ay).length+([]:List am9).length+(if([]:List am9).isEmpty then 0 else 1)<30))=true:=by rfl)
  (la:(apos.endLine==cK.line)=true:=by rfl) (az:ajY (e::ay) X.env=(false,eval e X.env)::ajY ay X.env:=by rfl) (gW:(ako cK (ajY ay X.env)).any (·.1)=false:=by rfl) :
  bM X (.Call (.Attribute o name apos) (e::ay) [] cK) (aet X.K T r to t):=by
 intro zn s Y H Q I h;refine wpAny_Call_method_late k8 uO la rfl (bN (aT zn s Y H _ I h) λv s1 aO=>?_);obtain⟨x,H1,aV,bF,ty,bp⟩:=aO;obtain⟨ae,ag⟩:=Oe aV bF ty;refine⟨T,id,sS,slot,qt,ae,ag,?_⟩;have r8:=ao cK zn s1 Y H1 _ aV bp;rw[az]at r8 ⊢;refine amy (by show(false||(ako cK (ajY ay X.env)).any (·.1))=false;rw[gW]<;>rfl) (amM ?_);exact bN r8 λus s2 ⟨vs,aK,bS,b5,b2⟩=>hm zn s2 Y aK x vs v us Q bS bF b5 b2
end
def wZ(X:aJ)(id:String)(r:V->List V->ah->cD->Prop):Prop:=
 ∀(zn:cC)(s:aj0)(Y:St)(H:ah)(x:V)(xs:List V)(v:Value)(us:List Value)(Q:cD),Inv X zn Y H s->RelV x v->Vals xs us->r x xs H Q->
  wpAny (model X.prog X.w) X.A (call (.builtin id) (v::us)) (gq X zn Y Q) X.cL s
def Vals.one:∀{x:V}{us:List Value},Vals [x] us->∃u,us=[u]/\RelV x u
 |_,_,.cons r .nil=>⟨_,rfl,r⟩
section
variable{X:aJ}{zn:cC}{Y:St}{H:ah}{s:aj0}{l:Addr}{xs ys:List V}
def Inv.Kk{its its':List Value}{n:Nat}{f:Array Value->Array Value}{t':Nat}(I:Inv X zn Y H s)(dw:H l=some (.lst xs))
  (e:s.heap.get? l=some { cls:=.type "list",data:=.seq its.toArray n }) (hf:f its.toArray=its'.toArray) (bu:Vals ys its') (hz:ys.length<=aj6) :
  Inv X zn Y (upd H l (.lst ys)) { s with heap:=s.heap.update l (akC f),toks:=t' }:=by
 have q:=IsL.update e f;rw[hf]at q;refine I.write (x:=l) (e:=l) (by rw[dw];exact trivial) (.inl rfl) (λeL u aa cp=>(alX s.heap (akC f) (alR aa)).trans cp) ⟨_,q⟩ ?_;exact⟨hz,its',_,bu,q⟩
def Inv.Kg{t':Nat}(I:Inv X zn Y H s)(bu:Vals ys its)(hz:ys.length<=aj6) :
  Inv X zn Y (upd H s.heap.objs.size (.lst ys)) { s with heap:=s.heap.push { cls:=.type "list",data:=.seq its.toArray },toks:=t' }:=
 I.laid (λ_ _ q=>ajZ _ q) (aj8 _) ⟨hz,its,0,bu,akc _ rfl⟩
def Inv.fresh(I:Inv X zn Y H s):H s.heap.objs.size=none:=I.bA.fresh (aj8 _)
def Inv.vd(I:Inv X zn Y H s)(dw:H l=some (.lst xs)):xs.length<=aj6/\∃(its:List Value)(n:Nat),Vals xs its/\xs.length=its.length/\s.heap.get? l=some { cls:=.type "list",data:=.seq its.toArray n }:=by
 obtain⟨z,its,n,r,e⟩:=I.bA l _ dw;exact⟨z,its,n,r,r.length,e⟩
def aax(h:n<=aj6):am3 n=false:=by
 unfold am3;exact decide_eq_false (by omega)
end
section
variable{X:aJ}
def LU:V->List V->ah->cD->Prop:=λx vs H Q=>∃l xs y,x=.ref l/\vs=[y]/\H l=some (.lst xs)/\xs.length<aj6/\Q .aN (upd H l (.lst (xs++[y])))
def vu:wZ X "list.append" LU:=by
 intro zn s Y H x vs v us Q I aU bG h;obtain⟨l,xs,y,rfl,rfl,dw,hz,q⟩:=h;cases aU;obtain⟨u,rfl,ed⟩:=bG.one;obtain⟨z,its,n,r,hl,e⟩:=I.vd dw;refine call_meets F.slot_list_append ⟨_,e,rfl⟩ F.entry_list_append (F.args_list_append_2 _ _) (PySem.list_append l its.toArray n u (by rw[akd];omega)) ⟨e,?_⟩;refine⟨.aN,_,I.Kk (its':=its++[u]) dw e (by simp) (r.append (.cons ed .nil)) ?_,rfl,q⟩;rw[aj9,amH];omega
def LW:V->List V->ah->cD->Prop:=λx vs H Q=>∃l b xs zs,x=.ref l/\vs=[.ref b]/\H l=some (.lst xs)/\H b=some (.lst zs)/\xs.length+zs.length<=aj6/\Q .aN (upd H l (.lst (xs++zs)))
def Z':wZ X "list.extend" LW:=by
 intro zn s Y H x vs v us Q I aU bG h;obtain⟨l,b,xs,zs,rfl,rfl,dw,r9,hz,q⟩:=h;cases aU;obtain⟨u,rfl,ed⟩:=bG.one;cases ed;obtain⟨z,its,n,r,hl,e⟩:=I.vd dw;obtain⟨d7,lp,dG,b5,iS,aG⟩:=I.vd r9;have hsz:its.toArray.size+lp.toArray.size<=aj6:=by rw[akd,akd];omega
 have XN:¬(!its.toArray.isEmpty&&am3 (its.toArray.size+lp.toArray.size))=true:=by
  rw[aax hsz,Bool.and_false];exact aj7
 refine call_meets F.slot_list_extend ⟨_,e,rfl⟩ F.entry_list_extend (F.args_list_extend_2 _ _)
  (AutoSeq1.list_extend_list_list_0 l its.toArray n b lp.toArray dG XN (by rw[akd];omega) (by omega)) ⟨e,aG,?_⟩
 refine⟨.aN,_,I.Kk (its':=its++lp) dw e (by simp) (r.append b5) ?_,rfl,q⟩;rw[aj9];omega
def LV:eR:=λx y H Q=>∃l b xs zs,x=.ref l/\y=.ref b/\H l=some (.lst xs)/\H b=some (.lst zs)/\xs.length+zs.length<=aj6/\∀p,H p=none->Q (.ref p) (upd H p (.lst (xs++zs)))
def DL:dN X (alQ .Add) LV:=by
 intro zn s Y H x y v u Q I aU bz h;obtain⟨l,b,xs,zs,rfl,rfl,dw,r9,hz,q⟩:=h;cases aU;cases bz;obtain⟨z,its,n,r,hl,e⟩:=I.vd dw;obtain⟨d7,lp,dG,b5,iS,aG⟩:=I.vd r9;refine P.add_list e aG ?_ (by rw[akd,akd];omega);have fm:its.toArray++lp.toArray=(its++lp).toArray:=by simp
 rw[fm];exact⟨.ref _,_,I.Kg (t':=s.toks) (r.append b5) (by rw[aj9];omega),rfl,q _ I.fresh⟩
end
end ax
namespace Fi
open PySem PySem.W PySem.Calls PyProof.Rows
def Yv:∀(ns:List Int)(vs:List Value),WellAll P h vs (ns.map WData.int)->ali vs ns:=by
 intro ns
 induction ns with
 |nil=>
  intro vs w;rw[aoC]at w;cases w;exact .nil
 |cons n ns aZ=>
  intro vs w;rw[akb]at w
  cases w with
  |cons a b=>
   cases a;exact .cons _ _ (aZ _ b)
def ad0{l:OpenLaw}{n:Nat}(aF:l.most=some n){P:Params}{h:Heap}{args:List WData}{vals:List Value}
  (yj:l.row.toRowW.claim.pre args=true) (Cf:WellAll P h vals args) :
  ∃a vs ns,vals=[akl a]/\args=[WData.list (ns.map WData.int)]/\h.get? a=some { cls:=.type "list",data:=.seq vs.toArray }/\ali vs ns/\ns.length<=n:=by
 have yk:WShape.hasAll [] args [.list .int]=true:=(pre_splitW yj).1;have hc:l.pre.holds [] { args:=args }=true:=(pre_splitW yj).2;obtain⟨d,r,rfl,ae,ag⟩:=hasAllW_cons yk;obtain rfl:=hasAllW_nil ag;obtain⟨xs,rfl,bO⟩:=hasW_list ae;obtain⟨ns,rfl⟩:=items_int bO;have hlen:ns.length<=n:=by
  unfold OpenLaw.pre at hc;have cO:(WTm.not (.lt (.lit (.int (n:Int))) (.len (.arg 0)))).holds [] { args:=[.list (ns.map .int)] }=true:=by
   have cO:=(holds_andW hc).1;rw[aF]at cO;exact cO
  have dV:=condW_of cO (w_not (w_lt w_lit (w_len_list (w_arg rfl))));rw[aj2]at dV;refine Nat.le_of_not_lt λq=>?_
  have g5:(n:Int)<((ns.length:Nat):Int):=by omega
  first
   |(rw[decide_eq_true g5]at dV;exact absurd dV (by decide))
   |(simp at dV;omega)
 cases Cf with
 |cons oh lT=>
  cases lT
  cases oh with
  |list aT hall=>exact⟨_,_,ns,rfl,rfl,aT,Yv ns _ hall,hlen⟩
def abP(l:OpenLaw)(args:List WData):l.row.toRowW.claim.post args (.bool true) args=true:=
 postW_of (r:=l.row.toRowW) (X:=(true==true))
  (show WShape.has [] (.bool true) .bool=true by first|rfl|decide|simp[WShape.has,WShape.arms,WShape.armsAll])
  (show(WTm.eq .res (.lit (.bool true))).value [] { args:=args,res:=some (.bool true),after:=args }=some (.bool (true==true))from w_eq_bool (w_res rfl) w_lit) rfl
def PC{l:OpenLaw}{n:Nat}{q:aki}{loose:List Str}{w9:(Str->Option Value)->Heap->Prop}{tX:World->Heap->Prop}{d:DefRec}
  (aF:l.most=some n) (B0:d.params.defaults=[])
  (call:∀(w:World)(gk c_:aj0)(mg cE:a9)(dU:Addr)(o:Obj)(pm cd doc:Value)(a:Addr)(vs:List Value)(ns:List Int),
   Ground q loose [] w9 w gk mg cE c_.heap->tX w c_.heap->
   c_.heap.get? dU=some o->o.data=.func (docDef d.name d.params d.body d.scope pm cd doc)->c_.heap.CodeRec cd d.name->mg d.name=some (.ref dU)->
   c_.heap.get? a=some { cls:=.type "list",data:=.seq vs.toArray }->ali vs ns->ns.length<=n->c_.gens=#[]->
   amd (model l.prog w) aox (.call (.ref dU) ⟨[.ref a],[]⟩) (λr s'=>r=.ok (.ret (.bool true))/\OldK c_.heap s'.heap/\s'.os=c_.os/\amR s'.gens) c_) :
  WalkO q loose w9 tX l.row.toRowW d [] (λf vs=>PySem.call f vs):=by
 intro w gk c_ mg cE G σ dU o pm cd doc oV cv aT hd ew ip uR a3 args vals as yj ajh ajk Cf aji;obtain rfl:oV=.none:=Dflts.none ip B0;obtain rfl:cv=.none:=Dflts.noKw ip;obtain⟨a,vs,ns,rfl,rfl,B_,hints,hlen⟩:=ad0 aF yj Cf;refine enter_call (amg (call w gk c_ mg cE dU o pm cd doc a vs ns G σ aT (fd_plain hd) ew uR B_ hints hlen a3) λr s' a6=>?_);obtain⟨rfl,ag,bO,cO⟩:=a6;exact⟨.inl ⟨.bool true,.bool true,[],rfl,λ_=>rfl,.bool true,abP l _,λ_=>⟨aol,λ_ hm=>(nomatch hm)⟩⟩,ag,bO,cO⟩
end Fi
namespace ax
open PySem PySem.Spec PyProof.Rows
theorem Oj:∀{vs:List Value}{ns:List Int},ali vs ns->Vals (ns.map V.int) vs
 |_,_,.nil=>.nil|_,_,.cons n t h=>.cons ⟨t,rfl⟩ (Oj h)
abbrev dt{K:aM}{h:Heap}(_:K.In h):aM:=K
def inClass(s:Stmt)(j:Nat):Stmt:=match s with
 |.ClassDef _ _ _ body _ _ _ _ _ _ _=>body.getD j (.Pass ⟨0,0,0,0⟩)|_=>.Pass ⟨0,0,0,0⟩
def hv(s:Stmt):am2:=match s with
 |.FunctionDef _ a _ _ _ _ _ _ _ _=>a|_=>{ posonlyargs:=[],args:=[],vararg:=none,kwonlyargs:=[],kw_defaults:=[],kwarg:=none,defaults:=[] }
def eU(s:Stmt):List Stmt:=match s with
 |.FunctionDef _ _ b _ _ _ _ _ _ _=>b|_=>[]
def bk(s:Stmt):Scope:=match s with
 |.FunctionDef _ _ _ _ _ _ sc _ _ _=>sc|_=>{ kind:=.function,names:=[],isGenerator:=false,isCoroutine:=false }
abbrev eh:kI:=λ_ _ _ _ _ _=>False
abbrev hU:eS:=λ_ _ _=>False
def sT:Passes eh X hU:=λ_ _ _ _ _ _ _ h=>h.elim
structure j3(K:aM)(x qual:Str)(st:Stmt)(f:Addr)(fd:ak4):Prop where
 ex:∃(cw:Value)(cT:Option Addr)(cv doc pm:Value)(an:Option Addr)(bc cb:Value)(eP:Array (Option Value)),
  fd=alM x qual (hv st) (eU st) (bk st) .none cv doc pm an bc cb/\K.lookup f=some ⟨cw,cT,.func fd,eP⟩/\anR K bc qual=true
 kp:alW K (.ref f)=true
section
variable{P:aki}{w:World}{K:aM}{mg:a9}{base:Heap}
def j3.ok{x qual:Str}{st:Stmt}{f:Addr}{fd:ak4}{N ps:List Str}{k:Nat}{sp:dP}(F:j3 K x qual st f fd)(S:bP N ps (bk st))(len:∀vs H Q E,sp vs H Q E->vs.length=ps.length)
  (uL:∀(bc:Value)(A:akm)(outer:List Env)(s:aj0)(H:ah)(vs:List V)(Q:cD)(E:eS),cg k (A.deeper (amG qual (bk st) s.heap.objs.size f bc))->sp vs H Q E->
   ∃t,gP (fl eh P w K mg base N qual (bk st) f bc A outer s H E).fZ (eU st) t/\t { bw:=λ_ H'=>Q .aN H',cP:=Q } (start N vs) H):ez P w K mg base eh (k+1) f fd ps sp:=by
 obtain⟨cw,cT,cv,doc,pm,an,bc,cb,eP,rfl,lk,ew⟩:=F.ex;refine xO lk ew S len λA outer s H vs Q E aD gA=>?_
 obtain⟨t,h,q⟩:=uL bc A outer s H vs Q E aD gA;exact⟨t,h.fZ,q⟩
def j3.binds{x qual:Str}{st:Stmt}{f:Addr}{fd:ak4}{ps:List Str}(F:j3 K x qual st f fd)
  (h:∀(cv doc pm:Value)(an:Option Addr)(bc cb:Value)(us:List Value),us.length=ps.length->amf (alM x qual (hv st) (eU st) (bk st) .none cv doc pm an bc cb) ⟨us,[]⟩=pure (ps.zip us)):Binds K fd ps []:=by
 obtain⟨cw,cT,cv,doc,pm,an,bc,cb,eP,rfl,lk,ew⟩:=F.ex;exact .all (h cv doc pm an bc cb)
def xT{x qual:Str}{st:Stmt}{f:Addr}{cw:Value}{cT an:Option Addr}{eP:Array (Option Value)}{cv doc pm bc cb:Value}(l:K.lookup f=some ⟨cw,cT,.func (alM x qual (hv st) (eU st) (bk st) .none cv doc pm an bc cb),eP⟩)
  (c:anR K bc qual=true) (k:alW K (.ref f)=true):j3 K x qual st f (alM x qual (hv st) (eU st) (bk st) .none cv doc pm an bc cb):=⟨⟨cw,cT,cv,doc,pm,an,bc,cb,eP,rfl,l,c⟩,k⟩
end
def f5(h:n<=1000):n<aj6:=Nat.lt_of_le_of_lt h (by decide)
def mH{A B:Prop}(h:B):if false=true then A else B:=by
 rw[if_neg aj7];exact h
def mI{A B:Prop}(h:A):if true=true then A else B:=by
 rw[if_pos rfl];exact h
end ax
set_option maxHeartbeats 4000000
namespace ax
open PySem PySem.Spec PyProof.Rows
section
variable{κ:Type}[DecidableEq κ]
def i4(aC:List (κ×V))(k:κ):Option V:=(aC.find? λkv=>decide (kv.1=k)).map (·.2)
def putK(aC:List (κ×V))(k:κ)(v:V):List (κ×V):=
 if(aC.any λkv=>decide (kv.1=k))=true then aC.map (λkv=>if kv.1=k then(kv.1,v)else kv)else aC++[(k,v)]
def EI{r:List (κ×V)}{k:κ}(e:p.1=k):i4 (p::r) k=some p.2:=by simp[i4,al2,e]
def EH{r:List (κ×V)}{k:κ}(e:¬p.1=k):i4 (p::r) k=i4 r k:=by simp[i4,al2,e]
theorem Oi(k:κ):∀aC:List (κ×V),(aC.any λkv=>decide (kv.1=k))=(i4 aC k).isSome
 |[]=>rfl|p::r=>by
  rw[alK]
  by_cases e:p.1=k
  .simp only[EI e,decide_eq_true e,Bool.true_or,Option.isSome_some]
  .rw[EH e,decide_eq_false e,Bool.false_or];exact Oi k r
def Kd(aC:List (κ×V))(k:κ)(v:V):(putK aC k v).length<=aC.length+1:=by
 unfold putK;split
 .rw[aj2];omega
 .rw[aj9,akn,alc];omega
def hI.YC{o:Option V}{u:Option Value}(r:hI o u):o.isSome=u.isSome:=by
 cases o with
 |none=>cases u with
  |none=>rfl|some _=>exact(show False from r).elim
 |some _=>cases u with
  |none=>exact(show False from r).elim|some _=>rfl
def hI.getD{o:Option V}{u:Option Value}(r:hI o u)(cR:RelV d d'):RelV (o.getD d) (u.getD d'):=by
 cases o with
 |none=>cases u with
  |none=>exact cR|some _=>exact(show False from r).elim
 |some _=>cases u with
  |none=>exact(show False from r).elim|some _=>exact r
def hq.val(r:hq aC vs)(k:κ):hI (i4 aC k) (aoy vs k):=by
 unfold hq at r
 induction r with
 |nil=>exact alB|@cons p q ps gH h t aZ=>
  obtain⟨ae,ag⟩:=h
  by_cases e:p.1=k
  .have bZ:q.1=k:=ae.symm.trans e
   have b:aoy (q::gH) k=some q.2:=by simp[aoy,al2,bZ]
   rw[EI e,b];exact ag
  .have bZ:¬q.1=k:=λz=>e (ae.trans z)
   have b:aoy (q::gH) k=aoy gH k:=by simp[aoy,al2,bZ]
   rw[EH e,b];exact aZ
def hq.any{aC:List (κ×V)}{vs:List (κ×Value)}(r:hq aC vs)(k:κ):(aC.any λkv=>decide (kv.1=k))=vs.any λkv=>decide (kv.1=k):=by
 unfold hq at r
 induction r with
 |nil=>rfl|cons h t aZ=>rw[alK,alK,aZ,h.1]
def hq.D'(r:hq aC vs)(k:κ)(bz:RelV y u) :
  hq (aC.map λkv=>if kv.1=k then(kv.1,y)else kv) (vs.map λkv=>if kv.1=k then(kv.1,u)else kv):=by
 unfold hq at r ⊢
 induction r with
 |nil=>exact .nil|@cons p q ps gH h t aZ=>
  rw[akb,akb];refine .cons ?_ aZ;obtain⟨ae,ag⟩:=h
  by_cases e:p.1=k
  .rw[if_pos e,if_pos (ae.symm.trans e)];exact⟨ae,bz⟩
  .rw[if_neg e,if_neg (λz=>e (ae.trans z))];exact⟨ae,ag⟩
def hq.put(r:hq aC vs)(k:κ)(bz:RelV y u):hq (putK aC k y) (stored vs k u):=by
 unfold putK stored;rw[r.any k]
 by_cases e:(vs.any λkv=>decide (kv.1=k))=true
 .rw[if_pos e,if_pos e];exact r.D' k bz
 .rw[if_neg e,if_neg e];exact Paired.snoc r ⟨rfl,bz⟩
def hq.length{aC:List (κ×V)}{vs:List (κ×Value)}(r:hq aC vs):aC.length=vs.length:=apf r
end
def yw{k:Key}(r:RelV (cv k) u):(iY P w).is k u=true:=by
 cases k with
 |inl i=>obtain⟨t,e⟩:=(show ∃t,u=anU i t from r);subst e;exact Z5 P w i t
 |inr x=>obtain⟨t,e⟩:=(show ∃t,u=anV x t from r);subst e;exact Z6 P w x t
theorem JG:∀{ks:List Key}{us:List Value},Vals (ks.map cv) us->ItemsAre (iY P w) ks us
 |[],_,r=>by rw[aoC]at r;cases r;exact .nil
 |k::ks,_,r=>by
  rw[akb]at r
  cases r with
  |cons h t=>exact .cons (yw h) (JG t)
abbrev KT(H:ah):List (List Key×V)->List (List Key×Addr×Value)->Prop:=anB λp q=>p.1=q.1/\H q.2.1=some (.tup (p.1.map cv))/\RelV p.2 q.2.2
def KT.val{H:ah}(r:KT H aC xs)(k:List Key):hI (i4 aC k) ((atKey xs k).map (·.2)):=by
 induction r with
 |nil=>exact alB|@cons p q ps gH h t aZ=>
  obtain⟨ae,_,ag⟩:=h
  by_cases e:p.1=k
  .have bZ:q.1=k:=ae.symm.trans e
   have b:atKey (q::gH) k=some q.2:=by simp[atKey,al2,bZ]
   rw[EI e,b];exact ag
  .have bZ:¬q.1=k:=λz=>e (ae.trans z)
   have b:atKey (q::gH) k=atKey gH k:=by simp[atKey,al2,bZ]
   rw[EH e,b];exact aZ
def KT.D'{H:ah}(r:KT H aC xs)(k:List Key)(bz:RelV y u) :
  KT H (aC.map λkv=>if kv.1=k then(kv.1,y)else kv) (xs.map (putAt k u)):=by
 induction r with
 |nil=>exact .nil|@cons p q ps gH h t aZ=>
  rw[akb,akb];refine .cons ?_ aZ;obtain⟨ae,ag,bO⟩:=h;unfold putAt
  by_cases e:p.1=k
  .rw[if_pos e,if_pos (ae.symm.trans e)];exact⟨ae,ag,bz⟩
  .rw[if_neg e,if_neg (λz=>e (ae.trans z))];exact⟨ae,ag,bO⟩
def KT.put{H:ah}(r:KT H aC xs)(k:List Key)(aa:H b=some (.tup (k.map cv)))(bz:RelV y u) :
  KT H (putK aC k y) (storedH xs k b u):=by
 have e:(aC.any λkv=>decide (kv.1=k))=(atKey xs k).isSome:=by
  rw[Oi,(r.val k).YC,Option.isSome_map]
 unfold putK storedH;rw[e]
 by_cases q:(atKey xs k).isSome=true
 .rw[if_pos q,if_pos q];exact r.D' k bz
 .rw[if_neg q,if_neg q];exact Paired.snoc r ⟨rfl,aa,bz⟩
def KT.keeps{H H':ah}(r:KT H aC xs)(bC:∀b ys,H b=some (.tup ys)->H' b=some (.tup ys)):KT H' aC xs:=
 anB.Dd r λ_ _ z=>⟨z.1,bC _ _ z.2.1,z.2.2⟩
section
variable{P:aki}{w:World}{H:ah}{h:Heap}{a:Addr}
def L5(ok:et P w H h)(e:fi H a u):fL P w H h a u:=e.ok ok
def ud{aC:List (Key×V)}(ok:et P w H h)(e:fi H a (.hu aC)):aC.length<=aj6/\(a==alO)=false/\∃vs,hq aC vs/\h.DictOf (iY P w) a vs:=
 show fL P w H h a (.hu aC)from L5 ok e
def UD{aC:List (Key×V)}(ok:et P w H h)(e:H a=some (.hu aC)):aC.length<=aj6/\(a==alO)=false/\∃vs,hq aC vs/\h.DictOf (iY P w) a vs:=ud ok (.inl e)
def yC{ks:List Key}(ok:et P w H h)(e:H a=some (.tup (ks.map cv))):(anW (iY P w)).is h ks a:=by
 obtain⟨_,its,r,o,ae,ag,n,bO⟩:=(show fL P w H h a (.tup (ks.map cv))from ok a _ e);exact⟨o,its.toArray,n,ae,ag,bO,by simpa using JG r⟩
def ug{aC:List (List Key×V)}(ok:et P w H h)(e:fi H a (.gz aC)):aC.length<=aj6/\(a==alO)=false/\
  ∃xs,KT H aC xs/\h.DictOfH (anW (iY P w)) a xs:=by
 obtain⟨z,y,xs,r,o,ay,cn,ae,ag,bO,cO,dV⟩:=(show fL P w H h a (.gz aC)from L5 ok e);refine⟨z,y,xs,r,o,ay,cn,ae,ag,bO,cO,λx ai=>?_,dV⟩;have all:∀{l:List (List Key×V)}{m:List (List Key×Addr×Value)},KT H l m->∀x∈m,(anW (iY P w)).is h x.1 x.2.1:=by
  intro l m q
  induction q with
  |nil=>intro x ai;exact nomatch ai
  |@cons p q ps gH a6 t aZ=>
   intro x ai;rcases aj5.mp ai with e|ai
   .subst e
    exact yC ok (by rw[<-a6.1];exact a6.2.1)
   .exact aZ x ai
 exact all r x ai
def UP{aC:List (List Key×V)}(ok:et P w H h)(e:H a=some (.gz aC)):aC.length<=aj6/\(a==alO)=false/\
  ∃xs,KT H aC xs/\h.DictOfH (anW (iY P w)) a xs:=ug ok (.inl e)
end
def j1(H:ah)(a:Addr)(y:V)(r:Option V):Prop:=
 (∃aC k,fi H a (.hu aC)/\y=cv k/\r=i4 aC k)\/∃aC k b,fi H a (.gz aC)/\y=.ref b/\H b=some (.tup (k.map cv))/\r=i4 aC k
def oz(H:ah)(a:Addr)(y v:V)(H':ah):Prop:=
 (∃aC k,H a=some (.hu aC)/\y=cv k/\aC.length<aj6/\H'=upd H a (.hu (putK aC k v)))\/
 ∃aC k b,H a=some (.gz aC)/\y=.ref b/\H b=some (.tup (k.map cv))/\aC.length<aj6/\H'=upd H a (.gz (putK aC k v))
def j1.k{H:ah}{k:Key}(e:H a=some (.hu aC)):j1 H a (cv k) (i4 aC k):=.inl ⟨aC,k,.inl e,rfl,rfl⟩
def j1.t{H:ah}{k:List Key}(e:H a=some (.gz aC))(dh:H b=some (.tup (k.map cv))):j1 H a (.ref b) (i4 aC k):=.inr ⟨aC,k,b,.inl e,rfl,dh,rfl⟩
def oz.k{H:ah}{aC:List (Key×V)}{k:Key}{v:V}(e:H a=some (.hu aC))(hl:aC.length<aj6):oz H a (cv k) v (upd H a (.hu (putK aC k v))):=.inl ⟨aC,k,e,rfl,hl,rfl⟩
def oz.t{H:ah}{aC:List (List Key×V)}{k:List Key}{v:V}(e:H a=some (.gz aC))(dh:H b=some (.tup (k.map cv)))(hl:aC.length<aj6) :
  oz H a (.ref b) v (upd H a (.gz (putK aC k v))):=.inr ⟨aC,k,b,e,rfl,dh,hl,rfl⟩
section
variable{X:aJ}{zn:cC}{Y:St}{H:ah}{s:aj0}{a:Addr}{y v:V}{u r:Value}{o:Option V}{A:akm}{E:b'}
def Inv.big(I:Inv X zn Y H s):alO<s.heap.objs.size:=by
 have h:akx<s.heap.objs.size:=(I.mod.glob.keeps I.d4).lt;exact Nat.lt_trans (by decide) h
theorem TK{Q:b'}(cp:A.units+1<cLine)(I:Inv X zn Y H s)(g:j1 H a y (some v))(bz:RelV y u)(h:∀eg s',Inv X zn Y H s'->RelV v eg->Q eg s') :
  wpAny (model X.prog X.w) A (am8 (.ref a) u) Q E s:=by
 rcases g with⟨aC,k,e,fb,l⟩|⟨aC,k,b,e,fb,dh,l⟩
 .subst fb
  obtain⟨z,hd,vs,rel,dd⟩:=ud I.bA e;obtain⟨eg,hw,iw⟩:=hI.some_of (v:=v) (o:=aoy vs k) (by rw[l];exact rel.val k);exact wpAny_getItem_of (yw bz) dd.mapOf hw (h eg _ (I.tok _) iw)
 .subst fb
  cases(show u=akl b from bz);obtain⟨z,hd,xs,rel,dd⟩:=ug I.bA e;obtain⟨eg,hw,iw⟩:=hI.some_of (v:=v) (o:=(atKey xs k).map (·.2)) (by rw[l];exact rel.val k);obtain⟨p,aL,yi⟩:=amz.mp hw;refine wpAny_getItem_heap (an0 cp) (yC I.bA dh) dd aL ?_;rw[yi];exact h eg _ (I.tok _) iw
def HN{h':Heap}{t':Nat}(I:Inv X zn Y H s)(jn:tR (H a))(az:amZ a s.heap h')(he:∃q,h'.get? a=some q)(new:fL X.prog X.w (upd H a bh) h' a bh) :
  Inv X zn Y (upd H a bh) { s with heap:=h',toks:=t' }:=
 I.write (x:=a) (e:=a) jn (.inl rfl) (λb q aa z=>(az.2 b aa).trans z) he new
def UC{H':ah}{aC:List (Key×V)}(z:aC.length<=aj6)(hd:(a==alO)=false)(rel:hq aC vs)(dd:h'.DictOf (iY P w) a vs) :
  fL P w H' h' a (.hu aC):=⟨z,hd,vs,rel,dd⟩
def Uo{Q:Unit->aj0->Prop}(cp:A.units+1<cLine)(I:Inv X zn Y H s)(g:oz H a y v H')(bz:RelV y u)(bG:RelV v r)(h:∀s',Inv X zn Y H' s'->Q () s') :
  wpAny (model X.prog X.w) A (setItem (.ref a) u r) Q E s:=by
 rcases g with⟨aC,k,e,fb,l,Bd⟩|⟨aC,k,b,e,fb,dh,l,Bd⟩
 .subst fb Bd
  obtain⟨z,hd,vs,rel,dd⟩:=UD I.bA e;have hz:vs.length<=aj6:=by rw[<-rel.length];exact z
  have hl:(putK aC k v).length<=aj6:=by have:=Kd aC k v;omega
  refine wpAny_setItem_pairs (hsz:=hz) (yw bz) dd λh' xA az=>h _ ?_
  have he:∃q,h'.get? a=some q:=let⟨q,_,_,a6,_⟩:=xA;⟨q,a6⟩
  exact HN I (by rw[e];exact alB) az he (UC hl hd (rel.put k bG) xA)
 .subst fb Bd
  cases(show u=akl b from bz);obtain⟨z,hd,xs,rel,dd⟩:=UP I.bA e;have hz:xs.length<=aj6:=by rw[<-apf rel];exact z
  have hl:(putK aC k v).length<=aj6:=by have:=Kd aC k v;omega
  refine wpAny_setItem_heap (hsz:=hz) (an0 cp) (yC I.bA dh) dd λh' xA az=>h _ ?_
  obtain⟨q,ay,cn,a6,ag,bO,cO,_,dV⟩:=xA;refine HN I (by rw[e];exact alB) az ⟨q,a6⟩ ⟨hl,hd,_,(rel.put k dh bG).keeps λc ys nB=>?_,q,ay,cn,a6,ag,bO,cO,dV⟩;rw[cG (Dk nB e (λz=>nomatch z))];exact nB
end
def tS(i:Expr):Prop:=∀cx pe,ao3 i false cx pe=operate [cx,pe] (am8 cx pe)
def NS{prog:aki}{w:World}{A:akm}{E:b'}{s:aj0}{env:Env}{value slice:Expr}{pos:Pos}{T id:String}{Q:b'}
  (hl:typeLookup (.type T) "__getitem__"=pure (some (.builtin id))) (az:tS slice)
  (h:wpAny (model prog w) A (eval value env) (λo c_=>wpAny (model prog w) A (eval slice env) (λi lO=>lO.TypeIs o T/\wpAny (model prog w) A (am8 o i) Q E lO) E c_) E s) :
  wpAny (model prog w) A (eval (.Subscript value slice pos) env) Q E s:=by
 refine Subscript_ (akB h (λo c_ fD=>akB fD (λi lO ll=>?_) λ_ _ x=>x) λ_ _ x=>x);obtain⟨eA,ll⟩:=ll;unfold aob;refine ajX ?_;rw[getitemInPython_of_ne eA.not_modules];refine ajX (wpAny_specialOf eA hl ?_);have fin:wpAny (model prog w) A (ao3 slice false o i) (λr jW=>wpAny (model prog w) A (letTemporaryGo value o r >>= λ_=>pure r) Q E jW) E lO:=by
  rw[az o i];exact wpAny_operating (akB ll (λr jW nQ=>ajX (wpAny_letTemporaryGo (aj4 nQ))) λ_ _ x=>x)
 first
  |exact aj4 (ajX fin)
  |exact ajX (aj4 (ajX fin))
  |exact ajX fin
def UA{H:ah}(I:Inv X zn Y H s)(g:j1 H a y o):s.TypeIs (.ref a) "dict":=by
 rcases g with⟨aC,k,e,_,_⟩|⟨aC,k,b,e,_,_,_⟩
 .obtain⟨_,_,vs,_,dd⟩:=ud I.bA e
  exact dd.typeIs
 .obtain⟨_,_,xs,_,dd⟩:=ug I.bA e
  exact dd.typeIs
def aew(jX ty:TE):TE:=λY H Q=>jX Y H λx H1=>ty Y H1 λy aK=>∃a v,x=.ref a/\j1 aK a y (some v)/\Q v aK
def acy(jX ty oc:TE):fz:=λD Y H=>oc Y H λv H1=>jX Y H1 λx aK=>ty Y aK λy cI=>∃a gu,x=.ref a/\oz cI a y v gu/\D.bw Y gu
section
variable{X:aJ}{o i value:Expr}{pos pos':Pos}{jX ty oc:TE}
def abm(cp:X.A.units+1<cLine)(aT:bM X o jX)(aA:bM X i ty)(az:tS i):bM X (.Subscript o i pos) (aew jX ty):=by
 intro zn s Y H Q I h;refine NS aoq.lookup az (bN (aT zn s Y H _ I h) λu s1 ⟨x,H1,aV,aU,bp⟩=>bN (aA zn s1 Y H1 _ aV bp) λpe s2 ⟨y,aK,bS,bz,a,v,ex,g,b2⟩=>?_);subst ex;obtain rfl:u=akl a:=aU;exact⟨UA bS g,TK cp bS g bz λeg s3 dr iw=>⟨v,aK,dr,iw,b2⟩⟩
def LK(cp:X.A.units+1<cLine)(aT:bM X o jX)(aA:bM X i ty)(bu:bM X value oc)(az:ak6 value (some (.Subscript o i pos')) pos.line X.env=pure false) :
  hH X (.Assign [.Subscript o i pos'] value pos) (acy jX ty oc):=by
 intro zn s Y H D I h;refine wpAny_Assign_Subscript (bN (bu zn s Y H _ I h) λr s1 ⟨v,H1,aV,bG,bp⟩=>bN (aT zn s1 Y H1 _ aV bp) λu s2 ⟨x,aK,bS,aU,b2⟩=>bN (aA zn s2 Y aK _ bS b2) λpe s3 ⟨y,cI,dr,bz,a,gu,ex,g,gG⟩=>?_) az;subst ex;obtain rfl:u=akl a:=aU;exact Uo cp dr g bz bG λs4 gv=>⟨Y,gu,gv,gG⟩
end
def UO{H:ah}(h:Heap)(aa:alO<h.objs.size):fL P w H (h.push { cls:=.type "dict",data:=.dict #[] }) h.objs.size (.gz []):=
 ⟨akA _,beq_eq_false_iff_ne.mpr (alR (aku aa)),[],.nil,_,#[],0,akc _ rfl,⟨rfl,rfl,rfl⟩,rfl,rfl,List.nodup_nil⟩
def aey:TE:=λ_ H Q=>∀p,H p=none->Q (.ref p) (upd H p (.gz []))
section
variable{X:aJ}{pos:Pos}
def abo:bM X (.Dict [] [] pos) aey:=λzn s Y H Q I h=>
 wpAny_Dict_empty ⟨.ref s.heap.objs.size,_,I.laid (a:=s.heap.objs.size) (o:=.gz []) (t':=s.toks) (λ_ _ q=>ajZ _ q) (aj8 _) (UO s.heap I.big),rfl,h _ (I.bA.fresh (aj8 _))⟩
end
structure gO(X:aJ)(o:Expr)(m:Str)(apos:Pos)(e:Expr)(cK:Pos):Prop where
 base:alz o m X.env (eval o X.env)=eval o X.env
 Bt:((ako cK (ajY [e] X.env)).all (λx=>!x.1)&&(alE cK (ak8 [] X.env)).all (λx=>x.1.isSome)
&&decide (([e]:List Expr).length+([]:List am9).length+(if([]:List am9).isEmpty then 0 else 1)<30))=true
 line:(apos.endLine==cK.line)=true
 trees:ako cK (ajY [e] X.env)=[(false,eval e X.env)]
structure M2(X:aJ)(o:Expr)(m:Str)(apos:Pos)(e f:Expr)(cK:Pos):Prop where
 base:alz o m X.env (eval o X.env)=eval o X.env
 Bt:((ako cK (ajY [e,f] X.env)).all (λx=>!x.1)&&(alE cK (ak8 [] X.env)).all (λx=>x.1.isSome)
&&decide (([e,f]:List Expr).length+([]:List am9).length+(if([]:List am9).isEmpty then 0 else 1)<30))=true
 line:(apos.endLine==cK.line)=true
 trees:ako cK (ajY [e,f] X.env)=[(false,eval e X.env),(false,eval f X.env)]
def Fv(H:ah)(a:Addr):Prop:=(∃aC,fi H a (.hu aC))\/∃aC,fi H a (.gz aC)
def YA{H:ah}(I:Inv X zn Y H s)(d:Fv H a) :
  s.TypeIs (.ref a) "dict"/\(∀b,akl a=.ref b->∃bh,s.heap.get? b=some bh/\bh.dict=none)/\(a==alO)=false:=by
 rcases d with⟨aC,e⟩|⟨aC,e⟩
 .obtain⟨_,hd,vs,_,dd⟩:=ud I.bA e
  refine⟨dd.typeIs,λb q=>?_,hd⟩;cases q;obtain⟨bh,_,_,ae,ag,_⟩:=dd;exact⟨bh,ae,ag.2.1⟩
 .obtain⟨_,hd,xs,_,dd⟩:=ug I.bA e
  refine⟨dd.typeIs,λb q=>?_,hd⟩;cases q;obtain⟨bh,_,_,ae,ag,_⟩:=dd;exact⟨bh,ae,ag.2.1⟩
section
variable{X:aJ}{zn:cC}{Y:St}{H:ah}{s:aj0}{a:Addr}{y d:V}{u r:Value}{o:Option V}{A:akm}{E:b'}
def TJ{Q:b'}(cp:A.units+1<cLine)(I:Inv X zn Y H s)(g:j1 H a y o)(bz:RelV y u)(cR:RelV d r)(h:∀eg s',Inv X zn Y H s'->RelV (o.getD d) eg->Q eg s') :
  wpAny (model X.prog X.w) A (call (.builtin "dict.get") [.ref a,u,r]) Q E s:=by
 rcases g with⟨aC,k,e,fb,l⟩|⟨aC,k,b,e,fb,dh,l⟩
 .subst fb
  obtain⟨z,hd,vs,rel,dd⟩:=ud I.bA e;refine call_meetsIn al3 dd.typeIs ang (aoL _ _ _) (meets_dict_get_default (iY X.prog X.w) a (yw bz) hd r) ⟨_,dd.mapOf,h _ _ (I.tok _) ?_⟩;rw[l];exact(rel.val k).getD cR
 .subst fb
  cases(show u=akl b from bz);obtain⟨z,hd,xs,rel,dd⟩:=ug I.bA e;refine call_meetsIn al3 dd.typeIs ang (aoL _ _ _) (meetsH_dict_get_default (anW (iY X.prog X.w)) a b hd r) ⟨an0 cp,k,xs,yC I.bA dh,dd,h _ _ (I.tok _) ?_⟩;rw[l];exact(rel.val k).getD cR
end
def aex(jX ty bo:TE):TE:=λY H Q=>jX Y H λx H1=>∃a,x=.ref a/\Fv H1 a/\ty Y H1 λy aK=>bo Y aK λz cI=>∃o,j1 cI a y o/\Q (o.getD z) cI
section
variable{X:aJ}{o e f:Expr}{apos cK:Pos}{jX ty bo:TE}
def abn(cp:X.A.units+1<cLine)(aT:bM X o jX)(he:bM X e ty)(hf:bM X f bo)(m:M2 X o "get" apos e f cK):bM X (.Call (.Attribute o "get" apos) [e,f] [] cK) (aex jX ty bo):=by
 intro zn s Y H Q I h;refine wpAny_Call_method m.base m.Bt m.line aoM al3 ao6 (bN (aT zn s Y H _ I h) λu s1 ⟨x,H1,aV,aU,a,ex,d,bp⟩=>?_);subst ex;obtain rfl:u=akl a:=aU;obtain⟨t1,hn,_⟩:=YA aV d;refine⟨t1,hn,?_⟩;rw[m.trees];refine amy rfl (amM (am1 (bN (he zn s1 Y H1 _ aV bp) λpe s2 ⟨y,aK,bS,bz,b2⟩=>
  am1 (bN (hf zn s2 Y aK _ bS b2) λiP s3 ⟨z,cI,dr,m1,cx,g,gG⟩=>aoi ?_))))
 exact TJ cp dr g bz m1 λeg s4 gv iw=>⟨_,cI,gv,iw,gG⟩
end
class aX where
 fu:Addr->Prop
 sZ:Addr->Str
def lE:f'->Prop
 |.ft _=>False|_=>True
def qa(c:Addr)(q:Str):Heap->Prop:=λh=>h.CodeRec (.ref c) q
def Ph[aX](H:ah)(P:Addr):Prop:=∃ps:Array Value,H P=some (.ft ps)/\aoT ps.toList/\∀pos hK,anq pos ps.toList=some hK->∃c,hK=.ref c/\H c=some (.ext (qa c (aX.sZ P)))
def TabsOk[aX](H:ah):Prop:=∀P,aX.fu P->Ph H P
structure dy[aX](H H':ah):Prop where
 at':∀b o,H b=some o->(h:lE o:=by exact trivial)->H' b=some o
 cS:∀b ps,H b=some (.ft ps)->∃kr,H' b=some (.ft kr)
 b4:TabsOk H->TabsOk H'
variable[aX]
def aad(o:f'):lE o\/∃ps,o=.ft ps:=by cases o<;>first|exact .inl trivial|exact .inr ⟨_,rfl⟩
def dy.refl(H:ah):dy H H:=⟨λ_ _ h _=>h,λ_ ps h=>⟨ps,h⟩,id⟩
def dy.trans{H H1 aK:ah}(a:dy H H1)(b:dy H1 aK):dy H aK:=
 ⟨λc o h n=>b.at' c o (a.at' c o h n) n,λc ps h=>let⟨p1,aw⟩:=a.cS c ps h;b.cS c p1 aw,λg=>b.b4 (a.b4 g)⟩
def dy.some{H H':ah}(s:dy H H')(h:H b≠none):H' b≠none:=by
 cases e:H b with
 |none=>exact absurd e h|some o=>
  rcases aad o with n|⟨ps,rfl⟩
  .rw[s.at' b o e n];intro z;cases z
  .obtain⟨p,q⟩:=s.cS b ps e;rw[q];intro z;cases z
def dy.free{H H':ah}(e:dy H H')(h:H' l=Option.none):H l=Option.none:=by
 cases q:H l with
 |none=>rfl| some o=>exact absurd h (e.some (by rw[q];intro z;cases z))
def dy.seq{K:aM}{H H':ah}{a:Addr}{xs:List V}(e:dy H H')(h:du K H a xs):du K H' a xs:=by
 rcases h with(h|⟨o,h⟩)|h
 .exact .inl (.inl (e.at' _ _ h))
 .exact .inl (.inr ⟨o,e.at' _ _ h⟩)
 .exact .inr h
def TabsOk.put{H:ah}(g:TabsOk H)(o:f')(ae:∀ps,H p≠some (.ft ps))(ag:∀q,H p≠some (.ext (qa p q))):TabsOk (upd H p o):=λP d1=>by
 obtain⟨ps,e,t,c⟩:=g P d1;refine⟨ps,by rw[cG (by rintro rfl;exact ae _ e)];exact e,t,λpos hK hc=>?_⟩;obtain⟨c',aw,aG⟩:=c pos hK hc;exact⟨c',aw,by rw[cG (by rintro rfl;exact ag _ aG)];exact aG⟩
def TabsOk.new{H:ah}(g:TabsOk H)(h:H p=none)(o:f'):TabsOk (upd H p o):=g.put o (λps=>by rw[h];intro z;cases z) (λot=>by rw[h];intro z;cases z)
def TabsOk.lst{H:ah}{p:Addr}{zs:List V}(g:TabsOk H)(h:H p=some (.lst zs))(o:f'):TabsOk (upd H p o):=g.put o (λps=>by rw[h];intro z;cases z) (λot=>by rw[h];intro z;cases z)
def i2{H:ah}(h:H p=none)(o:f'):dy H (upd H p o):=
 ⟨λb u q _=>by rw[cG (jq q h)];exact q,λb ps q=>⟨ps,by rw[cG (jq q h)];exact q⟩,λg=>g.new h o⟩
def tn{H1 H:ah}{D:Addr}(ip:H1 D=none)(s:dy H1 H)(hl:H D=some (.lst zs))(o:f'):dy H1 (upd H D o):=
 ⟨λb u q n=>by rw[cG (jq q ip)];exact s.at' b u q n,λb ps q=>by rw[cG (jq q ip)];exact s.cS b ps q,λg=>(s.b4 g).lst hl o⟩
end ax
namespace ax
open PySem
def nx(env:Env):List (Str×amx)->List (Str×Addr)->List (Str×Addr)
 |[],acc=>acc|(n,k)::r,acc=>if(k==amP)=true then nx env r ((n,(env.cells.lookup n).getD 0)::acc)else nx env r acc
abbrev ml(scope:Scope)(env:Env):List (Str×Addr):=nx env scope.names []
def Hw{scope:Scope}{env:Env}(h:∀y∈scope.names,y.2=.free->∃c,env.cells.lookup y.1=some c):amu scope env=pure (ml scope env):=by
 unfold amu ml;generalize scope.names=ns at h;generalize([]:List (Str×Addr))=acc;show(forIn ns acc _ >>= _)=_
 induction ns generalizing acc with
 |nil=>rfl|cons y r aZ=>
  obtain⟨n,k⟩:=y;rw[aoU];have Jy:=λacc=>aZ (λy a'=>h y (akg _ a')) acc
  by_cases aB:(k==amP)=true
  .have sa:k=.free:=by simpa using aB
   obtain⟨c,hc⟩:=h (n,k) akh sa;have aw:cellOf env n=pure c:=by unfold cellOf;rw[hc]
   simp only[aB,if_true,aw,pure_bind,nx,hc,Option.getD_some];exact Jy _
  .simp only[aB,nx]
   exact Jy _
theorem A4{env:Env}:∀{ns:List (Str×amx)}{acc:List (Str×Addr)}{p:Str×Addr},p∈nx env ns acc->p∈acc\/∃k,(p.1,k)∈ns/\k=amP/\p.2=(env.cells.lookup p.1).getD 0
 |[],_,_,h=>.inl h|(n,k)::r,acc,p,h=>by
  unfold nx at h;split at h
  .rename_i aB
   rcases A4 h with h|⟨jO,a,b⟩
   .rcases aj5.mp h with rfl|h
    .exact .inr ⟨k,akh,by simpa using aB,rfl⟩
    .exact .inl h
   .exact .inr ⟨jO,akg _ a,b⟩
  .rcases A4 h with h|⟨jO,a,b⟩
   .exact .inl h
   .exact .inr ⟨jO,akg _ a,b⟩
theorem A3:∀{ns:List (Str×amx)}{acc:List (Str×Addr)}{y:Str},((y,amP)∈ns\/∃c,(y,c)∈acc)->∃c,(y,c)∈nx env ns acc
 |[],_,_,h=>by
  rcases h with h|h
  .cases h
  .exact h
 |(n,k)::r,acc,y,h=>by
  unfold nx;split
  .refine A3 ?_
   rcases h with h|⟨c,h⟩
   .rcases aj5.mp h with e|h
    .cases e;exact .inr ⟨_,akh⟩
    .exact .inl h
   .exact .inr ⟨c,akg _ h⟩
  .rename_i aB
   refine A3 ?_;rcases h with h|h
   .rcases aj5.mp h with e|h
    .cases e;exact absurd rfl aB
    .exact .inl h
   .exact .inr h
theorem Kh{α:Type}{y:Str}{c:α}:∀{l:List (Str×α)},(y,c)∈l->∃c',l.lookup y=some c'
 |(n,k)::r,h=>by
  by_cases e:(y==n)=true
  .exact⟨k,by rw[akH,e]⟩
  .have bZ:(y==n)=false:=by simpa using e
   rcases aj5.mp h with z|z
   .cases z;simp at e
   .obtain⟨c',q⟩:=Kh z
    exact⟨c',by rw[akH,bZ];exact q⟩
def SJ{scope:Scope}{env:Env}(h:∀y∈scope.names,y.2=.free->∃c,env.cells.lookup y.1=some c)(e:(ml scope env).lookup y=some c):env.cells.lookup y=some c:=by
 rcases A4 (alv e)with z|⟨k,a,b,d⟩
 .cases z
 .obtain⟨c',q⟩:=h _ a b
  have d':c=(env.cells.lookup y).getD 0:=d;have g5:env.cells.lookup y=some c':=q;rw[g5]at d' ⊢;exact congrArg some d'.symm
def Hu{scope:Scope}(h:scope.names.lookup y=some .free):∃c,(ml scope env).lookup y=some c:=by
 obtain⟨c,q⟩:=A3 (env:=env) (acc:=[]) (.inl (alv h));exact Kh q
theorem KO{g:Str×amx->Str×amx}{y:Str}(ae:∀p,(g p).1=p.1)(ag:∀p,p.2≠.cell->(g p).2=.cell\/(g p).2=.free->p.2=.free) :
  ∀{ns:List (Str×amx)},(∀z∈ns,z.2≠aoc)->((ns.map g).lookup y=some .cell\/(ns.map g).lookup y=some .free)->ns.lookup y=some .free
 | [],_,h=>by simp at h|p::r,hc,h=>by
  rw[akb]at h;have aZ:=KO (g:=g) (y:=y) ae ag (ns:=r) λz hz=>hc z (akg _ hz)
  have aai:=hc p akh;have bp:=ae p;have b2:=ag p aai;generalize g p=q at h bp b2;obtain⟨s6,zo⟩:=q;obtain⟨n,k⟩:=p;have bp:s6=n:=bp;subst bp;have b2:zo=.cell\/zo=.free->k=.free:=b2;rw[akH]at h ⊢
  cases e:(y==s6)with
  |true=>
   rw[e]at h;have h':some zo=some aoc\/some zo=some amP:=h;exact congrArg some (b2 (h'.imp aky aky))
  |false=>
   rw[e]at h;exact aZ h
def acf{scope:Scope}(hc:∀z∈scope.names,z.2≠aoc)(h:(relabel scope env).names.lookup y=some .cell\/(relabel scope env).names.lookup y=some .free):scope.names.lookup y=some .free:=by
 refine KO (λp=>?_) (λp aL q=>?_) hc h
 .obtain⟨n,k⟩:=p
  dsimp only;split<;>rfl
 .obtain⟨n,k⟩:=p
  dsimp only at q aL ⊢;split at q
  .rename_i aB
   have:=(akw _ _▸(akw _ _▸aB).1).1;simpa using this
  .exact q.elim (λz=>absurd z aL) id
end ax
namespace ax
open PySem PySem.Spec PyProof.Rows
def cZ(X:aJ)(scope:Scope)(N:List Str)(C:Addr)(aY:List Addr)(s:aj0)(H:ah):aJ where
 prog:=X.prog
 w:=X.w
 K:=X.K
 mg:=X.mg
 base:=X.base
 A:=X.A
 N:=N
 gk:=s
 H₀:=H
 env:=compEnvC scope (ml scope X.env) C X.env
 outer:=X.stack
 stack:=X.stack
 ex:=aY
 fn:=λ_=>false
 calm:=X.calm
 h9:=[]
 cL:=λ_ _=>False
structure l5(esc scope:Scope)(EN N:List Str)(n:Nat)(cap:List Nat):Prop where
 kind:scope.kind=.function
 cell:∀y∈scope.names,y.2≠.cell
 loc:∀y∈scope.names,y.2=.local->scope.names.lookup y.1=some .local
 free:∀y∈scope.names,y.2=.free->esc.names.lookup y.1=some .cell\/esc.names.lookup y.1=some .free
 fT:N.Nodup
 len:N.length=n+cap.length
 Sx:∀j<cap.length,N[n+j]? = EN[cap.getD j 0]?/\∀x,N[n+j]? = some x->scope.names.lookup x=some .free
def gS(n:Nat)(cap:List Nat)(Y:St):St:=akF n none++cap.map λk=>(Y[k]?).join
def SV{cap:List Nat}:(gS n cap Y).length=n+cap.length:=by
 unfold gS;rw[aj9,ak7,aj2]
def SU{cap:List Nat}{Y:St}{v:V}(h:(gS n cap Y)[i]? = some (some v)):∃j,i=n+j/\j<cap.length/\Y[cap.getD j 0]? = some (some v):=by
 unfold gS at h
 by_cases aA:i<n
 .rw[akt (by simpa using aA),alV,if_pos aA]at h
  cases h
 .rw[akq (by simpa using aA),ak7,akD]at h
  cases e:cap[i-n]? with
  |none=>rw[e]at h;cases h
  |some k=>
   rw[e]at h;have hl:i-n<cap.length:=(aj1.mp e).1;refine⟨i-n,by omega,hl,?_⟩;have h':(Y[k]?).join=some v:=aky h;rw[ala,e,Option.getD_some]
   cases q:Y[k]? with
   |none=>rw[q]at h';cases h'
   |some z=>rw[q]at h';exact congrArg some h'
section
variable{X:aJ}{scope esc:Scope}{EN N:List Str}{n:Nat}{cap:List Nat}{zn:cC}{Y:St}{H:ah}{s:aj0}{aY:List Addr}
def Yx{h':Heap}{tk:Nat}{m:a9}(S:l5 esc scope EN N n cap)(he:X.env.scope=esc)(hN:X.N=EN)(I:Inv X zn Y H s)(hf:∀b∈aY,gr X zn H b)(aT:∀b∈aY,∃o,s.heap.get? b=some o)
  (yh:h'.Ns s.heap.objs.size m) (k:∀b o,s.heap.get? b=some o->h'.get? b=some o) :
  Inv (cZ X scope N s.heap.objs.size aY s H) [] (gS n cap Y) H { s with heap:=h',toks:=tk }:=by
 have x':∀y∈scope.names,y.2=.free->∃c,X.env.cells.lookup y.1=some c:=λy a' aB=>by
  refine I.ok.has y.1 ?_;show X.env.scope.names.lookup y.1=_\/X.env.scope.names.lookup y.1=_;rw[he];exact S.free y a' aB
 have up:∀{y:Str}{c:Addr},(ml scope X.env).lookup y=some c->X.env.cells.lookup y=some c:=λ{y c} e=>SJ x' e
 have Zf:∀y,(cZ X scope N s.heap.objs.size aY s H).env.kindOf y=some .cell\/(cZ X scope N s.heap.objs.size aY s H).env.kindOf y=some .free->scope.names.lookup y=some .free:=λy h=>acf S.cell h
 have cellK:∀c v,s.heap.IsCell c v->h'.IsCell c v:=λc v ⟨o,e,d⟩=>⟨o,k c o e,d⟩
 refine⟨⟨I.ok.mod,S.kind,I.ok.glob,I.ok.blt,aj8 _,λx y c ae ag=>I.ok.inj x y c (up ae) (up ag),λy a'=>Hu (Zf y a'),λ_ _ z=>absurd z aj7,I.ok.hd,I.ok.frames,.inl rfl,λb aa=>⟨?_,λx c e=>(hf b aa).2.2.2.2.1 x c (up e)⟩,I.bs,akS I.ok.kb I.zz,λb o e aa=>?_,λb aa hz=>?_,I.stack,I.Ep⟩,
  rfl,I.bare,fA.kept k,⟨m,yh,λi x v aw aG c3=>?_⟩,λx c e=>?_,I.bA.fresh (aj8 _),λx c e=>I.iN x c (up e),λp aL=>absurd (show p∈([]:cC)from aL) (by simp),I.bA.kept k,?_⟩
 .obtain⟨o,e⟩:=aT b aa
  exact aku (ake e)
 .rcases(hf b aa).2.2.2.1 with z|z
  .exact I.ok.sG b o e z
  .exact absurd (akr (ake e) (akS I.ok.kb z)) (akM _)
 .rcases aj5.mp (I.Er b hz)with z|z
  .exact(hf b aa).2.1 z
  .exact(hf b aa).2.2.1 z
 .obtain⟨j,rfl,aR,fS⟩:=SU aG
  obtain⟨bE,av⟩:=S.Sx j aR;have aw:N[n+j]? = some x:=aw;have k':=av x aw;rw[aw,<-hN]at bE;obtain⟨c,hc⟩:=Hu (env:=X.env) k';obtain⟨m0,ajj,hl⟩:=I.loc;have iu:X.env.scope.names.lookup x=some .cell\/X.env.scope.names.lookup x=some .free:=by
   rw[he];exact S.free (x,.free) (alv k') rfl
  obtain⟨u,r,l⟩:=hl _ x v bE.symm fS (iu.elim (λz=>.inr (.inl z)) λz=>.inr (.inr z));refine⟨u,r,.inr ⟨?_,c,hc,?_⟩⟩
  .rcases c3 with z|z|z
   .exfalso
    have iC:(relabel scope X.env).names.lookup x=some .local:=z;have hz:∀ns:List (Str×amx),ns.lookup x=some .free->(ns.map λ(n,k)=>if(k==amP&&X.env.scope.kind==.function&&X.env.kindOf n==some .cell)then(n,aoc)else(n,k)).lookup x≠some .local:=by
     intro ns
     induction ns with
     |nil=>intro h;simp at h|cons p r aZ=>
      obtain⟨h9,sW⟩:=p;intro h;rw[akb];rw[akH]at h
      cases q:(x==h9)with
      |true=>
       rw[q]at h;have h':sW=.free:=aky h;subst h';dsimp only;split
       .rw[akH,q];intro w;cases w
       .rw[akH,q];intro w;cases w
      |false=>
       rw[q]at h;dsimp only;split
       .rw[akH,q];exact aZ h
       .rw[akH,q];exact aZ h
    exact hz _ k' iC
   .exact .inl z
   .exact .inr z
  .rcases l with⟨q,_⟩|⟨_,c',oY,z⟩
   .exfalso
    have g5:X.env.scope.names.lookup x=some .local:=q;rcases iu with w|w<;>rw[w]at g5<;>cases g5
   .rw[up hc]at oY
    cases oY;exact cellK c _ z
 .obtain⟨v,z⟩:=I.cell x c (up e)
  exact⟨v,cellK c v z⟩
 .show(gS n cap Y).length=N.length
  rw[SV,S.len]
def Yw{N:List Str}(I:Inv X zn Y H s)(hf:∀b∈aY,gr X zn H b)(bJ:Inv (cZ X scope N C aY s H) ajG Y' H' s'):Inv X zn Y H' s':=
 I.xv bJ.os bJ.base bJ.bA bJ.bare λb aa=>⟨(hf b aa).2.2.2.1,(hf b aa).2.1,(hf b aa).2.2.2.2.1,(hf b aa).2.2.2.2.2⟩
end
section
variable{X:aJ}
def rA(X:aJ)(ifs:List Expr)(t:TT):Prop:=
 ∀(zn:cC)(s:aj0)(Y:St)(H:ah)(Q:Bool->ah->Prop),Inv X zn Y H s->t Y H Q->
  wpAny (model X.prog X.w) X.A (forIn ifs true λc r=>if r=true then do let ok <-isTrue c X.env (eval c X.env);pure (anE ok)else pure (anE r)) (Ai X zn Y Q) X.cL s
def aeS:TT:=λ_ H Q=>Q true H
def abD:rA X [] aeS:=λ_ _ _ H _ I h=>wpAny_tests_nil ⟨H,I,h⟩
def abE{t:TT}(h:hX X c t):rA X [c] t:=λzn s Y H Q I a6=>wpAny_tests_one (h zn s Y H Q I a6)
end
section
variable{prog:aki}{w:World}{A:akm}{R:Result->aj0->Prop}{s:aj0}
def SQ{elt target iter:Expr}{ifs:List Expr}{scope:Scope}{pos:Pos}{it acc:Value}{env:Env}(I:Nat->aj0->Prop)
  (turn:∀n s,I n s->wpAny (model prog w) A (am0 it) (λr c_=>match r with
   |none=>R (.ok .next) c_| some v=>wpAny (model prog w) A (anC target it v) (λ_ NT=>wpAny (model prog w) A (amO target env v) (λ_ lO=>
     wpAny (model prog w) A (forIn ifs true λc r=>if r=true then do let ok <-isTrue c env (eval c env);pure (anE ok)else pure (anE r)) (λok jW=>
      if ok=true then wpAny (model prog w) A (eval elt env) (λx zA=>
       wpAny (model prog w) A (call (.builtin "list.append") [acc,x]) (λ_ NU=>∃m,m<n/\I m NU) (λ_ _=>False) zA) (λ_ _=>False) jW
      else ∃m,m<n/\I m jW) (λ_ _=>False) lO) (λ_ _=>False) NT) (λ_ _=>False) c_) (λ_ _=>False) s)
  (n:Nat) (h:I n s) :
  amd (model prog w) A (.compLoop (.ListComp elt [⟨target,iter,ifs,0⟩] scope pos) 0 it acc env) R s:=by
 refine codeAny_loop rfl I (λn s o3=>?_) n h;show wpAny _ A ((compTurn (.ListComp elt [⟨target,iter,ifs,0⟩] scope pos) 0 it acc env).onRaise (λx=>do an1 x env;theTreesLotGoes x)) _ _ s;refine wpAny_noted ?_;rw[compTurn_list];refine ajX (aod (ajX (akB (turn n s o3) (λr c_ fD=>?_) λ_ _ h'=>h'.elim)))
 cases r with
 |none=>exact aj4 fD|some v=>
  refine ajX (akB fD (λ_ NT Yi=>?_) λ_ _ h'=>h'.elim);refine ajX (akB Yi (λ_ lO ll=>ajX (akB ll (λok jW nQ=>?_) λ_ _ h'=>h'.elim)) λ_ _ h'=>h'.elim)
  cases ok with
  |false=>exact aj4 ⟨rfl,nQ⟩|true=>
   exact ajX (ajX (akB nQ (λx zA u1=>ajX (akB u1 (λ_ NU hM=>aj4 (aj4 ⟨rfl,hM⟩)) λ_ _ h'=>h'.elim)) λ_ _ h'=>h'.elim))
end
def m'(Y dp:St):Prop:=Y.length=dp.length/\∀(i:Nat) v,Y[i]? = some (some v)->dp[i]? = some (some v)
def m'.refl(Y:St):m' Y Y:=⟨rfl,λ_ _ h=>h⟩
def m'.set{Y dp:St}(h:m' Y dp)(aF:Y[i]? = some none):m' Y (dp.set i (some x)):=by
 refine⟨by rw[akL];exact h.1,λj v e=>?_⟩
 by_cases aR:i=j
 .subst aR;rw[aF]at e;cases e
 .rw[akk aR];exact h.2 j v e
def A9(bJ:hG)(Y':St)(g:ij)(tt:TT)(te:TE)(D:Addr)(H1:ah)(Q:cD):Prop:=
  ∃W:Nat->Nat->List V->ah->Prop,(∃m,W 0 m [] (upd H1 D (.lst [])))/\∀i m ys H,W i m ys H->
   ((bJ.stop i H/\Q (.ref D) H)\/(bJ.go i H/\∀x H',bJ.oo i H x H'->g x Y' H' λdp aK=>m' Y' dp/\tt dp aK λb cI=>
       if b=true then te dp cI λy gu=>gu D=some (.lst ys)/\ys.length<aj6/\∃fq,fq<m/\W (i+1) fq (ys++[y]) (upd gu D (.lst (ys++[y])))else ∃fq,fq<m/\W (i+1) fq ys cI))
def wj(n:Nat)(cap:List Nat)(wi:TI)(g:ij)(tt:TT)(te:TE):TE:=λY H Q=>wi Y H λbJ H1=>∀D,H1 D=none->A9 bJ (gS n cap Y) g tt te D H1 Q
section
variable{X:aJ}{scope esc:Scope}{EN N:List Str}{n:Nat}{cap:List Nat}{zn:cC}{Y:St}{s:aj0}{elt b7 iter:Expr}{ifs:List Expr}{pos:Pos}{g:ij}{tt:TT}{te:TE}
def HC{E:b'}{H:ah}{bJ:hG}{aY:List Addr}{it:Addr}{eQ:Nat->Heap->Prop}{Q:cD}{w4:Value->Addr->Result->aj0->Prop}(S:l5 esc scope EN N n cap)(he:X.env.scope=esc)(hN:X.N=EN)(hc:X.calm=true)
  (a3:∀C aY s H,oG (cZ X scope N C aY s H) b7 g) (bC:∀C aY s H,rA (cZ X scope N C aY s H) ifs tt) (iR:∀C aY s H,bM (cZ X scope N C aY s H) elt te)
  (I:Inv X zn Y H s) (T:Turn X.prog X.w X.K b7 bJ aY it eQ) (st:eQ 0 s.heap) (hf:∀b∈aY,gr X zn H b) (a6:∀D,H D=none->A9 bJ (gS n cap Y) g tt te D H Q)
  (VQ:∀D C H' s' m,Inv X zn Y H' s'->gr X zn H' C->s'.heap.Ns C m->Q (.ref D) H'->w4 (.ref D) C (.ok .next) s') :
  wpAny (model X.prog X.w) X.A (newList []) (λacc jW=>wpAny (model X.prog X.w) X.A (newFunctionEnv scope X.env.globals (ml scope X.env) [] X.env.qual none .none (some X.env)) (λHs zA=>
   amd (model X.prog X.w) X.A (.compStart (.ListComp elt [⟨b7,iter,ifs,0⟩] scope pos) 0 (.ref it) acc { Hs with scope:=relabel scope X.env }) (w4 acc Hs.locals) zA) E jW) E s:=by
 refine alF (wpAny_newFunctionEnv S.cell (by intro y a';simp at a') (λfD B8 Ce=>?_) S.kind);have dr:=I.Kg (t':=s.toks) (ys:=[]) (its:=[]) .nil (akA _);have ip:H s.heap.objs.size=none:=I.fresh;obtain⟨W,⟨m0,EK⟩,turn⟩:=a6 _ ip;generalize Cd:({ s with heap:=s.heap.push { cls:=.type "list",data:=.seq ([]:List Value).toArray },toks:=s.toks }:aj0)=s3 at dr;have k3:∀b o,s.heap.get? b=some o->s3.heap.get? b=some o:=λb o e=>by rw[<-Cd];exact ajZ _ e
 have ajl:({ s with heap:=s.heap.push { cls:=.type "list",data:=.seq ([]:List Value).toArray } }:aj0)=s3:=Cd;have c6:s.heap.push { cls:=.type "list",data:=.seq ([]:List Value).toArray }=s3.heap:=by rw[<-Cd]
 dsimp only at B8 Ce ⊢
 try rw[c6]at B8
 try rw[c6]at Ce
 have B2:∀b∈aY,gr X zn (upd H s.heap.objs.size (.lst [])) b:=λb aa=>by
  refine⟨?_,(hf b aa).2⟩;obtain⟨o,e,_⟩:=T.obj _ _ st b aa;rw[cG (aku (ake e))];exact(hf b aa).1
 have JL:∀b o,s3.heap.get? b=some o->fD.get? b=some o:=λb o e=>Ce.extBut b o (aku (ake e)) (ajZ _ e)
 have bh:∀b∈aY,∃o,s3.heap.get? b=some o:=λb aa=>by
  obtain⟨o,e,_⟩:=T.obj _ _ st b aa;exact⟨o,k3 b o e⟩
 have gv:=Yx (tk:=s3.toks) S he hN dr B2 bh B8 JL;have ta:eQ 0 fD:=T.keep _ _ _ st λb _ o e=>JL b o (k3 b o e)
 have VJ:s3.heap.objs.size<=s3.heap.objs.size:=aj8 _;have loop:∀jW:aj0,jW.heap=fD->Inv (cZ X scope N s3.heap.objs.size aY s3 (upd H s.heap.objs.size (.lst []))) [] (gS n cap Y) (upd H s.heap.objs.size (.lst [])) jW->
   amd (model X.prog X.w) X.A (.compLoop (.ListComp elt [⟨b7,iter,ifs,0⟩] scope pos) 0 (.ref it) (.ref s.heap.objs.size) (compEnvC scope (ml scope X.env) s3.heap.objs.size X.env)) (w4 (.ref s.heap.objs.size) s3.heap.objs.size) jW:=by
  intro jW U5 wV;have q6:∀{H':ah},(∀b∈aY,H' b=none)->∀b∈aY,gr (cZ X scope N s3.heap.objs.size aY s3 (upd H s.heap.objs.size (.lst []))) [] H' b:=λ{H'} aF b aa=>
   ⟨aF b aa,(wV.ok.uk b aa).1,wV.ok.r1 b aa,.inl aa,(wV.ok.uk b aa).2,λp aL=>absurd (show p∈([]:cC)from aL) (by simp)⟩
  refine SQ (λk s'=>∃i ys H',Inv (cZ X scope N s3.heap.objs.size aY s3 (upd H s.heap.objs.size (.lst []))) [] (gS n cap Y) H' s'/\eQ i s'.heap/\(∀b∈aY,H' b=none)/\W i k ys H') ?_ m0
   ⟨0,[],_,wV,by rw[U5];exact ta,λb aa=>(B2 b aa).1,EK⟩
  rintro k s5 ⟨i,ys,j5,rr,tb,xR,afK⟩;rcases turn i k ys j5 afK with⟨stop,q⟩|⟨go,step⟩
  .refine bN (T.done (cZ X scope N s3.heap.objs.size aY s3 (upd H s.heap.objs.size (.lst []))) rfl rfl rfl hc i [] s5 _ j5 _ rr (q6 xR) tb stop) λr pN ⟨aD,tO⟩=>?_
   subst aD;obtain⟨m,aF,_⟩:=tO.loc;exact VQ _ _ j5 pN m (Yw dr B2 tO) (dr.qe VJ tO.free) aF q
  .refine bN (T.item (cZ X scope N s3.heap.objs.size aY s3 (upd H s.heap.objs.size (.lst []))) rfl rfl rfl hc i [] s5 _ j5 (λ_ _=>False) rr (q6 xR) tb go) λr pN ⟨u,aD,k4⟩=>?_
   subst aD;refine bN k4 λ_ g6 ⟨x,i8,jz,D8,agX,Em,Vg⟩=>?_
   have O5:=jz.pinned (q6 Vg) (T.obj _ _ Em);refine bN (a3 _ _ _ _ _ g6 _ i8 x u _ O5 D8 (step x i8 agX)) λ_ i1 ⟨z6,OZ,rt,xK,n5⟩=>?_
   refine bN (bC _ _ _ _ _ i1 z6 OZ _ rt n5) λb zt ⟨Ft,wQ,LR⟩=>?_
   have back:∀{H':ah}{s':aj0},Inv (cZ X scope N s3.heap.objs.size aY s3 (upd H s.heap.objs.size (.lst []))) ([]++qW aY g6.heap) z6 H' s'->
     Inv (cZ X scope N s3.heap.objs.size aY s3 (upd H s.heap.objs.size (.lst []))) [] (gS n cap Y) H' s'/\eQ (i+1) s'.heap/\∀b∈aY,H' b=none:=λ{H' s'} gb=>by
    refine⟨gb.wq.weak xK.1 xK.2,T.keep _ _ _ Em λb aa o e=>(gb.pin (b,o) (akz _ (akz _ (yX aa e)))).1,λb aa=>?_⟩;obtain⟨o,e,d⟩:=T.obj _ _ Em b aa;exact(gb.pin (b,o) (akz _ (akz _ (yX aa e)))).2.1
   cases b with
   |false=>
    obtain⟨fq,hm,eg⟩:=LR;obtain⟨b3,bY,fa⟩:=back wQ;exact⟨fq,hm,i+1,ys,Ft,b3,bY,fa,eg⟩
   |true=>
    refine bN (iR _ _ _ _ _ zt z6 Ft _ wQ LR) λv acw ⟨y,Fs,O2,ab4,VL,hz,fq,hm,eg⟩=>?_
    refine bN (vu _ acw z6 Fs (.ref s.heap.objs.size) [y] (.ref s.heap.objs.size) [v] (λz H'=>z=.aN/\H'=upd Fs s.heap.objs.size (.lst (ys++[y]))) O2 rfl (.cons ab4 .nil) ⟨_,ys,y,rfl,rfl,VL,hz,rfl,rfl⟩) λz ajK ⟨ajT,ahX,O3,_,_,rV⟩=>?_
    subst rV;obtain⟨b3,bY,fa⟩:=back O3;exact⟨fq,hm,i+1,ys++[y],_,b3,bY,fa,eg⟩
 have Fu:Inv (cZ X scope N s3.heap.objs.size aY s3 (upd H s.heap.objs.size (.lst []))) [] (gS n cap Y) (upd H s.heap.objs.size (.lst [])) { heap:=fD,gens:=s3.gens,drawn:=s3.drawn,toks:=s3.toks+([]:List (Str×Value)).length,os:=s3.os }:=gv;exact codeAny_compStart_list (loop _ rfl Fu) (T.self _ 0 _ _ _ ta (loop _ rfl Fu))
theorem Lv(S:l5 esc scope EN N n cap){wi:TI}(aA:jC X b7 iter wi)(a3:∀C aY s H,oG (cZ X scope N C aY s H) b7 g)(bC:∀C aY s H,rA (cZ X scope N C aY s H) ifs tt)(iR:∀C aY s H,bM (cZ X scope N C aY s H) elt te)
  (he:X.env.scope=esc:=by rfl) (hN:X.N=EN:=by rfl) (hc:X.calm=true:=by rfl) (az:∀x,ak0 iter X.env x=pure x:=by intro _;rfl):bM X (.ListComp elt [⟨b7,iter,ifs,0⟩] scope pos) (wj n cap wi g tt te):=by
 intro zn s Y H Q I h;rw[eval_ListComp];have BY:amu scope X.env=pure (ml scope X.env):=Hw λy a' aB=>I.ok.has y.1 (by
  show X.env.scope.names.lookup y.1=_\/X.env.scope.names.lookup y.1=_;rw[he];exact S.free y a' aB)
 refine wpAny_comprehension_free (use:=none) rfl az BY S.kind S.loc (bN (aA zn s Y H _ I h) λv s1 ae=>bN ae λyv s2 ag=>?_);obtain⟨it,aY,eQ,bJ,aK,e,bS,T,cf,f2,a6⟩:=ag;subst e;refine HC S he hN hc a3 bC iR bS T cf f2 a6 λD C H' s' m gb jJ aF q=>?_
 exact⟨m,aF,λh' nP=>⟨.ref D,H',gb.turned (t':=s'.toks) (λb o aa e=>nP.extBut b o aa e) jJ.1 jJ.2.1 jJ.2.2.2.1 jJ.2.2.2.2.1 jJ.2.2.2.2.2,rfl,q⟩⟩
theorem abR{i:Nat}{y:Str}{py pP:Pos}(S:l5 esc scope EN N n cap){wi:TI}(uG:X.N.Nodup)(jL:X.N[i]? = some y)(a':X.env.scope.names.lookup y=some .local)(aA:jC X b7 iter wi)(a3:∀C aY s H,oG (cZ X scope N C aY s H) b7 g)(bC:∀C aY s H,rA (cZ X scope N C aY s H) ifs tt)(iR:∀C aY s H,bM (cZ X scope N C aY s H) elt te)
  (he:X.env.scope=esc:=by rfl) (hN:X.N=EN:=by rfl) (hc:X.calm=true:=by rfl) (az:∀x,ak0 iter X.env x=pure x:=by intro _;rfl)
  (iT:ak6 (.ListComp elt [⟨b7,iter,ifs,0⟩] scope pos) (some (.Name y py)) pP.line X.env=pure true:=by rfl) :
  hH X (.Assign [.Name y py] (.ListComp elt [⟨b7,iter,ifs,0⟩] scope pos) pP) (tc (wj n cap wi g tt te) (kf i)):=by
 intro zn s Y H D I h;have BY:amu scope X.env=pure (ml scope X.env):=Hw λy a' aB=>I.ok.has y.1 (by
  show X.env.scope.names.lookup y.1=_\/X.env.scope.names.lookup y.1=_;rw[he];exact S.free y a' aB)
 rw[exec_Assign_Name_used _ _ _ _ iT];refine ajX (aod (ajX ?_));show wpAny _ X.A (do let _ <-comprehension (.ListComp elt [⟨b7,iter,ifs,0⟩] scope pos) scope X.env _ (newList []) false (eval iter X.env) (some (amO (.Name y py) X.env))) _ _ s;refine ajX (akB (wpAny_comprehension_free (use:=some (amO (.Name y py) X.env)) (Q:=λ_ s'=>kN X zn D .next s') rfl az BY S.kind S.loc
  (bN (aA zn s Y H _ I h) λv s1 ae=>bN ae λyv s2 ag=>?_)) (λ_ s' a6=>aj4 (aj4 a6)) λ_ _ e=>e)
 obtain⟨it,aY,eQ,bJ,aK,e,bS,T,cf,f2,a6⟩:=ag;subst e;refine HC S he hN hc a3 bC iR bS T cf f2 a6 λFp C H' s' m gb jJ aF q=>?_
 show wpAny _ X.A (amO (.Name y py) X.env (.ref Fp)) _ _ _;refine wpAny_assign_Name (NR (v:=.ref Fp) gb uG jL (.inl a') rfl (λv_ O1 ch=>?_) (.inr a'));obtain⟨a,X2,ao⟩:=ch;have VK:C≠a:=by
  rcases ao with z|z
  .rw[z];exact jJ.2.1
  .exact λw=>jJ.2.2.2.2.1 y a z w.symm
 refine⟨m,aF.sameBut X2 VK,λh' nP=>?_⟩;exact⟨_,H',O1.turned (t':=v_.toks) (λb o aa e=>nP.extBut b o aa e) jJ.1 jJ.2.1 jJ.2.2.2.1 jJ.2.2.2.2.1 jJ.2.2.2.2.2,q⟩
end
def eo(p:V->V->ah->cD->Prop):dP:=λvs H Q _=>∃a b,vs=[a,b]/\p a b H Q
structure bT(P:aki)(w:World)(K:aM)(mg:a9)(base:Heap)(x:Str)(ps:List Str)(k:Nat)(sp:dP):Prop where
 ex:∃f fd,ez P w K mg base eh k f fd ps sp/\Binds K fd ps []/\alW K (.ref f)=true/\mg x=some (.ref f)
structure b1(K:aM)(mg:a9)(x:Str)(st:Stmt)(ps:List Str):Prop where
 ex:∃f fd,j3 K x x st f fd/\Binds K fd ps []/\mg x=some (.ref f)
section
variable{P:aki}{w:World}{K:aM}{mg:a9}{base:Heap}{x:Str}{ps:List Str}{k:Nat}{sp:dP}
def bT.mono(h:bT P w K mg base x ps k sp)(aR:k<=j):bT P w K mg base x ps j sp:=by
 obtain⟨f,fd,a,b⟩:=h.ex;exact⟨f,fd,a.mono aR,b⟩
end
section
variable{X:aJ}{x:Str}{ps:List Str}{k:Nat}{sp:dP}{p pos:Pos}{e:Expr}{ay:List Expr}{t:fj}
def zD(sp:dP)(t:fj):TE:=λY H Q=>t Y H λvs H1=>sp vs H1 Q hU
def DQ(h:bT X.prog X.w X.K X.mg X.base x ps k sp)(aD:cg k X.A)(a3:dD X x)(ao:gd X (e::ay) t)(dA:(x==("__debug__":Str))=false:=by decide)
  (he:ajY (e::ay) X.env=(false,eval e X.env)::ajY ay X.env:=by rfl) (dJ:(ako pos (ajY ay X.env)).any (·.1)=false:=by rfl):bM X (.Call (.Name x p) (e::ay) [] pos) (zD sp t):=by
 obtain⟨f,fd,F,b,kp,m⟩:=h.ex;intro zn s Y H Q I a6;refine abg (dvs:=[]) (ds:=[]) F aD a3 m kp b .nil sT ao dA he dJ zn s Y H Q I ?_;have mE:t Y H λvs H1=>sp vs H1 Q hU:=a6
 show t Y H λvs H1=>sp (vs++[]) H1 Q hU
 simpa only[ak3]using mE
def abq(h:bT X.prog X.w X.K X.mg X.base x ps k sp)(aD:cg k X.A)(a3:dD X x)(dA:(x==("__debug__":Str))=false:=by decide):bM X (.Call (.Name x p) [] [] pos) (zD sp wk):=by
 obtain⟨f,fd,F,b,kp,m⟩:=h.ex;intro zn s Y H Q I a6;exact abh (dvs:=[]) (ds:=[]) F aD a3 m kp b .nil sT dA zn s Y H Q I a6
end
structure tQ(K:aM):Prop where
 ans:∀t∈["NoneType","bool","int","str","list","tuple"],∀c∈["int","bool","tuple","list","str"],alG K (.type t) (.type c)=some (t==c||(t == "bool"&&c == "int"))
inductive kO(K:aM)(H:ah):V->String->Prop where
 |aN:kO K H .aN "NoneType"
 |au (x:Bool):kO K H (.au x) "bool"
 |int (i:Int):kO K H (.int i) "int"
 |str (x:Str):kO K H (.str x) "str"
 |lst {a:Addr}{xs:List V}(e:du K H a xs):kO K H (.ref a) "list"
 |tup {a:Addr}{xs:List V}(e:dj K H a xs):kO K H (.ref a) "tuple"
abbrev afw:List String:=["NoneType","bool","int","str","list","tuple"]
def kO.mem{K:aM}{H:ah}{x:V}{t:String}(h:kO K H x t):t∈afw:=by
 cases h<;>decide
section
variable{X:aJ}
def h3(t n:String):Bool:=t==n||(t == "bool"&&n == "int")
def LY(K:aM):List V->ah->cD->Prop:=λxs H Q=>∃x n t,xs=[x,.ty n]/\kO K H x t/\n∈["int","bool","tuple","list","str"]/\Q (.au (h3 t n)) H
def Sq(kt:tQ X.K):iD X (.builtin "isinstance") (LY X.K):=by
 intro zn s Y H xs us Q I bG h;obtain⟨x,n,t,rfl,ty,aF,q⟩:=h;obtain⟨u,eg,rfl,bF,b5⟩:=vals2 bG;cases(show eg=anA n from b5);have e:=kt.ans t ty.mem n aF;have fin:∀tk,gq X zn Y Q (.bool (h3 t n)) { s with toks:=tk }:=λtk=>⟨.au _,H,I.tok tk,rfl,q⟩
 cases ty with
 |aN=>cases(show u=ak5 from bF);exact anr W.kitx_none I.dW alB e (λz=>nomatch z) fin
 |au y=>cases(show u=amL y from bF);exact anr W.kitx_bool I.dW alB e (λz=>nomatch z) fin
 |int i=>obtain⟨t,q⟩:=(show ∃t,u=anU i t from bF);cases q;exact anr W.kitx_int I.dW alB e (λz=>nomatch z) fin
 |str y=>obtain⟨t,q⟩:=(show ∃t,u=anV y t from bF);cases q;exact anr W.kitx_str I.dW alB e (λz=>nomatch z) fin
 |@lst a xs fm=>
  cases(show u=akl a from bF);obtain⟨its,_,⟨o,jo,ae,ag,_⟩,_⟩:=I.list fm;exact anr W.kitx_list I.dW ⟨o,ae,ag⟩ e (λz=>nomatch z) fin
 |@tup a xs fm=>
  cases(show u=akl a from bF);obtain⟨its,_,⟨o,ae,ag,_⟩,_⟩:=I.tuple fm;exact anr W.kitx_tuple I.dW ⟨o,ae,ag⟩ e (λz=>nomatch z) fin
def Z_:w0 X "int.bit_length" (λx xs H Q=>∃i,x=.int i/\xs=[]/\Q (.int (ale i:Nat)) H):=by
 intro zn s Y H x xs v us Q I aU bG h;obtain⟨i,rfl,rfl,q⟩:=h;obtain⟨t,rfl⟩:=aU;cases bG;exact call_int_bit_length ⟨.int _,H,I.tok _,⟨_,rfl⟩,q⟩
end
mutual
def Rep(K:aM)(H:ah):PyData->V->Prop
 |.none,v=>v=.aN|.bool b,v=>v=.au b|.int i,v=>v=.int i|.str x,v=>v=.str x|.list ds,v=>∃a xs,v=.ref a/\du K H a xs/\a8 K H ds xs|.tuple ds,v=>∃a xs,v=.ref a/\dj K H a xs/\a8 K H ds xs|.dict _,_=>False
def a8(K:aM)(H:ah):List PyData->List V->Prop
 |[],xs=>xs=[]|d::ds,xs=>∃x r,xs=x::r/\Rep K H d x/\a8 K H ds r
end
def dy.wa[aX]{K:aM}{H H':ah}{a:Addr}{xs:List V}(e:dy H H')(h:dj K H a xs):dj K H' a xs:=by
 rcases h with(h|⟨o,h⟩)|h
 .exact .inl (.inl (e.at' _ _ h))
 .exact .inl (.inr ⟨o,e.at' _ _ h⟩)
 .exact .inr h
section
variable{X:aJ}{zn:cC}{Y:St}{H:ah}{s:aj0}
mutual
theorem Rep.reads(I:Inv X zn Y H s):∀{d:PyData}{v:V}{u:Value},Rep X.K H d v->RelV v u->∃as,Reads s.heap u d as
 |.none,_,_,h,r=>by cases h;cases r;exact⟨_,.none⟩
 |.bool _,_,_,h,r=>by cases h;cases r;exact⟨_,.bool _⟩
 |.int _,_,_,h,r=>by cases h;obtain⟨t,rfl⟩:=r;exact⟨_,.int _ _⟩
 |.str _,_,_,h,r=>by cases h;obtain⟨t,rfl⟩:=r;exact⟨_,.str _ _⟩
 |.list _,_,_,h,r=>by
  obtain⟨a,xs,rfl,l,q⟩:=h;cases r;obtain⟨its,bG,⟨o,n,e,c,_,d⟩,_⟩:=I.list l;obtain⟨as,z⟩:=a8.reads I q bG;exact⟨_,.list e c d (by simpa using z)⟩
 |.tuple _,_,_,h,r=>by
  obtain⟨a,xs,rfl,l,q⟩:=h;cases r;obtain⟨its,bG,⟨o,e,c,n,d⟩,_⟩:=I.tuple l;obtain⟨as,z⟩:=a8.reads I q bG;exact⟨_,.tuple e c d (by simpa using z)⟩
 |.dict _,_,_,h,_=>h.elim
theorem a8.reads(I:Inv X zn Y H s):∀{ds:List PyData}{xs:List V}{us:List Value},a8 X.K H ds xs->Vals xs us->∃as,ReadsAll s.heap us ds as
 |[],_,_,h,r=>by cases h;cases r;exact⟨_,.nil⟩
 |_::_,_,_,h,r=>by
  obtain⟨x,t,rfl,a,b⟩:=h
  cases r with
  |cons bF b5=>
   obtain⟨as,eH⟩:=Rep.reads I a bF;obtain⟨bs,d7⟩:=a8.reads I b b5;exact⟨_,.cons eH d7⟩
end
end
section
variable{X:aJ}
def zp(K:aM)(neg:Bool):eR:=λx y H Q=>∃d e,Rep K H d x/\Rep K H e y/\apo d=true/\apo e=true/\Q (.au (if neg then !apb d e else apb d e)) H
def DM(cp:X.A.units+64<cLine):dN X (akG .Eq) (zp X.K false):=by
 intro zn s Y H x y v u Q I aU bz h;obtain⟨d,e,a,b,n8,jU,q⟩:=h;obtain⟨as,bx⟩:=a.reads I aU;obtain⟨bs,lK⟩:=b.reads I bz;exact eq_dataH bx lK n8 jU cp ⟨.au _,H,I,rfl,q⟩
def vQ(cp:X.A.units+64<cLine):dN X (akG .NotEq) (zp X.K true):=by
 intro zn s Y H x y v u Q I aU bz h;obtain⟨d,e,a,b,n8,jU,q⟩:=h;obtain⟨as,bx⟩:=a.reads I aU;obtain⟨bs,lK⟩:=b.reads I bz;exact ne_dataH bx lK n8 jU cp ⟨.au _,H,I,rfl,q⟩
end
def Hk:akJ "len"=some (.builtin "len"):=by decide +kernel
def xm:akJ "isinstance"=some (.builtin "isinstance"):=by decide +kernel
def Sg:akJ "max"=some (.builtin "max"):=by decide +kernel
def Sb:akJ "any"=some (.builtin "any"):=by decide +kernel
def Sa:akJ "all"=some (.builtin "all"):=by decide +kernel
def Se:akJ "int"=some (.type "int"):=by decide +kernel
def Sd:akJ "bool"=some (.type "bool"):=by decide +kernel
def Sf:akJ "list"=some (.type "list"):=by decide +kernel
def xn:akJ "tuple"=some (.type "tuple"):=by decide +kernel
def Sj:akJ "str"=some (.type "str"):=by decide +kernel
variable[aX]
def wR(bJ:hG)(H1:ah)(xs:List V):Prop:=∀H,dy H1 H->∀i,(i<xs.length->bJ.go i H/\∀x H',bJ.oo i H x H'->H'=H/\xs[i]? = some x)/\(xs.length<=i->bJ.stop i H)
def Cq{K:aM}{H:ah}{a:Addr}{xs:List V}(h:du K H a xs):wR (l8 K a) H xs:=λH' s i=>
 ⟨λaA=>⟨⟨xs,xs[i],s.seq h,by simp[aA]⟩,λx j4 y=>⟨y.1,y.2 xs (s.seq h)⟩⟩,λaA=>⟨xs,s.seq h,aA⟩⟩
def JJ{K:aM}{H:ah}{a:Addr}{xs:List V}(h:dj K H a xs):wR (rx K a) H xs:=λH' s i=>
 ⟨λaA=>⟨⟨xs,xs[i],s.wa h,by simp[aA]⟩,λx j4 y=>⟨y.1,y.2 xs (s.wa h)⟩⟩,λaA=>⟨xs,s.wa h,aA⟩⟩
def pM(lo:Int)(n:Nat):List V:=(akU n).map λi=>V.int (lo+(i:Nat))
def JI{H:ah}(lo:Int)(n:Nat):wR (ru lo n) H (pM lo n):=λH' s i=>by
 have hl:(pM lo n).length=n:=by unfold pM;rw[aj2,List.length_range]
 refine⟨λaA=>⟨by rw[hl]at aA;exact aA,λx j4 y=>⟨y.1,?_⟩⟩,λaA=>by rw[hl]at aA;exact aA⟩;rw[hl]at aA;rw[y.2];unfold pM;rw[akD,List.getElem?_range aA];rfl
end ax
namespace ax
open PySem PySem.Spec PyProof.Rows
def b1.none{P:aki}{w:World}{K:aM}{mg:a9}{base:Heap}{x:Str}{st:Stmt}{ps:List Str}{k:Nat}{sp:dP}(D:b1 K mg x st ps)(no:∀vs H Q E,¬sp vs H Q E):bT P w K mg base x ps k sp:=by
 obtain⟨f,fd,F,b,m⟩:=D.ex;exact⟨f,fd,⟨λvs H Q E h=>absurd h (no vs H Q E),λA outer s H args us vs Q E _ _ _ _ h=>absurd h (no vs H Q E)⟩,b,F.kp,m⟩
def Zh(K:aM):tQ K:=⟨by
 intro t bC c hc;simp only[aj5,List.mem_nil_iff,or_false]at bC hc;rcases bC with rfl|rfl|rfl|rfl|rfl|rfl<;>rcases hc with rfl|rfl|rfl|rfl|rfl<;>kernel_rfl⟩
def range_any(bs:List Bool):(akU bs.length).any (λi=>bs.getD i false)=bs.any id:=by
 rw[alm,aoD,aoD];constructor
 .rintro⟨i,aA,h⟩
  have jL:=alh.mp aA;refine⟨bs[i],aoE jL,?_⟩;rw[ala,akR jL]at h;exact h
 .rintro⟨b,aa,h⟩
  obtain⟨i,aA,rfl⟩:=List.getElem_of_mem aa;refine⟨i,alh.mpr aA,?_⟩;rw[ala,akR aA];exact h
def range_all(bs:List Bool):(akU bs.length).all (λi=>bs.getD i false)=bs.all id:=by
 rw[alm,alp,alp];constructor
 .intro h b aa
  obtain⟨i,aA,rfl⟩:=List.getElem_of_mem aa;have:=h i (alh.mpr aA);rw[ala,akR aA]at this;exact this
 .intro h i aA
  have jL:=alh.mp aA;rw[ala,akR jL];exact h _ (aoE jL)
section
variable{X:aJ}{K:aM}
def N9{bs:List Bool}{its:List Value}(bG:Vals (bs.map V.au) its):TruthOf prog w A (λi v=>its.toArray[i]? = some v) (λi=>bs.getD i false):=by
 intro i v s Q E bu a6;have o':its[i]? = some v:=by simpa using bu
 have aA:i<bs.length:=by
  have ae:=(aj1.mp o').1;have ag:=bG.length;rw[aj2]at ag;omega
 obtain⟨u,cp,ed⟩:=bG.get (i:=i) (x:=.au bs[i]) (by rw[akD,akR aA];rfl);rw[o']at cp;cases cp;cases ed;have mE:Q (bs.getD i false) s:=a6;rw[ala,akR aA]at mE;exact alg mE
def Sn(hc:X.calm=true):iD X (.builtin "any") (λxs H Q=>∃(l:Addr)(bs:List Bool),xs=[.ref l]/\du X.K H l (bs.map V.au)/\Q (.au (bs.any id)) H):=by
 intro zn s Y H xs us Q I bG h;obtain⟨l,bs,rfl,fc,q⟩:=h;obtain⟨u,rfl,bF⟩:=vals1 bG;cases bF;obtain⟨its,v9,p,hz⟩:=I.list fc;have fC:l<s.heap.objs.size:=by obtain⟨o,n,e,_⟩:=p;exact ake e
 refine call_any_walk (al9 p.isList ?_);refine⟨s.heap.objs.size,_,_,_,_,_,λi=>bs.getD i false,rfl,apc (A:=X.A.in1) (show X.A.in1.handled=none from I.ok.hd hc) s.heap.objs.size l (aku fC) its.toArray,⟨⟨_,akc _ rfl,rfl,rfl⟩,p.isList.at λo e=>ajZ _ e⟩,N9 v9,λh' tk k=>?_⟩;have aF:its.toArray.size=bs.length:=by
  have ag:=v9.length;rw[aj2]at ag;simp[ag]
 rw[aF,range_any];exact⟨.au _,H,I.kept (h':=h') (t':=tk) λb o e=>k b o (by intro z;rw[akE.mp z]at e;exact absurd (ake e) (akM _)) (ajZ _ e),rfl,q⟩
def Sm(hc:X.calm=true):iD X (.builtin "all") (λxs H Q=>∃(l:Addr)(bs:List Bool),xs=[.ref l]/\du X.K H l (bs.map V.au)/\Q (.au (bs.all id)) H):=by
 intro zn s Y H xs us Q I bG h;obtain⟨l,bs,rfl,fc,q⟩:=h;obtain⟨u,rfl,bF⟩:=vals1 bG;cases bF;obtain⟨its,v9,p,hz⟩:=I.list fc;have fC:l<s.heap.objs.size:=by obtain⟨o,n,e,_⟩:=p;exact ake e
 refine call_all_walk (al9 p.isList ?_);refine⟨s.heap.objs.size,_,_,_,_,_,λi=>bs.getD i false,rfl,apc (A:=X.A.in1) (show X.A.in1.handled=none from I.ok.hd hc) s.heap.objs.size l (aku fC) its.toArray,⟨⟨_,akc _ rfl,rfl,rfl⟩,p.isList.at λo e=>ajZ _ e⟩,N9 v9,λh' tk k=>?_⟩;have aF:its.toArray.size=bs.length:=by
  have ag:=v9.length;rw[aj2]at ag;simp[ag]
 rw[aF,range_all];exact⟨.au _,H,I.kept (h':=h') (t':=tk) λb o e=>k b o (by intro z;rw[akE.mp z]at e;exact absurd (ake e) (akM _)) (ajZ _ e),rfl,q⟩
end
section
variable{X:aJ}
def sV{v:V}(a3:dD X x)(h:∃u,X.mg x=some u/\RelV v u)(hd:(x==("__debug__":Str))=false:=by decide):bM X (.Name x pos) (m5 v):=by
 obtain⟨u,hm,r⟩:=h;exact Lw a3 hm r hd
variable[aX]
end
end ax
set_option maxHeartbeats 1000000
namespace aE
open PySem PySem.Spec ax
variable[ax.aX]
inductive D where
 |aN|au (b:Bool)|int (i:Int)|str (x:Str)|tup (xs:List D)|lst (xs:List D)|ref (n:Nat)|fn (f:Str)|ty (n:String)
inductive Slot where
 |e|v (d:D)|e2 (p:Bool) (xs:List D)|b8 (xs:List D)
abbrev aQ:=List Slot
inductive hW where
 |lst (xs:List D)|nz (aC:List (Key×D))|e0 (aC:List (List Key×D))|bh (c:Str) (fs:List (Str×D))
abbrev cJ:=List hW
inductive Out(α:Type) where
 |ok (a:α) (S:cJ)|exc (c:Str) (S:cJ)|bad
structure M(α:Type):Type where
 run:cJ->Out α
 d6:∀S a ar,run S=.ok a ar->ar=S
def M.jb{α β:Type}(m:M α)(f:α->M β):M β:=⟨λS=>match m.run S with
 |.ok a ar=>(f a).run ar|.exc c ar=>.exc c ar|.bad=>.bad,λS b ar h=>by
  cases e:m.run S with
  |ok a S1=>rw[e]at h;exact((f a).d6 _ _ _ h).trans (m.d6 _ _ _ e)|exc c S1=>rw[e]at h;cases h
  |bad=>rw[e]at h;cases h⟩
noncomputable instance:Monad M where
 pure a:=⟨λS=>.ok a S,λ_ _ _ h=>by cases h;rfl⟩
 bind:=M.jb
omit [ax.aX]in
theorem M.ext{α:Type}{x y:M α}(h:∀S,x.run S=y.run S):x=y:=by
 cases x with|mk f p=>cases y with|mk g q=>obtain rfl:f=g:=funext h;rfl
omit [ax.aX]in
theorem M.R5{α β:Type}(m:M α)(f:α->M β):(m >>= f)=M.jb m f:=rfl
instance:LawfulMonad M:=LawfulMonad.mk'
 (id_map:=λx=>M.ext λS=>by show(M.jb x (λa=>pure (id a))).run S=x.run S;unfold M.jb;dsimp only;cases x.run S<;>rfl)
 (pure_bind:=λx f=>rfl)
 (bind_assoc:=λx f g=>M.ext λS=>by show(M.jb (M.jb x f) g).run S=(M.jb x (λa=>M.jb (f a) g)).run S;unfold M.jb;dsimp only;cases x.run S<;>rfl)
 (bind_pure_comp:=λf x=>rfl)
def bad{α:Type}:M α:=⟨λ_=>.bad,λ_ _ _ h=>by cases h⟩
omit [ax.aX]in
theorem M.inv{α β:Type}{m:M α}{f:α->M β}{S ar:cJ}{b:β}(h:(m >>= f).run S=.ok b ar):∃a S1,m.run S=.ok a S1/\(f a).run S1=.ok b ar:=by
 rw[M.R5]at h;unfold M.jb at h;dsimp only at h
 cases e:m.run S with
 |ok a S1=>rw[e]at h;exact⟨a,S1,rfl,h⟩|exc c S1=>rw[e]at h;cases h
 |bad=>rw[e]at h;cases h
def ik(p:Prop)[Decidable p]:M Unit:=if p then pure ()else bad
omit [ax.aX]in
theorem SI{p:Prop}[Decidable p](h:p):ik p=pure ():=if_pos h
omit [ax.aX]in
theorem rS{p:Prop}[Decidable p](h:(ik p).run S=.ok u ar):p/\S=ar:=by
 unfold ik at h
 by_cases aL:p
 .rw[if_pos aL]at h;cases h;exact⟨aL,rfl⟩
 .rw[if_neg aL]at h;cases h
inductive R where
 |v (d:D)|fr (xs:List D)|b8 (xs:List D)|mv (xs:List D)
abbrev bf:=aQ->M R
inductive Own where
 |free|out|dB|loc (i:Nat)
 deriving DecidableEq
structure a0 where
 own:Addr->Own
 bI:List Addr
instance:CoeFun a0 (λ_=>Addr->Own):=⟨a0.own⟩
def Ad(K:aM)(a:Addr)(xs:List V):Prop:=
 ∃(o:Obj)(its:Array Value)(n:Nat),K.lookup a=some o/\o.cls=.type "list"/\o.dict=none/\o.data=.seq its n/\its.size<=aj6/\Vals xs its.toList
def ry(_:aM)(O:a0)(H:ah)(a:Addr)(ys:List V):Prop:=H a=some (.lst ys)/\O a=.free
mutual
def Rep(K:aM)(mg:a9)(O:a0)(H:ah):D->V->Prop
 |.aN,v=>v=.aN|.au b,v=>v=.au b|.int i,v=>v=.int i|.str x,v=>v=.str x|.tup xs,v=>∃a ys,v=.ref a/\dj K H a ys/\a8 K mg O H xs ys|.lst xs,v=>∃a ys,v=.ref a/\ry K O H a ys/\a8 K mg O H xs ys|.ref n,v=>∃a,v=.ref a/\O.bI[n]? = some a|.fn f,v=>∃a,v=.ref a/\mg f=some (.ref a)|.ty n,v=>v=.ty n
def a8(K:aM)(mg:a9)(O:a0)(H:ah):List D->List V->Prop
 |[],ys=>ys=[]|x::xs,ys=>∃y r,ys=y::r/\Rep K mg O H x y/\a8 K mg O H xs r
end
structure Go(O ak:a0)(H H':ah):Prop where
 same:dy H H'
 own:∀b,H b≠none->ak b=O b
 bI:ak.bI=O.bI
def Go.refl(O:a0)(H:ah):Go O O H H:=⟨dy.refl _,λ_ _=>rfl,rfl⟩
def Go.trans{O aH a_:a0}{H H1 aK:ah}(a:Go O aH H H1)(b:Go aH a_ H1 aK):Go O a_ H aK:=
 ⟨a.same.trans b.same,λc h=>(b.own c (a.same.some h)).trans (a.own c h),b.bI.trans a.bI⟩
def fi.same{H H':ah}(s:dy H H')(h:fi H a u)(n:lE u:=by exact trivial):fi H' a u:=by
 rcases h with h|⟨o,h⟩
 .exact .inl (s.at' _ _ h n)
 .exact .inr ⟨o,s.at' _ _ h⟩
omit [ax.aX]in
theorem fi.some{H:ah}(h:fi H a u):H a≠none:=by
 rcases h with h|⟨o,h⟩<;>rw[h]<;>intro z<;>cases z
def ry.dv{O:a0}{H:ah}(h:ry K O H a ys):du K H a ys:=du.of h.1
def hr(K:aM)(O:a0)(H:ah)(a:Addr)(ys:List V):Prop:=(fi H a (.lst ys)/\(O a=.free\/O a=.out))\/Ad K a ys
def hr.dv{O:a0}{H:ah}(h:hr K O H a ys):du K H a ys:=h.elim (λz=>.inl z.1) .inr
def hr.go{O ak:a0}{H H':ah}(g:Go O ak H H')(h:hr K O H a ys):hr K ak H' a ys:=by
 rcases h with⟨l,f⟩|l
 .exact .inl ⟨fi.same g.same l,by rw[g.own a (fi.some l)];exact f⟩
 .exact .inr l
def ry.go{O ak:a0}{H H':ah}(g:Go O ak H H')(h:ry K O H a ys):ry K ak H' a ys:=by
 exact⟨g.same.at' _ _ h.1,(g.own a (by rw[h.1];intro z;cases z)).trans h.2⟩
section
variable{K:aM}{mg:a9}{O ak:a0}{H H':ah}
mutual
theorem Rep.go(g:Go O ak H H'):∀{d:D}{v:V},Rep K mg O H d v->Rep K mg ak H' d v
 |.aN,_,h=>h|.au _,_,h=>h|.int _,_,h=>h|.str _,_,h=>h| .tup _,_,h=>by obtain⟨a,ys,q,l,r⟩:=h;exact⟨a,ys,q,g.same.wa l,a8.go g r⟩
 |.lst _,_,h=>by obtain⟨a,ys,q,l,r⟩:=h;exact⟨a,ys,q,l.go g,a8.go g r⟩
 |.ref _,_,h=>by obtain⟨a,q,l⟩:=h;exact⟨a,q,by rw[g.bI];exact l⟩
 |.fn _,_,h=>h|.ty _,_,h=>h
theorem a8.go(g:Go O ak H H'):∀{ds:List D}{ys:List V},a8 K mg O H ds ys->a8 K mg ak H' ds ys
 |[],_,h=>h| _::_,_,h=>by obtain⟨x,r,q,a,b⟩:=h;exact⟨x,r,q,Rep.go g a,a8.go g b⟩
end
structure l6(O ak:a0):Prop where
 fr:∀a,O a=.free->ak a=.free
 bI:ak.bI=O.bI
mutual
theorem Rep.dc(g:l6 O ak):∀{d:D}{v:V},Rep K mg O H d v->Rep K mg ak H d v
 |.aN,_,h=>h|.au _,_,h=>h|.int _,_,h=>h|.str _,_,h=>h| .tup _,_,h=>by obtain⟨a,ys,q,l,r⟩:=h;exact⟨a,ys,q,l,a8.dc g r⟩
 |.lst _,_,h=>by obtain⟨a,ys,q,l,r⟩:=h;exact⟨a,ys,q,⟨l.1,g.fr _ l.2⟩,a8.dc g r⟩
 |.ref _,_,h=>by obtain⟨a,q,l⟩:=h;exact⟨a,q,by rw[g.bI];exact l⟩
 |.fn _,_,h=>h|.ty _,_,h=>h
theorem a8.dc(g:l6 O ak):∀{ds:List D}{ys:List V},a8 K mg O H ds ys->a8 K mg ak H ds ys
 |[],_,h=>h| _::_,_,h=>by obtain⟨x,r,q,a,b⟩:=h;exact⟨x,r,q,Rep.dc g a,a8.dc g b⟩
end
theorem a8.len:∀{ds:List D}{xs:List V},a8 K mg O H ds xs->xs.length=ds.length
 |[],_,h=>by cases h;rfl
 |_::_,_,h=>by obtain⟨x,r,rfl,_,b⟩:=h;rw[akn,akn,a8.len b]
theorem a8.get:∀{ds:List D}{xs:List V}{i:Nat}{d:D},a8 K mg O H ds xs->ds[i]? = some d->∃x,xs[i]? = some x/\Rep K mg O H d x
 |[],_,_,_,_,e=>by simp at e| _::_,_,0,d,h,e=>by obtain⟨x,r,rfl,a,_⟩:=h;cases(show some _=some d from e);exact⟨x,rfl,a⟩
 |_::ds,_,i+1,d,h,e=>by
  obtain⟨x,r,rfl,_,b⟩:=h;obtain⟨y,aw,aG⟩:=a8.get (i:=i) b (by simpa using e);exact⟨y,by simpa using aw,aG⟩
theorem a8.Iu:∀{ds:List D}{xs:List V}{i:Nat}{x:V},a8 K mg O H ds xs->xs[i]? = some x->∃d,ds[i]? = some d/\Rep K mg O H d x
 |[],_,_,_,h,e=>by cases h;simp at e
 |_::_,_,0,x,h,e=>by obtain⟨y,r,rfl,a,_⟩:=h;cases(show some _=some x from e);exact⟨_,rfl,a⟩
 |_::ds,_,i+1,d,h,e=>by
  obtain⟨x,r,rfl,_,b⟩:=h;obtain⟨y,aw,aG⟩:=a8.Iu (i:=i) b (by simpa using e);exact⟨y,by simpa using aw,aG⟩
theorem a8.append:∀{ds ay:List D}{xs ys:List V},a8 K mg O H ds xs->a8 K mg O H ay ys->a8 K mg O H (ds++ay) (xs++ys)
 |[],_,_,_,h,q=>by cases h;exact q
 |_::_,_,_,_,h,q=>by obtain⟨x,r,rfl,a,b⟩:=h;exact⟨x,_,rfl,a,a8.append b q⟩
def a8.one(h:Rep K mg O H d x):a8 K mg O H [d] [x]:=⟨x,[],rfl,h,rfl⟩
theorem a8.take:∀{ds:List D}{xs:List V}(n:Nat),a8 K mg O H ds xs->a8 K mg O H (ds.take n) (xs.take n)
 |[],_,_,h=>by cases h;rw[apg,apg];rfl
 |_::_,_,0,_=>by rw[ao7,ao7];rfl| _::_,_,n+1,h=>by obtain⟨x,r,rfl,a,b⟩:=h;exact⟨x,_,rfl,a,a8.take n b⟩
theorem a8.drop:∀{ds:List D}{xs:List V}(n:Nat),a8 K mg O H ds xs->a8 K mg O H (ds.drop n) (xs.drop n)
 |[],_,_,h=>by cases h;rw[List.drop_nil,List.drop_nil];rfl
 |_::_,_,0,h=>h| _::_,_,n+1,h=>by obtain⟨x,r,rfl,a,b⟩:=h;exact a8.drop n b
def L8(ns:List Int):a8 K mg O H (ns.map D.int) (ns.map V.int):=by
 induction ns with
 |nil=>rfl|cons n r aZ=>exact⟨.int n,_,rfl,rfl,aZ⟩
def dO{κ:Type}(K:aM)(mg:a9)(O:a0)(H:ah)(aC:List (κ×D))(de:List (κ×V)):Prop:=aC.map (·.1)=de.map (·.1)/\a8 K mg O H (aC.map (·.2)) (de.map (·.2))
def ei(K:aM)(mg:a9)(O:a0)(H:ah):R->V->Prop
 |.v d,v=>Rep K mg O H d v|.fr xs,v=>∃a ys,v=.ref a/\H a=some (.lst ys)/\O a=.dB/\a8 K mg O H xs ys|.b8 xs,v=>∃a ys,v=.ref a/\hr K O H a ys/\a8 K mg O H xs ys|.mv xs,v=>∃a ys,v=.ref a/\H a=some (.lst ys)/\a8 K mg O H xs ys
def ei.go(g:Go O ak H H'):∀{r:R}{v:V},ei K mg O H r v->ei K mg ak H' r v
 |.v _,_,h=>Rep.go g h| .fr _,_,h=>by obtain⟨a,ys,q,l,o,r⟩:=h;exact⟨a,ys,q,g.same.at' _ _ l,(g.own a (by rw[l];intro z;cases z)).trans o,r.go g⟩
 |.b8 _,_,h=>by obtain⟨a,ys,q,l,r⟩:=h;exact⟨a,ys,q,l.go g,r.go g⟩
 |.mv _,_,h=>by obtain⟨a,ys,q,l,r⟩:=h;exact⟨a,ys,q,g.same.at' _ _ l,r.go g⟩
theorem a8.imp{ak:a0}(f:∀d v,Rep K mg O H d v->Rep K mg ak H' d v):∀{ds:List D}{ys:List V},a8 K mg O H ds ys->a8 K mg ak H' ds ys
 |[],_,h=>h| _::_,_,h=>by obtain⟨x,r,q,a,b⟩:=h;exact⟨x,r,q,f _ _ a,a8.imp f b⟩
def OU(K:aM)(mg:a9)(c:Str)(C:Addr):Prop:=mg c=some (.ref C)/\hT K C
def iJ(K:aM)(mg:a9)(O:a0)(H:ah)(w:Own):Slot->Option V->Prop
 |.e,_=>True|.v d,u=>∃v,u=some v/\Rep K mg O H d v|.e2 _ xs,u=>∃a ys,u=some (.ref a)/\O a=w/\H a=some (.lst ys)/\a8 K mg O H xs ys|.b8 xs,u=>∃a ys,u=some (.ref a)/\hr K O H a ys/\a8 K mg O H xs ys
def iJ.go(g:Go O ak H H'):∀{s:Slot}{u:Option V},iJ K mg O H w s u->iJ K mg ak H' w s u
 |.e,_,_=>trivial| .v _,_,h=>by obtain⟨v,q,r⟩:=h;exact⟨v,q,r.go g⟩
 |.e2 _ _,_,h=>by obtain⟨a,ys,q,o,l,r⟩:=h;exact⟨a,ys,q,(g.own a (by rw[l];intro z;cases z)).trans o,g.same.at' _ _ l,r.go g⟩
 |.b8 _,_,h=>by
  obtain⟨a,ys,q,l,r⟩:=h;exact⟨a,ys,q,l.go g,r.go g⟩
end
def iI(O:a0):Prop:=O.bI.Nodup/\∀a∈O.bI,O a=.out
structure c5(O:a0)(H:ah):Prop where
 has:∀a,O a≠.free->H a≠none
 tabs:TabsOk H
 b9:iI O
def mb(K:aM)(mg:a9)(O:a0)(H:ah)(a:Addr):hW->Prop
 |.lst xs=>∃ys,H a=some (.lst ys)/\a8 K mg O H xs ys|.nz aC=>∃de,H a=some (.hu de)/\dO K mg O H aC de|.e0 aC=>∃de,H a=some (.gz de)/\dO K mg O H aC de|.bh c fs=>∃C bU iP,H a=some (.ins C bU iP)/\OU K mg c C/\dO K mg O H fs iP
def fP(K:aM)(mg:a9)(O:a0)(H:ah)(S:cJ):Prop:=∀(n:Nat)(o:hW),S[n]? = some o->∃a,O.bI[n]? = some a/\mb K mg O H a o
def mb.all{O ak:a0}{H H':ah}(f:∀d v,Rep K mg O H d v->Rep K mg ak H' d v)(g:∀u,H a=some u->lE u->H' a=some u):∀{o:hW},mb K mg O H a o->mb K mg ak H' a o
 |.lst _,h=>by obtain⟨ys,l,r⟩:=h;exact⟨ys,g _ l trivial,r.imp f⟩
 |.nz _,h=>by obtain⟨ys,l,e,r⟩:=h;exact⟨ys,g _ l trivial,e,r.imp f⟩
 |.e0 _,h=>by obtain⟨ys,l,e,r⟩:=h;exact⟨ys,g _ l trivial,e,r.imp f⟩
 |.bh _ _,h=>by obtain⟨C,bU,iP,l,c,e,r⟩:=h;exact⟨C,bU,iP,g _ l trivial,c,e,r.imp f⟩
def fP.all{O ak:a0}{H H':ah}(s:fP K mg O H S)(f:∀d v,Rep K mg O H d v->Rep K mg ak H' d v)(e:ak.bI=O.bI)(g:∀a∈O.bI,∀u,H a=some u->lE u->H' a=some u):fP K mg ak H' S:=λn o h=>by
 obtain⟨a,ae,ag⟩:=s n o h;exact⟨a,by rw[e];exact ae,ag.all f (g a (akQ ae))⟩
def fP.go{O ak:a0}{H H':ah}(s:fP K mg O H S)(g:Go O ak H H'):fP K mg ak H' S:=
 s.all (λ_ _ z=>Rep.go g z) g.bI λa _ u l n=>g.same.at' _ _ l n
def fP.nil{O:a0}{H:ah}:fP K mg O H []:=λn o h=>by cases n<;>cases h
structure ct(K:aM)(mg:a9)(O:a0)(Y:aQ)(S:cJ)(aq:St)(H:ah):Prop where
 b_:c5 O H
 len:Y.length=aq.length
 loc:∀i s,Y[i]? = some s->iJ K mg O H (.loc i) s (aq[i]?.join)
 fJ:fP K mg O H S
def ct.go{O ak:a0}{H H':ah}(h:ct K mg O Y S aq H)(g:Go O ak H H')(d:c5 ak H'):ct K mg ak Y S aq H':=
 ⟨d,h.len,λi s e=>(h.loc i s e).go g,h.fJ.go g⟩
def gn(O:a0)(a:Addr)(o:Own):a0:=⟨λb=>if b=a then o else O b,O.bI⟩
omit [ax.aX]in
theorem pS{O:a0}:gn O a o a=o:=if_pos rfl
omit [ax.aX]in
theorem og{O:a0}(h:b≠a):gn O a o b=O b:=if_neg h
section
variable{K:aM}{mg:a9}{O:a0}{Y:aQ}{S:cJ}{aq:St}{H:ah}{p:Addr}{u:f'}{o:Own}
def Go.new(aL:H p=none):Go O (gn O p o) H (upd H p u):=
 ⟨i2 aL u,λb aa=>og (by rintro rfl;exact aa aL),rfl⟩
def Go.fU(aL:H p=none):Go O O H (upd H p u):=⟨i2 aL u,λ_ _=>rfl,rfl⟩
def c5.new(d:c5 O H)(aL:H p=none):c5 (gn O p o) (upd H p u):=⟨λa ao=>by
 by_cases e:a=p
 .subst e;rw[dn];intro z;cases z
 .rw[cG e];rw[og e]at ao;exact d.has a ao,d.tabs.new aL u,d.b9.1,λa h=>by rw[og (by rintro rfl;exact d.has _ (by rw[d.b9.2 _ h];intro z;cases z) aL)];exact d.b9.2 a h⟩
def c5.same(d:c5 O H)(s:dy H H'):c5 O H':=⟨λa ao=>s.some (d.has a ao),s.b4 d.tabs,d.b9⟩
def c5.free(d:c5 O H)(aL:H p=none):O p=.free:=by
 cases e:O p with
 |free=>rfl| _=>exact absurd aL (d.has p (by rw[e];intro z;cases z))
def ct.new(h:ct K mg O Y S aq H)(aL:H p=none):ct K mg (gn O p o) Y S aq (upd H p u):=h.go (Go.new aL) (h.b_.new aL)
def ct.fU(h:ct K mg O Y S aq H)(aL:H p=none):ct K mg O Y S aq (upd H p u):=h.go (Go.fU aL) (h.b_.same (i2 aL u))
end
def iH(H:ah):R->V->Prop
 |.fr _,v=>∀a,v=.ref a->H a=none|_,_=>True
def iH.back{H H1:ah}(s:dy H H1):∀{r:R}{v:V},iH H1 r v->iH H r v
 |.v _,_,_=>trivial|.b8 _,_,_=>trivial|.mv _,_,_=>trivial|.fr _,_,h=>λa e=>s.free (h a e)
def jB(H:ah):List R->List V->Prop
 |r::rs,v::vs=>iH H r v/\jB H rs vs|_,_=>True
theorem jB.back{H H1:ah}(s:dy H H1):∀{rs:List R}{vs:List V},jB H1 rs vs->jB H rs vs
 |[],_,_=>trivial|_::_,[],_=>trivial|_::_,_::_,h=>⟨h.1.back s,jB.back s h.2⟩
def w1(K:aM)(mg:a9)(O:a0)(Y:aQ)(ar:cJ)(aq:St)(H:ah)(r:R)(Q:cD):Prop:=
 ∀ak v H',Go O ak H H'->ct K mg ak Y ar aq H'->ei K mg ak H' r v->iH H r v->Q v H'
inductive oI{α:Type}(K:aM)(mg:a9)(m:aQ->M α)(aq:St)(H:ah)(P:a0->aQ->cJ->α->Prop):Prop
 |mk (O:a0) (Y:aQ) (S:cJ) (x:α) (ar:cJ) (st:ct K mg O Y S aq H) (h:(m Y).run S=.ok x ar) (q:P O Y ar x):oI K mg m aq H P
def e8(K:aM)(mg:a9)(m:bf):TE:=λaq H Q=>oI K mg m aq H λO Y ar r=>w1 K mg O Y ar aq H r Q
def lP(K:aM)(mg:a9)(m:aQ->M Bool):TT:=λaq H Q=>oI K mg m aq H λO Y ar b=>∀ak H',Go O ak H H'->ct K mg ak Y ar aq H'->Q b H'
abbrev g7(X:aJ)(e:Expr)(m:bf):Prop:=bM X e (e8 X.K X.mg m)
abbrev Fo(X:aJ)(e:Expr)(m:aQ->M Bool):Prop:=hX X e (lP X.K X.mg m)
abbrev wM(X:aJ)(e:Expr)(m:aQ->M Bool):Prop:=j7 X e (lP X.K X.mg m)
def fN(K:aM)(mg:a9)(O:a0)(H:ah):List R->List V->Prop
 |[],ys=>ys=[]|x::xs,ys=>∃y r,ys=y::r/\ei K mg O H x y/\fN K mg O H xs r
theorem fN.go{O ak:a0}{H H':ah}(g:Go O ak H H'):∀{rs:List R}{ys:List V},fN K mg O H rs ys->fN K mg ak H' rs ys
 |[],_,h=>h| _::_,_,h=>by obtain⟨x,r,q,a,b⟩:=h;exact⟨x,r,q,a.go g,fN.go g b⟩
theorem fN.len{O:a0}{H:ah}:∀{rs:List R}{ys:List V},fN K mg O H rs ys->ys.length=rs.length
 |[],_,h=>by cases h;rfl
 |_::_,_,h=>by obtain⟨x,r,rfl,_,b⟩:=h;rw[akn,akn,fN.len b]
abbrev cU:=aQ->M (List R)
def m6(K:aM)(mg:a9)(m:cU):fj:=λaq H Q=>oI K mg m aq H λO Y ar rs=>∀ak vs H',Go O ak H H'->ct K mg ak Y ar aq H'->fN K mg ak H' rs vs->jB H rs vs->Q vs H'
abbrev z8(X:aJ)(ay:List Expr)(m:cU):Prop:=gd X ay (m6 X.K X.mg m)
def dK{t t':TE}(h:bM X e t)(i:∀Y H Q,t' Y H Q->t Y H Q):bM X e t':=λzn s Y H Q I q=>h zn s Y H Q I (i _ _ _ q)
def qX{t t':TT}(h:hX X e t)(i:∀Y H Q,t' Y H Q->t Y H Q):hX X e t':=λzn s Y H Q I q=>h zn s Y H Q I (i _ _ _ q)
def D5{t t':TT}(h:j7 X e t)(i:∀Y H Q,t' Y H Q->t Y H Q):j7 X e t':=λrf zn s Y H Q I q=>h rf zn s Y H Q I (i _ _ _ q)
def qT{t t':fj}(h:gd X ay t)(i:∀Y H Q,t' Y H Q->t Y H Q):gd X ay t':=λpos zn s Y H Q I q=>h pos zn s Y H Q I (i _ _ _ q)
@[simp] def U(i:Nat)(Y:aQ):M R:=match Y[i]? with
 |some (.v d)=>pure (.v d)|some (.e2 _ xs)=>pure (.mv xs)|some (.b8 xs)=>pure (.b8 xs)|_=>bad
def af(d:D):bf:=λ_=>pure (.v d)
section
variable{X:aJ}{a b c e:Expr}{cA cE eD m:bf}{bR:aQ->M Bool}
def ua{v:V}(h:bM X e (m5 v))(r:∀O H,Rep X.K X.mg O H d v):g7 X e (af d):=dK h λaq H Q aO=>by
 obtain⟨O,Y,S,bH,ar,st,h,q⟩:=aO;cases h;exact q O v H (Go.refl _ _) st (r O H) trivial
@[simp] def av(f:R->R->M R)(a b:bf)(Y:aQ):M R:=do
 let x <-a Y
 let y <-b Y
 f x y
def dS(K:aM)(mg:a9)(r:eR)(f:R->R->M R):Prop:=
 ∀O Y S aq H x y aU bz bH ar (Q:cD),ct K mg O Y S aq H->ei K mg O H aU x->ei K mg O H bz y->(f aU bz).run S=.ok bH ar->w1 K mg O Y ar aq H bH Q->r x y H Q
def t5{r:eR}(hf:dS K mg r f):∀aq H Q,e8 K mg (av f cA cE) aq H Q->tf r (e8 K mg cA) (e8 K mg cE) aq H Q:=by
 rintro aq H Q ⟨O,Y,S,bH,ar,st,h,q⟩;obtain⟨x,S1,ae,h⟩:=M.inv h;obtain⟨y,a7,ag,h⟩:=M.inv h;refine⟨O,Y,S,x,S1,st,ae,λaH es H1 g1 aP aU bw=>?_⟩;refine⟨aH,Y,S1,y,a7,aP,ag,λa_ pT aK g2 cf bz Dr=>?_⟩;exact hf a_ Y a7 aq aK es pT x y bH ar Q cf (aU.go g2) bz h λak v H' g bW ba nn=>q ak v H' ((g1.trans g2).trans g) bW ba (nn.back (g1.trans g2).same)
def R.ob:R->M Bool
 |.v (.au b)=>pure b|_=>bad
@[simp] def br(m:bf)(Y:aQ):M Bool:=do
 let x <-m Y
 x.ob
omit [ax.aX]in
theorem ti{r:R}{b:Bool}{S ar:cJ}(h:r.ob.run S=.ok b ar):r=.v (.au b)/\S=ar:=by
 cases r with
 |v d=>cases d<;>cases h<;>exact⟨rfl,rfl⟩
 |fr _=>cases h
 |b8 _=>cases h
 |mv _=>cases h
def Ex:∀aq H Q,lP K mg (br m) aq H Q->wm (e8 K mg m) aq H Q:=by
 rintro aq H Q ⟨O,Y,S,t,ar,st,h,q⟩;obtain⟨x,S1,ae,h⟩:=M.inv h;obtain⟨rfl,rfl⟩:=ti h;exact⟨O,Y,S,_,_,st,ae,λak v H' g bW ba _=>⟨t,ba,q ak H' g bW⟩⟩
def NZ{t t':TE}(i:∀Y H Q,t' Y H Q->t Y H Q):∀Y H Q,wm t' Y H Q->wm t Y H Q:=λY H Q q=>i _ _ _ q
@[simp] def hZ(f g:R->R->M R)(a b c:bf)(Y:aQ):M R:=do
 let x <-a Y
 let y <-b Y
 let z <-f x y
 let t <-z.ob
 if t=true then do
  let w <-c Y
  g y w
 else pure (.v (.au false))
def Hm{r bH:eR}(hf:dS K mg r f)(a3:dS K mg bH g):∀aq H Q,e8 K mg (hZ f g cA cE eD) aq H Q->Eu r bH (e8 K mg cA) (e8 K mg cE) (e8 K mg eD) aq H Q:=by
 rintro aq H Q ⟨O,Y,S,bH,ar,st,h,q⟩;obtain⟨x,S1,ae,h⟩:=M.inv h;obtain⟨y,a7,ag,h⟩:=M.inv h;obtain⟨z,gw,bO,h⟩:=M.inv h;obtain⟨t,ni,cO,h⟩:=M.inv h;obtain⟨rfl,rfl⟩:=ti cO;refine⟨O,Y,S,x,S1,st,ae,λaH es H1 g1 aP aU bw=>?_⟩;refine⟨aH,Y,S1,y,a7,aP,ag,λa_ pT aK g2 cf bz Dr=>?_⟩;refine hf a_ Y a7 aq aK es pT x y _ _ _ cf (aU.go g2) bz bO λd_ kA cI g3 f6 ba _=>⟨t,ba,?_⟩
 have BC:=(g1.trans g2).trans g3
 cases t with
 |false=>
  rw[if_neg aj7]at h;cases h;exact mH (q d_ _ cI BC f6 rfl trivial)
 |true=>
  rw[if_pos rfl]at h;obtain⟨w,p7,dV,h⟩:=M.inv h;refine mI ⟨d_,Y,_,w,p7,f6,dV,λO_ b8 gu kY ta rw nw=>?_⟩;exact a3 O_ Y p7 aq gu pT b8 y w _ ar Q ta (bz.go (g3.trans kY)) rw h λak v H' g bW ba nn=>q ak v H' ((BC.trans kY).trans g) bW ba (nn.back (BC.trans kY).same)
@[simp] def jc(a b:bf)(Y:aQ):M R:=do
 let x <-a Y
 let t <-x.ob
 if t=true then b Y else pure (.v (.au false))
def t9(a:bf):bf:=λY=>do
 let x <-a Y
 let t <-x.ob
 pure (.v (.au (!t)))
def ky(a b:aQ->M Bool):aQ->M Bool:=λY=>do
 let t <-a Y
 if t=true then b Y else pure false
@[simp] def gm(a b:aQ->M Bool)(Y:aQ):M Bool:=do
 let t <-a Y
 if t=true then pure true else b Y
@[simp] def eF(a:aQ->M Bool)(Y:aQ):M Bool:=do
 let t <-a Y
 pure (!t)
def wM.cb(h:wM X a bR):Fo X a bR:=h.pt
end
def qM(g:Int->Int->Int):R->R->M R
 |.v (.int i),.v (.int j)=>pure (.v (.int (g i j)))|_,_=>bad
def n3(C:Int->Int->Prop)[∀i j,Decidable (C i j)](g:Int->Int->Int):R->R->M R
 |.v (.int i),.v (.int j)=>if C i j then pure (.v (.int (g i j)))else bad|_,_=>bad
def sI(g:Int->Int->Bool):R->R->M R
 |.v (.int i),.v (.int j)=>pure (.v (.au (g i j)))|_,_=>bad
section
variable{K:aM}{mg:a9}
def xk{g:Int->Int->Int}:dS K mg (hQ λi j=>.int (g i j)) (qM g):=λO Y S aq H x y aU bz bH ar Q st ai a' h q=>by
 unfold qM at h;split at h
 .rename_i i j
  cases h;exact⟨i,j,ai,a',q O _ H (Go.refl _ _) st rfl trivial⟩
 .cases h
def rJ{C:Int->Int->Prop}{i7:Int->Int->Prop}[∀i j,Decidable (i7 i j)]{g:Int->Int->Int}(ec:∀i j,i7 i j->C i j):dS K mg (ju C λi j=>.int (g i j)) (n3 i7 g):=λO Y S aq H x y aU bz bH ar Q st ai a' h q=>by
 unfold n3 at h;split at h
 .rename_i i j
  by_cases c:i7 i j
  .rw[if_pos c]at h
   cases h;exact⟨i,j,ai,a',ec i j c,q O _ H (Go.refl _ _) st rfl trivial⟩
  .rw[if_neg c]at h;cases h
 .cases h
def AQ{g:Int->Int->Bool}:dS K mg (hQ λi j=>.au (g i j)) (sI g):=λO Y S aq H x y aU bz bH ar Q st ai a' h q=>by
 unfold sI at h;split at h
 .rename_i i j
  cases h;exact⟨i,j,ai,a',q O _ H (Go.refl _ _) st rfl trivial⟩
 .cases h
end
abbrev jr:=qM (· + ·)
abbrev n4:=qM (· - ·)
abbrev oMod:=n3 (λ_ j=>0<j) (· % ·)
abbrev lG:=n3 (λi j=>0<=j/\j<=1000000/\i.natAbs<2 ^ 64) (λi j=>i ^ j.toNat)
abbrev Dv:=n3 (λi j=>0<=j/\j<=1000000/\i.natAbs<2 ^ 64) (λi j=>i*2 ^ j.toNat)
abbrev Dw:=n3 (λ_ j=>0<=j) (λi j=>i / 2 ^ j.toNat)
abbrev y8:=qM amD
abbrev sJ:=qM anl
abbrev oLt:=sI λi j=>decide (i<j)
abbrev oLe:=sI λi j=>decide (i<=j)
abbrev sL:=sI λi j=>decide (j<=i)
section
variable{X:aJ}
def PG:dS X.K X.mg (hQ λi j=>.int (i+j)) jr:=xk
def PS:dS X.K X.mg (hQ λi j=>.int (i-j)) n4:=xk
def PM:dS X.K X.mg (ju (λ_ j=>0<j) λi j=>.int (i % j)) oMod:=rJ λ_ _ h=>h
def PO:dS X.K X.mg (ju wL λi j=>.int (i ^ j.toNat)) lG:=rJ λ_ _ h=>h
def PQ:dS X.K X.mg (ju wL λi j=>.int (i*2 ^ j.toNat)) Dv:=rJ λ_ _ h=>h
def PR:dS X.K X.mg (ju (λ_ j=>0<=j) λi j=>.int (i / 2 ^ j.toNat)) Dw:=rJ λ_ _ h=>h
def PH:dS X.K X.mg (hQ λi j=>.int (amD i j)) y8:=xk
def PI:dS X.K X.mg (hQ λi j=>.int (anl i j)) sJ:=xk
def FW:dS X.K X.mg (hQ λi j=>.au (decide (i<j))) oLt:=AQ
def rI:dS X.K X.mg (hQ λi j=>.au (decide (i<=j))) oLe:=AQ
def FR:dS X.K X.mg (hQ λi j=>.au (decide (j<=i))) sL:=AQ
end
@[simp] def bE(f:R->M R)(a:bf)(Y:aQ):M R:=do
 let x <-a Y
 f x
def y9:R->M R
 |.v (.int i)=>pure (.v (.int (-i)))|_=>bad
def R.fG:R->Option (List D)
 |.v (.lst xs)=>some xs|.fr xs=>some xs|.b8 xs=>some xs|.mv xs=>some xs|_=>none
def R.Ez:R->Option (List D)
 |.v (.tup xs)=>some xs|_=>none
def R.seq(r:R):Option (List D):=r.fG<|> r.Ez
def R.ph{K:aM}{mg:a9}{O:a0}{H:ah}{r:R}{v:V}{xs:List D}(h:ei K mg O H r v)(e:r.fG=some xs):∃a ys,v=.ref a/\du K H a ys/\a8 K mg O H xs ys:=by
 unfold R.fG at e;split at e
 .cases e;obtain⟨a,ys,q,l,r⟩:=h;exact⟨a,ys,q,l.dv,r⟩
 .cases e;obtain⟨a,ys,q,l,_,r⟩:=h;exact⟨a,ys,q,du.of l,r⟩
 .cases e;obtain⟨a,ys,q,l,r⟩:=h;exact⟨a,ys,q,l.dv,r⟩
 .cases e;obtain⟨a,ys,q,l,r⟩:=h;exact⟨a,ys,q,du.of l,r⟩
 .cases e
def R.afc{K:aM}{mg:a9}{O:a0}{H:ah}{r:R}{v:V}{xs:List D}(h:ei K mg O H r v)(e:r.Ez=some xs):∃a ys,v=.ref a/\dj K H a ys/\a8 K mg O H xs ys:=by
 unfold R.Ez at e;split at e
 .cases e;exact h
 .cases e
def R.zu{K:aM}{mg:a9}{O:a0}{H:ah}{r:R}{v:V}{xs:List D}(h:ei K mg O H r v)(e:r.seq=some xs):∃a ys,v=.ref a/\(du K H a ys\/dj K H a ys)/\a8 K mg O H xs ys:=by
 unfold R.seq at e
 cases aw:r.fG with
 |some zs=>rw[aw]at e;cases e;obtain⟨a,ys,q,l,r⟩:=R.ph h aw;exact⟨a,ys,q,.inl l,r⟩
 |none=>rw[aw]at e;obtain⟨a,ys,q,l,r⟩:=R.afc h e;exact⟨a,ys,q,.inr l,r⟩
def a8.eK{O:a0}{H:ah}{i:Int}(h:a8 K mg O H ds xs)(e:eK ds i=some d):∃x,ax.eK xs i=some x/\Rep K mg O H d x:=by
 unfold ax.eK at e ⊢;rw[h.len]
 cases q:qv ds.length i with
 |none=>rw[q]at e;cases e
 |some j=>rw[q]at e;exact h.get e
def bB:R->R->M R
 |.v (.str z),.v (.int i)=>match eK z.cps.toList i with
  |some c=>if z.length<=aj6 then pure (.v (.str ⟨#[c]⟩))else bad|none=>bad
 |x,.v (.int i)=>match x.seq with
  |some xs=>match eK xs i with
   |some d=>pure (.v d)|none=>bad
  |none=>bad
 |_,_=>bad
def ht:dS K mg (L0 K) bB:=fun O Y S aq H x y aU bz bH ar Q st ai a' h q=>by
 unfold bB at h;split at h
 .rename_i z i
  split at h
  .rename_i c aG
   by_cases hz:z.length<=aj6
   .rw[if_pos hz]at h
    cases h;exact .inr (.inr ⟨z,i,c,ai,a',hz,aG,q O _ H (Go.refl _ _) st rfl trivial⟩)
   .rw[if_neg hz]at h;cases h
  .cases h
 .rename_i i _
  split at h
  .rename_i xs e
   split at h
   .rename_i d aG
    cases h;obtain⟨a,ys,rfl,l,bx⟩:=R.zu ai e;obtain⟨z,c3,m1⟩:=a8.eK bx aG;have iQ:=q O z H (Go.refl _ _) st m1 trivial;rcases l with l|l
    .exact .inl ⟨a,ys,i,z,rfl,a',l,c3,iQ⟩
    .exact .inr (.inl ⟨a,ys,i,z,rfl,a',l,c3,iQ⟩)
   .cases h
  .cases h
 .cases h
def aj:cU:=λ_=>pure []
@[simp] def J(m:bf)(ms:cU)(Y:aQ):M (List R):=do
 let x <-m Y
 let xs <-ms Y
 pure (x::xs)
def R.dat:R->M D
 |.v d=>pure d|.fr xs=>pure (.lst xs)|_=>bad
def kS:List R->M (List D)
 |[]=>pure []|r::rs=>do
  let d <-r.dat
  let ds <-kS rs
  pure (d::ds)
def cc(H₀:ah)(O:a0):a0:=⟨λb=>match H₀ b,O b with
 |none,.dB=>.free| _,o=>o,O.bI⟩
def Bz{H₀:ah}{O:a0}(h:H₀ b≠none):cc H₀ O b=O b:=by
 show(match H₀ b,O b with|none,.dB=>.free|_,o=>o)=O b
 cases e:H₀ b with
 |none=>exact absurd e h|some o=>cases O b<;>rfl
def BA{H₀:ah}{O:a0}(h:H₀ b=none)(t:O b=.dB):cc H₀ O b=.free:=by show(match H₀ b,O b with|none,.dB=>.free|_,o=>o)=Own.free;rw[h,t]
def qg{O:a0}(t:O b≠.dB):cc H₀ O b=O b:=by
 show(match H₀ b,O b with|none,.dB=>.free|_,o=>o)=O b;cases e:H₀ b<;>cases aG:O b<;>first|rfl|exact absurd aG t
def iO(H₀:ah)(O:a0):l6 O (cc H₀ O):=⟨λa h=>by rw[qg (by rw[h];intro z;cases z),h],rfl⟩
def iJ.dc{O ak:a0}{H:ah}(g:l6 O ak)(aT:∀a,O a=.out->ak a=.out)(hw:∀a,O a=w->ak a=w):∀{s:Slot}{u:Option V},iJ K mg O H w s u->iJ K mg ak H w s u
 |.e,_,_=>trivial| .v _,_,h=>by obtain⟨v,q,r⟩:=h;exact⟨v,q,r.dc g⟩
 |.e2 _ _,_,h=>by obtain⟨a,ys,q,o,l,r⟩:=h;exact⟨a,ys,q,hw a o,l,r.dc g⟩
 |.b8 _,_,h=>by
  obtain⟨a,ys,q,l,r⟩:=h;refine⟨a,ys,q,l.imp (λz=>⟨z.1,z.2.imp (g.fr a) (aT a)⟩) id,r.dc g⟩
section
variable{K:aM}{mg:a9}{O:a0}{Y:aQ}{S:cJ}{aq:St}{H H₀:ah}
def ct.cc(h:ct K mg O Y S aq H)(H₀:ah):ct K mg (cc H₀ O) Y S aq H:=
  ⟨⟨λa ao=>h.b_.has a λz=>ao (by rw[qg (by rw[z];intro w;cases w),z]),h.b_.tabs,h.b_.b9.1,λa m=>by rw[qg (by rw[h.b_.b9.2 a m];intro w;cases w)];exact h.b_.b9.2 a m⟩,h.len,
   λi s e=>(h.loc i s e).dc (iO _ _) (λa z=>by rw[qg (by rw[z];intro w;cases w),z]) (λa z=>by rw[qg (by rw[z];intro w;cases w),z]),h.fJ.all (λ_ _ z=>Rep.dc (iO _ _) z) rfl λ_ _ _ l _=>l⟩
def Go.cc{oF:a0}(g:Go oF O H₀ H):Go oF (cc H₀ O) H₀ H:=⟨g.same,λb aa=>(Bz aa).trans (g.own b aa),g.bI⟩
def oW{r:R}{v:V}(aD:ei K mg O H r v)(aF:iH H₀ r v)(h:r.dat.run S=.ok d ar):Rep K mg (aE.cc H₀ O) H d v/\S=ar:=by
 cases r with
 |v d'=>cases h;exact⟨Rep.dc (iO _ _) aD,rfl⟩
 |fr xs=>
  cases h;obtain⟨a,ys,rfl,l,t,bx⟩:=aD;exact⟨⟨a,ys,rfl,⟨l,BA (aF a rfl) t⟩,a8.dc (iO _ _) bx⟩,rfl⟩
 |b8 xs=>cases h
 |mv xs=>cases h
theorem A':∀{rs:List R}{vs:List V}{ds:List D}{S ar:cJ},fN K mg O H rs vs->jB H₀ rs vs->(kS rs).run S=.ok ds ar->a8 K mg (aE.cc H₀ O) H ds vs/\S=ar
 |[],vs,ds,S,ar,aD,_,h=>by cases h;exact⟨aD,rfl⟩
 |r::rs,vs,ds,S,ar,aD,aF,h=>by
  obtain⟨d,S1,ae,h⟩:=M.inv h;obtain⟨mq,a7,ag,h⟩:=M.inv h;cases h;obtain⟨v,EJ,rfl,bF,b5⟩:=aD;obtain⟨bp,rfl⟩:=oW (H₀:=H₀) bF aF.1 ae;obtain⟨b2,rfl⟩:=A' b5 aF.2 ag;exact⟨⟨v,EJ,rfl,bp,b2⟩,rfl⟩
end
@[simp] def bb(ms:cU)(Y:aQ):M R:=do
 let rs <-ms Y
 let ds <-kS rs
 ik (ds.length<=1000)
 pure (.v (.tup ds))
@[simp] def c8(ms:cU)(Y:aQ):M R:=do
 let rs <-ms Y
 let ds <-kS rs
 ik (ds.length<=1000)
 pure (.fr ds)
@[simp] def df(f:List R->M R)(ms:cU)(Y:aQ):M R:=do
 let rs <-ms Y
 f rs
def j0(K:aM)(mg:a9)(r:List V->ah->cD->Prop)(f:List R->M R):Prop:=
 ∀O Y S aq H xs rs bH ar (Q:cD),ct K mg O Y S aq H->fN K mg O H rs xs->(f rs).run S=.ok bH ar->w1 K mg O Y ar aq H bH Q->r xs H Q
section
variable{ms:cU}{r:List V->ah->cD->Prop}{f:List R->M R}
def Hn(hf:j0 K mg r f):∀aq H Q,e8 K mg (df f ms) aq H Q->Et r (m6 K mg ms) aq H Q:=by
 rintro aq H Q ⟨O,Y,S,bH,ar,st,h,q⟩;obtain⟨rs,S1,ae,h⟩:=M.inv h;refine⟨O,Y,S,rs,S1,st,ae,λaH vs H1 g1 aP ba nn=>?_⟩;exact hf aH Y S1 aq H1 vs rs bH ar Q aP ba h λak v H' g bW acq aar=>q ak v H' (g1.trans g) bW acq (aar.back g1.same)
end
def iM:List R->M R
 |[x]=>match x.seq with
  |some xs=>pure (.v (.int (xs.length:Nat)))|none=>bad
 |_=>bad
def ur:List R->M R
 |[.v (.str z)]=>if z.length<=aj6 then pure (.v (.int (z.length:Nat)))else bad|_=>bad
def R.kind:R->Option String
 |.v .aN=>some "NoneType"|.v (.au _)=>some "bool"|.v (.int _)=>some "int"|.v (.str _)=>some "str"|.v (.tup _)=>some "tuple"|.v (.lst _)=>some "list"|.fr _=>some "list"|.b8 _=>some "list"|.mv _=>some "list"|_=>none
def g_:List R->M R
 |[x,.v (.ty n)]=>match x.kind with
  |some t=>if n∈["int","bool","tuple","list","str"]then pure (.v (.au (h3 t n)))else bad|none=>bad
 |_=>bad
def xI(g:Int->Int->Int):List R->M R
 |[.v (.int i),.v (.int j)]=>pure (.v (.int (g i j)))|_=>bad
abbrev U6:=xI λi j=>if j > i then j else i
def um:List R->M R
 |[.v (.int i)]=>pure (.v (.int (if i<0 then -i else i)))|_=>bad
def jE:List D->Option (List Bool)
 |[]=>some []|.au b::r=>(jE r).map (b::·)|_=>none
def uo:List R->M R
 |[x]=>match x.fG.bind jE with
  |some bs=>pure (.v (.au (bs.any id)))|none=>bad
 |_=>bad
def oZ:List R->M R
 |[x]=>match x.fG.bind jE with
  |some bs=>pure (.v (.au (bs.all id)))|none=>bad
 |_=>bad
def qd:List R->M R
 |[x]=>match x.seq with
  |some xs=>pure (.v (.tup xs))|none=>bad
 |_=>bad
section
variable{K:aM}{mg:a9}
def n7{O:a0}{H:ah}{r:R}(h:fN K mg O H [r] vs):∃v,vs=[v]/\ei K mg O H r v:=by
 obtain⟨v,bH,rfl,a,b⟩:=h;cases b;exact⟨v,rfl,a⟩
def Ea{O:a0}{H:ah}{r s:R}(h:fN K mg O H [r,s] vs):∃v u,vs=[v,u]/\ei K mg O H r v/\ei K mg O H s u:=by
 obtain⟨v,bH,rfl,a,b⟩:=h;obtain⟨u,ajI,rfl,c,d⟩:=b;cases d;exact⟨v,u,rfl,a,c⟩
def YW:j0 K mg (λxs H Q=>∃p ys,xs=[.ref p]/\(du K H p ys\/dj K H p ys)/\Q (.int ys.length) H) iM:=λO Y S aq H vs rs bH ar Q st aD h q=>by
 unfold iM at h;split at h
 .rename_i x
  obtain⟨v,rfl,ai⟩:=n7 aD;split at h
  .rename_i xs e
   cases h;obtain⟨a,ys,rfl,l,bx⟩:=R.zu ai e;exact⟨a,ys,rfl,l,by rw[bx.len];exact q O _ H (Go.refl _ _) st rfl trivial⟩
  .cases h
 .cases h
def YX:j0 K mg (λxs H Q=>∃z,xs=[.str z]/\z.length<=aj6/\Q (.int z.length) H) ur:=λO Y S aq H vs rs bH ar Q st aD h q=>by
 unfold ur at h;split at h
 .rename_i z
  obtain⟨v,rfl,ai⟩:=n7 aD;cases(show v=.str z from ai)
  by_cases hz:z.length<=aj6
  .rw[if_pos hz]at h
   cases h;exact⟨z,rfl,hz,q O _ H (Go.refl _ _) st rfl trivial⟩
  .rw[if_neg hz]at h;cases h
 .cases h
def R.J0{O:a0}{H:ah}{r:R}{v:V}{t:String}(h:ei K mg O H r v)(e:r.kind=some t):kO K H v t:=by
 unfold R.kind at e;split at e
 .cases e;cases h;exact .aN
 .cases e;cases h;exact .au _
 .cases e;cases h;exact .int _
 .cases e;cases h;exact .str _
 .cases e;obtain⟨a,ys,rfl,l,_⟩:=h;exact .tup l
 .cases e;obtain⟨a,ys,rfl,l,_⟩:=h;exact .lst l.dv
 .cases e;obtain⟨a,ys,rfl,l,_⟩:=h;exact .lst (du.of l)
 .cases e;obtain⟨a,ys,rfl,l,_⟩:=h;exact .lst l.dv
 .cases e;obtain⟨a,ys,rfl,l,_⟩:=h;exact .lst (du.of l)
 .cases e
def YU:j0 K mg (LY K) g_:=fun O Y S aq H vs rs bH ar Q st aD h q=>by
 unfold g_ at h;split at h
 .rename_i x n
  obtain⟨v,u,rfl,ai,a'⟩:=Ea aD;cases(show u=.ty n from a');split at h
  .rename_i t e
   by_cases aF:n∈["int","bool","tuple","list","str"]
   .rw[if_pos aF]at h
    cases h;exact⟨v,n,t,rfl,R.J0 ai e,aF,q O _ H (Go.refl _ _) st rfl trivial⟩
   .rw[if_neg aF]at h;cases h
  .cases h
 .cases h
def YQ{g:Int->Int->Int}:j0 K mg (λxs H Q=>∃i j,xs=[.int i,.int j]/\Q (.int (g i j)) H) (xI g):=λO Y S aq H vs rs bH ar Q st aD h q=>by
 unfold xI at h;split at h
 .rename_i i j
  obtain⟨v,u,rfl,ai,a'⟩:=Ea aD;cases(show v=.int i from ai);cases(show u=.int j from a');cases h;exact⟨i,j,rfl,q O _ H (Go.refl _ _) st rfl trivial⟩
 .cases h
def YR:j0 K mg (λxs H Q=>∃i,xs=[.int i]/\Q (.int (if i<0 then -i else i)) H) um:=λO Y S aq H vs rs bH ar Q st aD h q=>by
 unfold um at h;split at h
 .rename_i i
  obtain⟨v,rfl,ai⟩:=n7 aD;cases(show v=.int i from ai);cases h;exact⟨i,rfl,q O _ H (Go.refl _ _) st rfl trivial⟩
 .cases h
theorem AR{O:a0}{H:ah}:∀{ds:List D}{ys:List V}{bs:List Bool},a8 K mg O H ds ys->jE ds=some bs->ys=bs.map V.au
 |[],ys,bs,h,e=>by cases e;exact h
 |d::ds,ys,bs,h,e=>by
  cases d with
  |au b=>
   have e:(jE ds).map (b::·)=some bs:=e;obtain⟨cs,aw,rfl⟩:=amz.mp e;obtain⟨y,r,rfl,ae,ag⟩:=h;rw[AR ag aw,show y=.au b from ae];rfl
  |_=>exact absurd (show(none:Option (List Bool))=some bs from e) (by intro z;cases z)
def YT:j0 K mg (λxs H Q=>∃(l:Addr)(bs:List Bool),xs=[.ref l]/\du K H l (bs.map V.au)/\Q (.au (bs.any id)) H) uo:=λO Y S aq H vs rs bH ar Q st aD h q=>by
 unfold uo at h;split at h
 .rename_i x
  obtain⟨v,rfl,ai⟩:=n7 aD;split at h
  .rename_i xs e
   cases h;obtain⟨zs,aw,aG⟩:=aoN.mp e;obtain⟨a,ys,rfl,l,bx⟩:=R.ph ai aw;rw[AR bx aG]at l;exact⟨a,xs,rfl,l,q O _ H (Go.refl _ _) st rfl trivial⟩
  .cases h
 .cases h
def YS:j0 K mg (λxs H Q=>∃(l:Addr)(bs:List Bool),xs=[.ref l]/\du K H l (bs.map V.au)/\Q (.au (bs.all id)) H) oZ:=λO Y S aq H vs rs bH ar Q st aD h q=>by
 unfold oZ at h;split at h
 .rename_i x
  obtain⟨v,rfl,ai⟩:=n7 aD;split at h
  .rename_i xs e
   cases h;obtain⟨zs,aw,aG⟩:=aoN.mp e;obtain⟨a,ys,rfl,l,bx⟩:=R.ph ai aw;rw[AR bx aG]at l;exact⟨a,xs,rfl,l,q O _ H (Go.refl _ _) st rfl trivial⟩
  .cases h
 .cases h
def Cs:j0 K mg (λxs H Q=>∃p ys,xs=[.ref p]/\((du K H p ys/\∀l,H l=none->Q (.ref l) (upd H l (.tup ys)))\/(dj K H p ys/\Q (.ref p) H))) qd:=λO Y S aq H vs rs bH ar Q st aD h q=>by
 unfold qd at h;split at h
 .rename_i x
  obtain⟨v,rfl,ai⟩:=n7 aD;split at h
  .rename_i xs e
   cases h;obtain⟨a,ys,rfl,l,bx⟩:=R.zu ai e;refine⟨a,ys,rfl,?_⟩;rcases l with l|l
   .exact .inl ⟨l,λp aL=>q O _ _ (Go.fU aL) (st.fU aL) ⟨p,ys,rfl,dj.of dn,bx.go (Go.fU aL)⟩ trivial⟩
   .exact .inr ⟨l,q O _ _ (Go.refl _ _) st ⟨a,ys,rfl,l,bx⟩ trivial⟩
  .cases h
 .cases h
end
def cutD{α:Type}(xs:List α)(lo aA:Option Int):List α:=(xs.drop (da.ck xs.length 0 lo)).take (da.ck xs.length xs.length aA-da.ck xs.length 0 lo)
def a8.cut{O:a0}{H:ah}(h:a8 K mg O H ds xs)(lo aA:Option Int):a8 K mg O H (cutD ds lo aA) (oT xs lo aA):=by
 unfold cutD oT;rw[h.len];exact(h.drop _).take _
abbrev ma:=aQ->M (Option Int)
def ae8(K:aM)(mg:a9)(m:ma):dF:=λaq H Q=>oI K mg m aq H λO Y ar b=>∀ak H',Go O ak H H'->ct K mg ak Y ar aq H'->Q b H'
abbrev OT(X:aJ)(e:Option Expr)(m:ma):Prop:=tT X e (ae8 X.K X.mg m)
def xq:ma:=λ_=>pure none
@[simp] def p_(m:bf)(Y:aQ):M (Option Int):=do
 let r <-m Y
 match r with
 |.v (.int i)=>pure (some i)|_=>bad
def ajB(x:R)(lo aA:Option Int):M R:=
 match x with
 |.v (.tup xs)=>if da.ck xs.length 0 lo=0/\da.ck xs.length xs.length aA=xs.length then bad else pure (.v (.tup (cutD xs lo aA)))|_=>match x.fG with
  |some xs=>pure (.fr (cutD xs lo aA))|none=>bad
def R.own:R->Option (List D)
 |.v (.lst xs)=>some xs|.fr xs=>some xs|.mv xs=>some xs|_=>none
def hj(x y:R):M R:=match x.own,y.own with
 |some xs,some ys=>if xs.length+ys.length<=aj6 then pure (.fr (xs++ys))else bad|_,_=>bad
def mV:R->R->M R
 |.v (.str x),.v (.str y)=>if x.length+y.length<=aj6 then pure (.v (.str (x++y)))else bad|_,_=>bad
def R.DO{K:aM}{mg:a9}{O:a0}{H:ah}{r:R}{v:V}{xs:List D}(h:ei K mg O H r v)(e:r.own=some xs):∃a ys,v=.ref a/\H a=some (.lst ys)/\a8 K mg O H xs ys:=by
 unfold R.own at e;split at e
 .cases e;obtain⟨a,ys,q,l,r⟩:=h;exact⟨a,ys,q,l.1,r⟩
 .cases e;obtain⟨a,ys,q,l,_,r⟩:=h;exact⟨a,ys,q,l,r⟩
 .cases e;obtain⟨a,ys,q,l,r⟩:=h;exact⟨a,ys,q,l,r⟩
 .cases e
section
variable{K:aM}{mg:a9}
def FP:dS K mg LV hj:=fun O Y S aq H x y aU bz bH ar Q st ai a' h q=>by
 unfold hj at h
 cases aw:aU.own with
 |none=>rw[aw]at h;cases h
 |some xs=>
  cases aG:bz.own with
  |none=>rw[aw,aG]at h;cases h
  |some ys=>
   rw[aw,aG]at h;dsimp only at h
   by_cases hl:xs.length+ys.length<=aj6
   .rw[if_pos hl]at h
    cases h;obtain⟨a,us,rfl,b6,bF⟩:=R.DO ai aw;obtain⟨b,ws,rfl,cu,b5⟩:=R.DO a' aG;refine⟨a,b,us,ws,rfl,rfl,b6,cu,by rw[bF.len,b5.len];exact hl,λp aL=>q (gn O p .dB) _ _ (Go.new aL) (st.new aL) ⟨p,_,rfl,dn,pS,(bF.append b5).go (Go.new aL)⟩ λb dh=>?_⟩;cases dh;exact aL
   .rw[if_neg hl]at h;cases h
def PJ:dS K mg (λx y H Q=>∃i j,x=.str i/\y=.str j/\i.length+j.length<=aj6/\Q (.str (i++j)) H) mV:=λO Y S aq H x y aU bz bH ar Q st ai a' h q=>by
 unfold mV at h;split at h
 .rename_i i j
  by_cases hl:i.length+j.length<=aj6
  .rw[if_pos hl]at h
   cases h;exact⟨i,j,ai,a',hl,q O _ H (Go.refl _ _) st rfl trivial⟩
  .rw[if_neg hl]at h;cases h
 .cases h
end
def D.py:D->PyData
 |.aN=>.none|.au b=>.bool b|.int i=>.int i|.str x=>.str x|.tup xs=>.tuple (ku xs)|.lst xs=>.list (ku xs)|.ref _=>.none|.fn _=>.none|.ty _=>.none
where ku:List D->List PyData
 |[]=>[]
 |x::xs=>x.py::ku xs
mutual
def D.b4:D->Nat->Bool
 |.aN,_=>true|.au _,_=>true|.int _,_=>true|.str x,_=>akf x|.tup xs,n=>match n with
  |0=>false|k+1=>hL xs k
 |.lst xs,n=>match n with
  |0=>false|k+1=>hL xs k
 |.ref _,_=>false|.fn _,_=>false|.ty _,_=>false
def hL:List D->Nat->Bool
 |[],_=>true|x::xs,n=>x.b4 n&&hL xs n
end
mutual
def iv:D->D->Bool
 |.aN,b=>match b with|.aN=>true|_=>false
 |.au a,b=>match b with|.au c=>a==c|.int j=>(if a then 1 else 0)==j|_=>false
 |.int i,b=>match b with|.au c=>i==(if c then 1 else 0)|.int j=>i==j|_=>false
 |.str x,b=>match b with|.str y=>x==y|_=>false
 |.tup xs,b=>match b with|.tup ys=>qV xs ys|_=>false
 |.lst xs,b=>match b with|.lst ys=>qV xs ys|_=>false
 |.ref _,_=>false|.fn _,_=>false|.ty _,_=>false
def qV:List D->List D->Bool
 |[],ys=>match ys with|[]=>true|_=>false
 |x::xs,ys=>match ys with|[]=>false|y::r=>iv x y&&qV xs r
end
mutual
theorem Bk:∀(a b:D)(n m:Nat),a.b4 n=true->b.b4 m=true->apb a.py b.py=iv a b
 |.aN,b,n,m,ao,aa=>by cases b<;>first|rfl|(simp[D.b4]at aa)
 |.au _,b,n,m,ao,aa=>by cases b<;>first|rfl|(simp[D.b4]at aa)
 |.int _,b,n,m,ao,aa=>by cases b<;>first|rfl|(simp[D.b4]at aa)
 |.str _,b,n,m,ao,aa=>by cases b<;>first|rfl|(simp[D.b4]at aa)
 |.tup xs,b,n,m,ao,aa=>by
  cases b with
  |tup ys=>
   cases n with
   |zero=>simp[D.b4]at ao|succ k=>
    cases m with
    |zero=>simp[D.b4]at aa|succ j=>exact Bl xs ys k j ao aa
  |ref _=>simp[D.b4]at aa|fn _=>simp[D.b4]at aa|ty _=>simp[D.b4]at aa|_=>rfl
 |.lst xs,b,n,m,ao,aa=>by
  cases b with
  |lst ys=>
   cases n with
   |zero=>simp[D.b4]at ao|succ k=>
    cases m with
    |zero=>simp[D.b4]at aa|succ j=>exact Bl xs ys k j ao aa
  |ref _=>simp[D.b4]at aa|fn _=>simp[D.b4]at aa|ty _=>simp[D.b4]at aa|_=>rfl
 |.ref _,b,n,m,ao,aa=>by simp[D.b4]at ao| .fn _,b,n,m,ao,aa=>by simp[D.b4]at ao| .ty _,b,n,m,ao,aa=>by simp[D.b4]at ao
theorem Bl:∀(xs ys:List D)(n m:Nat),hL xs n=true->hL ys m=true->PyData.eqvAll (D.py.ku xs) (D.py.ku ys)=qV xs ys
 |[],ys,n,m,ao,aa=>by cases ys<;>rfl
 |x::xs,ys,n,m,ao,aa=>by
  cases ys with
  |nil=>rfl|cons y r=>
   rw[hL,akw]at ao aa;show(apb x.py y.py&&PyData.eqvAll (D.py.ku xs) (D.py.ku r))=(iv x y&&qV xs r);rw[Bk x y n m ao.1 aa.1,Bl xs r n m ao.2 aa.2]
end
mutual
theorem Ip:∀(a:D)(n:Nat),a.b4 n=true->a.py.canLay0=true/\a.py.depth<=n
 |.aN,n,h=>⟨rfl,akA _⟩
 |.au _,n,h=>⟨rfl,akA _⟩
 |.int _,n,h=>⟨rfl,akA _⟩
 |.str _,n,h=>⟨h,akA _⟩
 |.tup xs,n,h=>by
  cases n with
  |zero=>simp[D.b4]at h|succ k=>obtain⟨bp,b2⟩:=BL xs k h;exact⟨bp,aoF b2⟩
 |.lst xs,n,h=>by
  cases n with
  |zero=>simp[D.b4]at h|succ k=>obtain⟨bp,b2⟩:=BL xs k h;exact⟨bp,aoF b2⟩
 |.ref _,n,h=>by simp[D.b4]at h| .fn _,n,h=>by simp[D.b4]at h| .ty _,n,h=>by simp[D.b4]at h
theorem BL:∀(xs:List D)(n:Nat),hL xs n=true->PyData.canLayAll0 (D.py.ku xs)=true/\PyData.depthAll (D.py.ku xs)<=n
 |[],n,h=>⟨rfl,akA _⟩
 |x::xs,n,h=>by
  rw[hL,akw]at h;obtain⟨a1,a2⟩:=Ip x n h.1;obtain⟨b3,bY⟩:=BL xs n h.2;exact⟨by show(x.py.canLay0&&PyData.canLayAll0 (D.py.ku xs))=true;rw[a1,b3];rfl,by show max x.py.depth (PyData.depthAll (D.py.ku xs))<=n;omega⟩
end
def xW{a:D}(h:a.b4 64=true):apo a.py=true:=by
 obtain⟨ae,ag⟩:=Ip a 64 h;show(a.py.canLay0&&decide (a.py.depth<=64))=true;rw[ae,decide_eq_true ag];rfl
mutual
theorem Rep.py{O:a0}{H:ah}:∀{d:D}{v:V}{n:Nat},d.b4 n=true->Rep K mg O H d v->ax.Rep K H d.py v
 |.aN,_,_,_,h=>h|.au _,_,_,_,h=>h|.int _,_,_,_,h=>h|.str _,_,_,_,h=>h|.tup _,_,n,g,h=>by
  cases n with
  |zero=>simp[D.b4]at g|succ k=>obtain⟨a,ys,q,l,r⟩:=h;exact⟨a,ys,q,l,a8.py (n:=k) g r⟩
 |.lst _,_,n,g,h=>by
  cases n with
  |zero=>simp[D.b4]at g|succ k=>obtain⟨a,ys,q,l,r⟩:=h;exact⟨a,ys,q,l.dv,a8.py (n:=k) g r⟩
 |.ref _,_,_,g,h=>by simp[D.b4]at g| .fn _,_,_,g,h=>by simp[D.b4]at g| .ty _,_,_,g,h=>by simp[D.b4]at g
theorem a8.py{O:a0}{H:ah}:∀{ds:List D}{ys:List V}{n:Nat},hL ds n=true->a8 K mg O H ds ys->ax.a8 K H (D.py.ku ds) ys
 |[],_,_,_,h=>h|_::_,_,n,g,h=>by
  rw[hL,akw]at g;obtain⟨x,r,q,a,b⟩:=h;exact⟨x,r,q,Rep.py g.1 a,a8.py g.2 b⟩
end
def R.arg:R->D
 |.v d=>d|.fr xs=>.lst xs|.b8 xs=>.lst xs|.mv xs=>.lst xs
def R.w'{K:aM}{mg:a9}{O:a0}{H:ah}{r:R}{v:V}{n:Nat}(g:r.arg.b4 n=true)(h:ei K mg O H r v):ax.Rep K H r.arg.py v:=by
 have fG:∀xs,r.fG=some xs->(D.lst xs).b4 n=true->ax.Rep K H (D.lst xs).py v:=λxs e g=>by
  obtain⟨a,ys,q,l,bx⟩:=R.ph h e
  cases n with
  |zero=>simp[D.b4]at g|succ k=>exact⟨a,ys,q,l,a8.py (n:=k) g bx⟩
 cases r with
 |v d=>exact Rep.py g h|fr xs=>exact fG xs rfl g|b8 xs=>exact fG xs rfl g|mv xs=>exact fG xs rfl g
def oEq(x y:R):M R:=if x.arg.b4 64=true/\y.arg.b4 64=true then pure (.v (.au (iv x.arg y.arg)))else bad
def d5(x y:R):M R:=if x.arg.b4 64=true/\y.arg.b4 64=true then pure (.v (.au (!iv x.arg y.arg)))else bad
section
variable{K:aM}{mg:a9}
def Aq:dS K mg (zp K false) oEq:=λO Y S aq H x y aU bz bH ar Q st ai a' h q=>by
 unfold oEq at h
 by_cases c:aU.arg.b4 64=true/\bz.arg.b4 64=true
 .rw[if_pos c]at h
  cases h;refine⟨_,_,R.w' c.1 ai,R.w' c.2 a',xW c.1,xW c.2,?_⟩;rw[if_neg aj7,Bk _ _ _ _ c.1 c.2];exact q O _ H (Go.refl _ _) st rfl trivial
 .rw[if_neg c]at h;cases h
def t2:dS K mg (zp K true) d5:=λO Y S aq H x y aU bz bH ar Q st ai a' h q=>by
 unfold d5 at h
 by_cases c:aU.arg.b4 64=true/\bz.arg.b4 64=true
 .rw[if_pos c]at h
  cases h;refine⟨_,_,R.w' c.1 ai,R.w' c.2 a',xW c.1,xW c.2,?_⟩;rw[if_pos rfl,Bk _ _ _ _ c.1 c.2];exact q O _ H (Go.refl _ _) st rfl trivial
 .rw[if_neg c]at h;cases h
end
def R.pd:R->Bool
 |.v .aN=>true|_=>false
def iZ(x:R):R->M R
 |.v .aN=>pure (.v (.au x.pd))|_=>bad
def i0(x:R):R->M R
 |.v .aN=>pure (.v (.au (!x.pd)))|_=>bad
section
variable{K:aM}{mg:a9}
def JE{O:a0}{H:ah}{r:R}{v:V}(h:ei K mg O H r v):decide (v=.aN)=r.pd:=by
 have no:∀{a:Addr},v=.ref a->decide (v=.aN)=false:=λ{a} e=>by rw[e];exact decide_eq_false (by intro z;cases z)
 cases r with
 |v d=>
  cases d with
  |aN=>exact decide_eq_true h|au _=>rw[show v=_ from h];rfl|int _=>rw[show v=_ from h];rfl|str _=>rw[show v=_ from h];rfl|ty _=>rw[show v=_ from h];rfl|tup _=>obtain⟨a,_,e,_⟩:=h;exact no e
  |lst _=>obtain⟨a,_,e,_⟩:=h;exact no e
  |ref _=>obtain⟨a,e,_⟩:=h;exact no e
  |fn _=>obtain⟨a,e,_⟩:=h;exact no e
 |fr _=>obtain⟨a,_,e,_⟩:=h;exact no e
 |b8 _=>obtain⟨a,_,e,_⟩:=h;exact no e
 |mv _=>obtain⟨a,_,e,_⟩:=h;exact no e
def FV:dS K mg (λx y H Q=>y=.aN/\Q (.au (decide (x=.aN))) H) iZ:=λO Y S aq H x y aU bz bH ar Q st ai a' h q=>by
 unfold iZ at h;split at h
 .cases h;exact⟨a',by rw[JE ai];exact q O _ H (Go.refl _ _) st rfl trivial⟩
 .cases h
def FX:dS K mg (λx y H Q=>y=.aN/\Q (.au (!decide (x=.aN))) H) i0:=λO Y S aq H x y aU bz bH ar Q st ai a' h q=>by
 unfold i0 at h;split at h
 .cases h;exact⟨a',by rw[JE ai];exact q O _ H (Go.refl _ _) st rfl trivial⟩
 .cases h
end
def D.flat:D->Bool
 |.aN=>true|.au _=>true|.int _=>true|.str _=>true|_=>false
def inD(x:D)(xs:List D):Bool:=xs.any λy=>iv y x
def pG(neg:Bool)(x y:R):M R:=match x,y.seq with
 |.v d,some xs=>if d.flat=true/\xs.all D.flat=true then pure (.v (.au (if neg then !inD d xs else inD d xs)))else bad|_,_=>bad
section
variable{K:aM}{mg:a9}
def Ib{O:a0}{H:ah}{d:D}{v:V}(h:Rep K mg O H d v)(f:d.flat=true):mu v=true:=by
 cases d with
 |aN=>rw[show v=_ from h];rfl|au _=>rw[show v=_ from h];rfl|int _=>rw[show v=_ from h];rfl|str _=>rw[show v=_ from h];rfl|_=>exact absurd (show false=true from f) aj7
def UZ{O:a0}{H:ah}{d e:D}{v u:V}(h:Rep K mg O H d v)(h':Rep K mg O H e u)(f:d.flat=true)(qc:e.flat=true):mr v u=iv d e:=by
 cases d with
 |aN=>
  rw[show v=_ from h]
  cases e with
  |aN=>rw[show u=_ from h'];rfl|au _=>rw[show u=_ from h'];rfl|int _=>rw[show u=_ from h'];rfl|str _=>rw[show u=_ from h'];rfl|_=>exact absurd (show false=true from qc) aj7
 |au _=>
  rw[show v=_ from h]
  cases e with
  |aN=>rw[show u=_ from h'];rfl|au _=>rw[show u=_ from h'];rfl|int _=>rw[show u=_ from h'];rfl|str _=>rw[show u=_ from h'];rfl|_=>exact absurd (show false=true from qc) aj7
 |int _=>
  rw[show v=_ from h]
  cases e with
  |aN=>rw[show u=_ from h'];rfl|au _=>rw[show u=_ from h'];rfl|int _=>rw[show u=_ from h'];rfl|str _=>rw[show u=_ from h'];rfl|_=>exact absurd (show false=true from qc) aj7
 |str _=>
  rw[show v=_ from h]
  cases e with
  |aN=>rw[show u=_ from h'];rfl|au _=>rw[show u=_ from h'];rfl|int _=>rw[show u=_ from h'];rfl|str _=>rw[show u=_ from h'];rfl|_=>exact absurd (show false=true from qc) aj7
 |_=>exact absurd (show false=true from f) aj7
theorem Jz{O:a0}{H:ah}{d:D}{v:V}(h:Rep K mg O H d v)(f:d.flat=true):∀{ds:List D}{ys:List V},a8 K mg O H ds ys->ds.all D.flat=true->ys.all mu=true/\Cn v ys=inD d ds
 |[],ys,r,_=>by cases r;exact⟨rfl,rfl⟩
 |e::ds,ys,r,g=>by
  obtain⟨y,t,rfl,bF,b5⟩:=r;rw[al6,akw]at g;obtain⟨bp,b2⟩:=Jz h f b5 g.2;refine⟨by rw[al6,Ib bF g.1,bp];rfl,?_⟩;show(y::t).any (λz=>mr z v)=(e::ds).any λz=>iv z d
  rw[alK,alK,UZ bF h g.1 f];exact congrArg _ b2
def FT(neg:Bool):dS K mg (LX K neg) (pG neg):=λO Y S aq H x y aU bz bH ar Q st ai a' h q=>by
 unfold pG at h;split at h
 .rename_i d xs e
  by_cases c:d.flat=true/\xs.all D.flat=true
  .rw[if_pos c]at h
   cases h;obtain⟨a,ys,rfl,l,bx⟩:=R.zu a' e;obtain⟨f1,f2⟩:=Jz ai c.1 bx c.2;exact⟨a,ys,rfl,l,Ib ai c.1,f1,by rw[f2];exact q O _ H (Go.refl _ _) st rfl trivial⟩
  .rw[if_neg c]at h;cases h
 .cases h
end
inductive f_ where
 |bw (Y:aQ)|cP (r:R)|d4 (Y:aQ)|cb (Y:aQ)
abbrev aI:=aQ->M f_
def Fix(o:f'):Prop:=(∃xs,o=.tup xs)\/∃bh u,o=.cc bh u
structure dZ(O ak:a0)(H H':ah):Prop where
 cells:∀b o,H b=some o->(O b=.free\/O b=.out\/Fix o)->(h:lE o:=by exact trivial)->H' b=some o
 own:∀b,H b≠none->(O b=.free\/O b=.out)->ak b=O b
 has:∀b,H b≠none->H' b≠none
 cS:∀b ps,H b=some (.ft ps)->∃kr,H' b=some (.ft kr)
 b4:TabsOk H->TabsOk H'
 bI:ak.bI=O.bI
def Go.bQ{O ak:a0}{H H':ah}(g:Go O ak H H'):dZ O ak H H':=⟨λb o e _ n=>g.same.at' b o e n,λb h _=>g.own b h,λ_ h=>g.same.some h,g.same.cS,g.same.b4,g.bI⟩
def dZ.refl(O:a0)(H:ah):dZ O O H H:=(Go.refl O H).bQ
def dZ.trans{O aH a_:a0}{H H1 aK:ah}(a:dZ O aH H H1)(b:dZ aH a_ H1 aK):dZ O a_ H aK:=by
 have NK:∀{b:Addr}{o:f'},H b=some o->H b≠none:=λe z=>by rw[e]at z;cases z
 refine⟨λc o e h n=>?_,λc h f=>?_,λc h=>b.has c (a.has c h),λc ps h=>let⟨p1,aw⟩:=a.cS c ps h;b.cS c p1 aw,λg=>b.b4 (a.b4 g),b.bI.trans a.bI⟩
 .have aw:=a.cells c o e h n
  rcases h with h|h|h
  .exact b.cells c o aw (.inl ((a.own c (NK e) (.inl h)).trans h)) n
  .exact b.cells c o aw (.inr (.inl ((a.own c (NK e) (.inr h)).trans h))) n
  .exact b.cells c o aw (.inr (.inr h)) n
 .have aw:=a.own c h f
  rw[b.own c (a.has c h) (by rw[aw];exact f),aw]
def d9(Y Y':aQ)(aq cW:St):Prop:=(∀(i:Nat)(xs:List D),Y'[i]? = some (Slot.b8 xs)->Y[i]? = some (Slot.b8 xs)/\cW[i]? = aq[i]?)/\
 (∀(i:Nat)(ys:List D),Y'[i]? = some (Slot.e2 true ys)->(∃xs,Y[i]? = some (Slot.e2 true xs))/\cW[i]? = aq[i]?)
def d9.refl(Y:aQ)(aq:St):d9 Y Y aq aq:=⟨λ_ _ h=>⟨h,rfl⟩,λ_ _ h=>⟨⟨_,h⟩,rfl⟩⟩
def d9.trans{v v1 v2:St}(a:d9 Y gM v v1)(b:d9 gM dp v1 v2):d9 Y dp v v2:=⟨λi xs h=>⟨(a.1 i xs (b.1 i xs h).1).1,(b.1 i xs h).2.trans (a.1 i xs (b.1 i xs h).1).2⟩,λi ys h=>by
 obtain⟨⟨xs,e⟩,q⟩:=b.2 i ys h;obtain⟨z,g5⟩:=a.2 i xs e;exact⟨z,q.trans g5⟩⟩
def d9.put{Y:aQ}(h0:Y[i]? = some s0)(bu:∀xs,s≠.b8 xs)(aT:∀xs,s=.e2 true xs->∃ys,s0=.e2 true ys):d9 Y (Y.set i s) aq aq:=by
 have fC:i<Y.length:=(aj1.mp h0).1;have key:∀(j:Nat)(t:Slot),(Y.set i s)[j]? = some t->(i=j/\t=s)\/(i≠j/\Y[j]? = some t):=λj t h=>by
  by_cases aR:i=j
  .subst aR
   rw[aks fC]at h;exact .inl ⟨rfl,(aky h).symm⟩
  .rw[akk aR]at h
   exact .inr ⟨aR,h⟩
 refine⟨λj xs h=>?_,λj ys h=>?_⟩
 .rcases key j _ h with⟨_,e⟩|⟨_,e⟩
  .exact absurd e.symm (bu xs)
  .exact⟨e,rfl⟩
 .rcases key j _ h with⟨rfl,e⟩|⟨_,e⟩
  .obtain⟨zs,bZ⟩:=aT ys e.symm
   exact⟨⟨zs,bZ▸h0⟩,rfl⟩
  .exact⟨⟨_,e⟩,rfl⟩
def Ag(K:aM)(mg:a9)(O:a0)(H:ah):R->V->Prop
 |.v d,v=>Rep K mg O H d v|.fr xs,v=>∃a ys,v=.ref a/\H a=some (.lst ys)/\(O a=.dB\/∃i,O a=.loc i)/\a8 K mg O H xs ys|_,_=>False
def nh(K:aM)(mg:a9)(O:a0)(Y:aQ)(ar:cJ)(aq:St)(H:ah)(Y':aQ)(N:St->ah->Prop):Prop:=
 ∀ak cW H',dZ O ak H H'->ct K mg ak Y' ar cW H'->d9 Y Y' aq cW->N cW H'
def w2(K:aM)(mg:a9)(O:a0)(Y:aQ)(ar:cJ)(aq:St)(H:ah)(aW:f_)(eI:Ends):Prop:=match aW with
 |.bw Y'=>nh K mg O Y ar aq H Y' eI.bw|.d4 Y'=>nh K mg O Y ar aq H Y' eI.d4|.cb Y'=>nh K mg O Y ar aq H Y' eI.cb|.cP r=>∀ak v H',dZ O ak H H'->c5 ak H'->fP K mg ak H' ar->Ag K mg ak H' r v->eI.cP v H'
def nh.bQ{O aH:a0}{H H1:ah}{N:St->ah->Prop}(h:nh K mg O Y ar aq H Y' N)(g:dZ O aH H H1)(k:d9 Y gM aq wJ):nh K mg aH gM ar wJ H1 Y' N:=
 λak cW H' g' st jO=>h ak cW H' (g.trans g') st (k.trans jO)
def w2.bQ{O aH:a0}{H H1:ah}(h:w2 K mg O Y ar aq H aW eI)(g:dZ O aH H H1)(k:d9 Y gM aq wJ):w2 K mg aH gM ar wJ H1 aW eI:=by
 cases aW with
 |bw Y'=>exact nh.bQ h g k|d4 Y'=>exact nh.bQ h g k|cb Y'=>exact nh.bQ h g k|cP r=>exact λak v H' g' d e r=>h ak v H' (g.trans g') d e r
def hS(K:aM)(mg:a9)(m:aI):fz:=λeI aq H=>oI K mg m aq H λO Y ar aW=>w2 K mg O Y ar aq H aW eI
abbrev Fn(X:aJ)(st:Stmt)(m:aI):Prop:=hH X st (hS X.K X.mg m)
abbrev rq(X:aJ)(m3:List Stmt)(m:aI):Prop:=gP X m3 (hS X.K X.mg m)
def g4{t t':fz}(h:hH X s t)(i:∀D Y H,t' D Y H->t D Y H):hH X s t':=λzn s Y H D I q=>h zn s Y H D I (i _ _ _ q)
def pK{t t':fz}(h:gP X s t)(i:∀D Y H,t' D Y H->t D Y H):gP X s t':=λzn s Y H D I q=>h zn s Y H D I (i _ _ _ q)
@[simp] def cH(Y:aQ):M f_:=pure (.bw Y)
def t8:aI:=λ_=>bad
@[simp] def bV(a b:aI)(Y:aQ):M f_:=do
 let aW <-a Y
 match aW with
 |.bw Y'=>b Y'|aW=>pure aW
@[simp] def bg(m:bf)(Y:aQ):M f_:=do
 let r <-m Y
 match r with
 |.v d=>pure (.cP (.v d))|.fr xs=>pure (.cP (.fr xs))|_=>bad
@[simp] def xr(i:Nat)(Y:aQ):M f_:=match Y[i]? with
 |some (.e2 false xs)=>pure (.cP (.fr xs))|_=>bad
@[simp] def cV(t:aQ->M Bool)(a b:aI)(Y:aQ):M f_:=do
 let t <-t Y
 if t=true then a Y else b Y
@[simp] def cY(i:Nat)(m:bf)(Y:aQ):M f_:=do
 let r <-m Y
 let d <-r.dat
 pure (.bw (Y.set i (.v d)))
@[simp] def oR(i:Nat)(m:bf)(Y:aQ):M f_:=do
 let r <-m Y
 match r with
 |.fr xs=>pure (.bw (Y.set i (.e2 false xs)))|_=>bad
section
variable{st:Stmt}{a b:aI}{e:Expr}{m:bf}
theorem Mb{O:a0}{H:ah}{r:R}{v:V}(h:ei K mg O H r v)(aD:(∃d,r=.v d)\/∃xs,r=.fr xs):Ag K mg O H r v:=by
 rcases aD with⟨d,rfl⟩|⟨xs,rfl⟩
 .exact h
 .obtain⟨a,ys,q,l,t,bx⟩:=h;exact⟨a,ys,q,l,.inl t,bx⟩
theorem ct.set{O:a0}{Y:aQ}{aq:St}{H:ah}{v:V}(st:ct K mg O Y S aq H)(h:iJ K mg O H (.loc i) s (some v)):ct K mg O (Y.set i s) S (aq.set i (some v)) H:=by
 refine⟨st.b_,by rw[akL,akL];exact st.len,λj t e=>?_,st.fJ⟩
 by_cases aR:i=j
 .subst aR
  have hl:i<Y.length:=by
   have:=(aj1.mp e).1
   rwa[akL]at this
  rw[aks hl]at e;cases e;rw[aks (by rw[<-st.len];exact hl)];exact h
 .rw[akk aR]at e
  rw[akk aR];exact st.loc j t e
theorem d9.set{Y:aQ}{aq:St}{v:Option V}(az:∀xs,s≠.b8 xs)(bC:∀xs,s≠.e2 true xs:=by intro xs z;cases z):d9 Y (Y.set i s) aq (aq.set i v):=by
 have key:∀(j:Nat)(t:Slot),(Y.set i s)[j]? = some t->t≠s->Y[j]? = some t/\(aq.set i v)[j]? = aq[j]?:=λj t h hy=>by
  by_cases aR:i=j
  .subst aR
   have hl:i<Y.length:=by
    have:=(aj1.mp h).1
    rwa[akL]at this
   rw[aks hl]at h;exact absurd (aky h).symm hy
  .rw[akk aR]at h ⊢
   exact⟨h,rfl⟩
 refine⟨λj xs h=>key j _ h (λz=>az xs z.symm),λj ys h=>?_⟩;obtain⟨a,b⟩:=key j _ h (λz=>bC ys z.symm);exact⟨⟨ys,a⟩,b⟩
theorem ct.own{K:aM}{mg:a9}{O:a0}{Y:aQ}{S:cJ}{aq:St}{H:ah}{i:Nat}{a:Addr}{xs:List D}{ys:List V}(st:ct K mg O Y S aq H)(bC:O a=.dB)(hl:H a=some (.lst ys))(aD:a8 K mg O H xs ys) :
  ct K mg (gn O a (.loc i)) (Y.set i (.e2 false xs)) S (aq.set i (some (.ref a))) H:=by
 have ne:∀{b:Addr}{w:Own},O b=w->w≠.dB->gn O a (.loc i) b=w:=λ{b w} h hw=>by
  rw[og];exact h;rintro rfl;exact hw (h.symm.trans bC)
 have dc:l6 O (gn O a (.loc i)):=⟨λb h=>ne h (by intro z;cases z),rfl⟩;have aP:ct K mg (gn O a (.loc i)) Y S aq H:=by
  refine⟨⟨λb aa=>?_,st.b_.tabs,st.b_.b9.1,λb m=>ne (st.b_.b9.2 b m) (by intro z;cases z)⟩,st.len,λj s e=>(st.loc j s e).dc dc (λb h=>ne h (by intro z;cases z)) (λb h=>ne h (by intro z;cases z)),st.fJ.all (λ_ _ z=>Rep.dc dc z) rfl λ_ _ _ l _=>l⟩
  by_cases e:b=a
  .rw[e,hl];intro z;cases z
  .rw[og e]at aa;exact st.b_.has b aa
 exact aP.set ⟨a,ys,rfl,pS,hl,aD.dc dc⟩
theorem dZ.dB{O:a0}{H:ah}{a:Addr}{w:Own}(bC:O a=.dB):dZ O (gn O a w) H H:=by
 refine⟨λb o e _ _=>e,λb h f=>?_,λ_ h=>h,λ_ ps h=>⟨ps,h⟩,id,rfl⟩;rw[og];rintro rfl;rw[bC]at f;rcases f with z|z<;>cases z
theorem ad2{te:TE}(aA:∀Y H Q,e8 K mg m Y H Q->te Y H Q):∀D aq H,hS K mg (cY i m) D aq H->tc te (kf i) D aq H:=by
 rintro D aq H ⟨O,Y,S,aW,ar,st,h,q⟩;obtain⟨r,S1,ae,h⟩:=M.inv h;obtain⟨d,a7,ag,h⟩:=M.inv h;cases h;refine aA aq H _ ⟨O,Y,S,r,S1,st,ae,λaH v H1 g1 aP ba nn=>?_⟩;obtain⟨cR,rfl⟩:=oW (H₀:=H) ba nn ag;exact q (cc H aH) _ H1 g1.cc.bQ ((aP.cc H).set ⟨v,rfl,cR⟩) (d9.set λxs z=>by cases z)
theorem Lp{te:TE}(aA:∀Y H Q,e8 K mg m Y H Q->te Y H Q):∀D aq H,hS K mg (oR i m) D aq H->tc te (kf i) D aq H:=by
 rintro D aq H ⟨O,Y,S,aW,ar,st,h,q⟩;obtain⟨r,S1,ae,h⟩:=M.inv h;split at h
 .rename_i xs
  cases h;refine aA aq H _ ⟨O,Y,S,_,_,st,ae,λaH v H1 g1 aP ba nn=>?_⟩;obtain⟨a,ys,rfl,l,t,bx⟩:=ba;exact q _ _ H1 (g1.bQ.trans (dZ.dB t)) (aP.own t l bx) (d9.set λxs z=>by cases z)
 .cases h
end
@[simp] def Ho(i:Nat)(f:List D->List R->M (R×List D))(ms:cU)(Y:aQ):M (R×aQ):=do
 let rs <-ms Y
 match Y[i]? with
 |some (.e2 p xs)=>do
  let(r,ys) <-f xs rs
  pure (r,Y.set i (.e2 p ys))
 |_=>bad
@[simp] def rN(i:Nat)(f:List D->List R->M (R×List D))(ms:cU)(Y:aQ):M f_:=do
 let(_,Y') <-Ho i f ms Y
 pure (.bw Y')
def m7(xs:List D):List R->M (R×List D)
 |[r]=>do
  let d <-r.dat
  ik (xs.length<aj6)
  pure (.v .aN,xs++[d])
 |_=>bad
def wo(xs:List D):List R->M (R×List D)
 |[r]=>match r.own with
  |some ys=>do
   ik (xs.length+ys.length<=aj6)
   pure (.v .aN,xs++ys)
  |none=>bad
 |_=>bad
section
variable{K:aM}{mg:a9}{O:a0}{H:ah}{l:Addr}{zs ws:List V}
mutual
theorem Rep.ef(aT:O l≠.free)(hl:H l=some (.lst zs)):∀{d:D}{v:V},Rep K mg O H d v->Rep K mg O (upd H l (.lst ws)) d v
 |.aN,_,h=>h|.au _,_,h=>h|.int _,_,h=>h|.str _,_,h=>h|.tup _,_,h=>by
  obtain⟨a,ys,q,t,r⟩:=h;refine⟨a,ys,q,?_,a8.ef aT hl r⟩;rcases t with(t|⟨o,t⟩)|t
  .exact .inl (.inl (by rw[cG (Dk t hl (by intro z;cases z))];exact t))
  .exact .inl (.inr ⟨o,by rw[cG (Dk t hl (by intro z;cases z))];exact t⟩)
  .exact .inr t
 |.lst _,_,h=>by
  obtain⟨a,ys,q,t,r⟩:=h;exact⟨a,ys,q,⟨by rw[cG (by rintro rfl;exact aT t.2)];exact t.1,t.2⟩,a8.ef aT hl r⟩
 |.ref _,_,h=>h|.fn _,_,h=>h|.ty _,_,h=>h
theorem a8.ef(aT:O l≠.free)(hl:H l=some (.lst zs)):∀{ds:List D}{ys:List V},a8 K mg O H ds ys->a8 K mg O (upd H l (.lst ws)) ds ys
 |[],_,h=>h| _::_,_,h=>by obtain⟨x,r,q,a,b⟩:=h;exact⟨x,r,q,Rep.ef aT hl a,a8.ef aT hl b⟩
end
def hr.ef(aT:O l≠.free)(gj:O l≠.out)(h:hr K O H a ys):hr K O (upd H l (.lst ws)) a ys:=by
 rcases h with⟨h,f⟩|h
 .have ne:a≠l:=by rintro rfl;exact f.elim aT gj
  refine .inl ⟨?_,f⟩;rcases h with h|⟨o,h⟩
  .exact .inl (by rw[cG ne];exact h)
  .exact .inr ⟨o,by rw[cG ne];exact h⟩
 .exact .inr h
def iJ.ef(aT:O l≠.free)(gj:O l≠.out)(hw:O l≠w)(hl:H l=some (.lst zs)):∀{s:Slot}{u:Option V},iJ K mg O H w s u->iJ K mg O (upd H l (.lst ws)) w s u
 |.e,_,_=>trivial| .v _,_,h=>by obtain⟨v,q,r⟩:=h;exact⟨v,q,r.ef aT hl⟩
 |.e2 _ _,_,h=>by obtain⟨a,ys,q,o,t,r⟩:=h;exact⟨a,ys,q,o,by rw[cG (by rintro rfl;exact hw o)];exact t,r.ef aT hl⟩
 |.b8 _,_,h=>by obtain⟨a,ys,q,t,r⟩:=h;exact⟨a,ys,q,t.ef aT gj,r.ef aT hl⟩
def c5.ef(d:c5 O H)(hl:H l=some (.lst zs)):c5 O (upd H l (.lst ws)):=⟨λa ao=>by
 by_cases e:a=l
 .rw[e,dn];intro z;cases z
 .rw[cG e];exact d.has a ao,d.tabs.lst hl _,d.b9⟩
def dZ.ef(aT:O l≠.free)(gj:O l≠.out)(hl:H l=some (.lst zs)):dZ O O H (upd H l (.lst ws)):=by
 refine⟨λb o e h _=>?_,λ_ _ _=>rfl,λb h=>?_,λb ps e=>⟨ps,by rw[cG (by rintro rfl;rw[hl]at e;cases e)];exact e⟩,λg=>g.lst hl _,rfl⟩
 .rw[cG]
  .exact e
  .rintro rfl
   rcases h with h|h|⟨xs,h⟩|⟨_,_,h⟩
   .exact aT h
   .exact gj h
   .subst h;rw[e]at hl;cases hl
   .subst h;rw[e]at hl;cases hl
 .by_cases e:b=l
  .rw[e,dn];intro z;cases z
  .rw[cG e];exact h
def fP.ef(s:fP K mg O H S)(cM:c5 O H)(aT:O l≠.free)(gj:O l≠.out)(hl:H l=some (.lst zs)):fP K mg O (upd H l (.lst ws)) S:=
 s.all (λ_ _ z=>Rep.ef aT hl z) rfl λa h u e _=>by rw[cG (by rintro rfl;exact gj (cM.b9.2 _ h))];exact e
def ct.ef{Y:aQ}{aq:St}(st:ct K mg O Y S aq H)(aA:Y[i]? = some (.e2 p xs))(bu:aq[i]?.join=some (.ref l))(aT:O l=.loc i)(hl:H l=some (.lst zs))(aD:a8 K mg O H ys ws) :
  ct K mg O (Y.set i (.e2 p ys)) S aq (upd H l (.lst ws)):=by
 have ne:∀w:Own,w≠.loc i->O l≠w:=λw hw z=>hw (z.symm.trans aT)
 refine⟨st.b_.ef hl,by rw[akL];exact st.len,λj t e=>?_,st.fJ.ef st.b_ (ne _ (by intro z;cases z)) (ne _ (by intro z;cases z)) hl⟩
 by_cases aR:i=j
 .subst aR
  have fC:i<Y.length:=(aj1.mp aA).1;rw[aks fC]at e;cases e;exact⟨l,ws,bu,aT,dn,aD.ef (ne _ (by intro z;cases z)) hl⟩
 .rw[akk aR]at e
  exact(st.loc j t e).ef (ne _ (by intro z;cases z)) (ne _ (by intro z;cases z)) (ne _ (by intro z;cases z;exact aR rfl)) hl
end
def tH(K:aM)(mg:a9)(r:V->List V->ah->cD->Prop)(f:List D->List R->M (R×List D)):Prop:=
 ∀O H H₀ l xs zs rs vs S ar bH ys (Q:cD),H l=some (.lst zs)->a8 K mg O H xs zs->fN K mg O H rs vs->jB H₀ rs vs->(f xs rs).run S=.ok (bH,ys) ar->
  (∀v ws,S=ar->a8 K mg (cc H₀ O) H ys ws->(∃d,bH=.v d/\Rep K mg (cc H₀ O) H d v)->Q v (upd H l (.lst ws)))->r (.ref l) vs H Q
section
variable{K:aM}{mg:a9}
def yL:tH K mg LU m7:=λO H H₀ l xs zs rs vs S ar bH ys Q hl ai aD aF h q=>by
 unfold m7 at h;split at h
 .rename_i r
  obtain⟨v,rfl,bG⟩:=n7 aD;obtain⟨d,S1,ae,h⟩:=M.inv h;obtain⟨_,a7,ag,h⟩:=M.inv h;obtain⟨c,rfl⟩:=rS ag;obtain⟨cR,rfl⟩:=oW (H₀:=H₀) bG aF.1 ae;cases h;exact⟨l,zs,v,rfl,rfl,hl,by rw[ai.len];exact c,q .aN _ rfl ((ai.dc (iO _ _)).append (.one cR)) ⟨.aN,rfl,rfl⟩⟩
 .cases h
def ZT:tH K mg LW wo:=λO H H₀ l xs zs rs vs S ar bH ys Q hl ai aD aF h q=>by
 unfold wo at h;split at h
 .rename_i r
  obtain⟨v,rfl,bG⟩:=n7 aD;split at h
  .rename_i us e
   obtain⟨_,a7,ag,h⟩:=M.inv h;obtain⟨c,rfl⟩:=rS ag;cases h;obtain⟨b,ws,rfl,cu,b5⟩:=R.DO bG e;exact⟨l,b,zs,ws,rfl,rfl,hl,cu,by rw[ai.len,b5.len];exact c,q .aN _ rfl ((ai.append b5).dc (iO _ _)) ⟨.aN,rfl,rfl⟩⟩
  .cases h
 .cases h
variable{f:List D->List R->M (R×List D)}{r:V->List V->ah->cD->Prop}{ms:cU}{i:Nat}
def aab(hf:tH K mg r f){O:a0}{Y Y':aQ}{S ar:cJ}{aq:St}{H:ah}{bH:R}{Q:cD}(st:ct K mg O Y S aq H)(h:(Ho i f ms Y).run S=.ok (bH,Y') ar)
  (q:∀ak v H',dZ O ak H H'->ct K mg ak Y' ar aq H'->d9 Y Y' aq aq->(∃d,bH=.v d/\Rep K mg ak H' d v)->Q v H') :
  ∃v,aq[i]? = some (some v)/\zL K "list" v H/\m6 K mg ms aq H λvs aK=>r v vs aK Q:=by
 obtain⟨rs,S1,ae,h⟩:=M.inv h
 cases e:Y[i]? with
 |none=>rw[e]at h;cases h
 |some s=>
  rw[e]at h
  cases s with
  |e=>cases h
  |v _=>cases h
  |b8 _=>cases h
  |e2 p xs=>
   obtain⟨⟨b5,ys⟩,a7,ag,h⟩:=M.inv h;cases h;obtain⟨a,zs,aw,aG,c3,fS⟩:=st.loc i _ e;have ev:aq[i]? = some (some (.ref a)):=by
    cases w:aq[i]? with
    |none=>rw[w]at aw;cases aw
    |some y=>rw[w]at aw;exact congrArg some aw
   refine⟨.ref a,ev,.inl ⟨rfl,_,du.of c3⟩,O,Y,S,rs,S1,st,ae,λaH vs H1 g1 aP ba nn=>?_⟩;have xF:=g1.same.at' _ _ c3;have aF:H a≠none:=by rw[c3];intro z;cases z
   have US:aH a=.loc i:=(g1.own a aF).trans aG;refine hf aH H1 H a xs zs rs vs S1 _ _ ys Q xF (fS.go g1) ba nn ag λv ws ay bx aO=>?_
   obtain⟨d,dm,cR⟩:=aO;subst ay;have qK:cc H aH a=.loc i:=by rw[Bz aF];exact US
   have no:∀w:Own,w≠.loc i->cc H aH a≠w:=λw hw z=>hw (z.symm.trans qK)
   refine q (cc H aH) v _ (g1.cc.bQ.trans (dZ.ef (no _ (by intro z;cases z)) (no _ (by intro z;cases z)) xF)) ((aP.cc H).ef e (by rw[ev];rfl) qK xF bx) ?_ ⟨d,dm,cR.ef (no _ (by intro z;cases z)) xF⟩;have fC:i<Y.length:=(aj1.mp e).1;exact d9.put e (λxs z=>by cases z) (λ_ z=>by cases z;exact⟨xs,rfl⟩)
end
def wU(bJ:hG)(O:a0)(H:ah)(ys:List V):Prop:=∀a_ aK,dZ O a_ H aK->∀i,(i<ys.length->bJ.go i aK/\∀x H',bJ.oo i aK x H'->H'=aK/\ys[i]? = some x)/\(ys.length<=i->bJ.stop i aK)
abbrev gc:=aQ->M (List D)
def th(K:aM)(mg:a9)(m:gc):TI:=λaq H R=>oI K mg m aq H λO Y ar xs=>∀ak H' bJ ys,Go O ak H H'->ct K mg ak Y ar aq H'->wR bJ H' ys->a8 K mg ak H' xs ys->R bJ H'
def zH(K:aM)(mg:a9)(m:gc):TI:=λaq H R=>oI K mg m aq H λO Y ar xs=>∀ak H' bJ ys,Go O ak H H'->ct K mg ak Y ar aq H'->wU bJ ak H' ys->a8 K mg ak H' xs ys->R bJ H'
abbrev Fl(X:aJ)(b7 iter:Expr)(m:gc):Prop:=jC X b7 iter (th X.K X.mg m)
abbrev OS(X:aJ)(b7 iter:Expr)(m:gc):Prop:=jC X b7 iter (zH X.K X.mg m)
def pJ{b7 e:Expr}{t t':TI}(h:jC X b7 e t)(i:∀Y H Q,t' Y H Q->t Y H Q):jC X b7 e t':=λzn s Y H Q I q=>h zn s Y H Q I (i _ _ _ q)
def dZ.we{O ak:a0}{H H':ah}(g:dZ O ak H H')(h:dj K H a ys):dj K H' a ys:=by
 rcases h with(h|⟨o,h⟩)|h
 .exact .inl (.inl (g.cells _ _ h (.inr (.inr (.inl ⟨_,rfl⟩)))))
 .exact .inl (.inr ⟨o,g.cells _ _ h (.inr (.inr (.inr ⟨_,_,rfl⟩)))⟩)
 .exact .inr h
def dZ.Kj{O ak:a0}{H H':ah}(g:dZ O ak H H')(h:hr K O H a ys):hr K ak H' a ys:=by
 rcases h with⟨h,f⟩|h
 .refine .inl ⟨?_,by rw[g.own a (fi.some h) f];exact f⟩
  rcases h with h|⟨o,h⟩
  .exact .inl (g.cells _ _ h (f.elim .inl λz=>.inr (.inl z)))
  .exact .inr ⟨o,g.cells _ _ h (f.elim .inl λz=>.inr (.inl z))⟩
 .exact .inr h
@[simp] def mG(m:bf)(Y:aQ):M (List D):=do
 let r <-m Y
 match r with
 |.v (.tup xs)=>pure xs|_=>bad
@[simp] def qu(m:bf)(Y:aQ):M (List D):=do
 let r <-m Y
 match r with
 |.v (.lst xs)=>pure xs|.fr xs=>pure xs|.b8 xs=>pure xs|_=>bad
@[simp] def mF(m:bf)(Y:aQ):M (List D):=do
 let r <-m Y
 match r.fG with
 |some xs=>pure xs|none=>bad
def mZ(lo:Int)(n:Nat):List D:=(akU n).map λi=>D.int (lo+(i:Nat))
@[simp] def sh(m:cU)(Y:aQ):M (List D):=do
 let rs <-m Y
 match rs with
 |[.v (.int j)]=>if -(2 ^ 62)<=j/\j<2 ^ 62 then pure (mZ 0 j.toNat)else bad|_=>bad
def aco{O:a0}{H:ah}(lo:Int)(n:Nat):a8 K mg O H (mZ lo n) (pM lo n):=by
 unfold mZ pM
 induction(akU n)with
 |nil=>rfl|cons a r aZ=>exact⟨.int (lo+a),_,rfl,rfl,aZ⟩
def YG{O:a0}{H:ah}(lo:Int)(n:Nat):wU (ru lo n) O H (pM lo n):=λa_ aK _ i=>JI (H:=aK) lo n aK (dy.refl _) i
section
variable{a:Expr}{ms:cU}
def Mf:(∀aq H R,zH K mg (sh ms) aq H R->Cm (m6 K mg ms) aq H R)/\(∀aq H R,th K mg (sh ms) aq H R->Cm (m6 K mg ms) aq H R):=by
 constructor<;>
 .rintro aq H R ⟨O,Y,S,xs,ar,st,h,q⟩
  obtain⟨rs,S1,ae,h⟩:=M.inv h;split at h
  .rename_i j
   by_cases c:-(2 ^ 62)<=j/\j<2 ^ 62
   .rw[if_pos c]at h
    cases h;refine⟨O,Y,S,_,_,st,ae,λaH vs H1 g1 aP ba nn=>?_⟩;obtain⟨v,rfl,bG⟩:=n7 ba;cases(show v=.int j from bG);exact⟨j,rfl,c.1,c.2,q aH H1 (ru 0 j.toNat) (pM 0 j.toNat) g1 aP (by first|exact YG _ _|exact JI _ _) (aco _ _)⟩
   .rw[if_neg c]at h;cases h
  .cases h
def Cr{K:aM}{O:a0}{H:ah}{a:Addr}{xs:List V}(h:hr K O H a xs):wU (l8 K a) O H xs:=λa_ aK g i=>Cq (g.Kj h).dv aK (dy.refl _) i
def YJ{K:aM}{O:a0}{H:ah}{a:Addr}{xs:List V}(h:dj K H a xs):wU (rx K a) O H xs:=λa_ aK g i=>JJ (g.we h) aK (dy.refl _) i
end
def ha(b:D->aI):List D->aI
 |[]=>λY=>pure (.bw Y)
 |d::ds=>λY=>do
  let aW <-b d Y
  match aW with
  |.bw Y'=>ha b ds Y'|.cb Y'=>ha b ds Y'|.d4 Y'=>pure (.bw Y')|.cP r=>pure (.cP r)
@[simp] def jd(i:Nat)(it:gc)(b:aI)(Y:aQ):M f_:=do
 let ds <-it Y
 ha (λd Y=>b (Y.set i (.v d))) ds Y
def ct.val{O:a0}{Y:aQ}{aq:St}{H:ah}{v:V}(st:ct K mg O Y S aq H)(h:Rep K mg O H d v):ct K mg O (Y.set i (.v d)) S (aq.set i (some v)) H:=st.set ⟨v,rfl,h⟩
def a8.bQ{O ak:a0}{H H':ah}(g:dZ O ak H H'):∀{ds:List D}{ys:List V},a8 K mg O H ds ys->a8 K mg ak H' ds ys:=by
 have rep:∀(d:D)(v:V),Rep K mg O H d v->Rep K mg ak H' d v:=by
  intro d
  induction d using D.rec (motive_2:=λds=>∀ys,a8 K mg O H ds ys->a8 K mg ak H' ds ys)with
  |aN=>exact λv h=>h
  |au _=>exact λv h=>h
  |int _=>exact λv h=>h
  |str _=>exact λv h=>h
  |fn _=>exact λv h=>h
  |ty _=>exact λv h=>h
  |ref n=>exact λv ⟨a,q,l⟩=>⟨a,q,by rw[g.bI];exact l⟩
  |tup xs aZ=>exact λv ⟨a,ys,q,l,r⟩=>⟨a,ys,q,g.we l,aZ ys r⟩
  |lst xs aZ=>exact λv ⟨a,ys,q,l,r⟩=>⟨a,ys,q,⟨g.cells _ _ l.1 (.inl l.2),by rw[g.own a (by rw[l.1];intro z;cases z) (.inl l.2)];exact l.2⟩,aZ ys r⟩
  |nil=>assumption|cons x xs u2 u3=>
   rename_i zs hz;obtain⟨y,r,q,a,b⟩:=hz;exact⟨y,r,q,u2 y a,u3 r b⟩
 intro ds
 induction ds with
 |nil=>exact λh=>h
 |cons x xs aZ=>rintro ys ⟨y,r,q,a,b⟩;exact⟨y,r,q,rep x y a,aZ b⟩
section
variable{it:gc}{i:Nat}{b:aI}{x:Str}
def a8.get'{O:a0}{H:ah}{ds:List D}{ys:List V}{k:Nat}(h:a8 K mg O H ds ys)(e:ds.drop k=d::mq):∃y,ys[k]? = some y/\Rep K mg O H d y/\ds.drop (k+1)=mq:=by
 have aw:ds[k]? = some d:=by
  have:=congrArg (·[0]?) e;simpa using this
 obtain⟨y,q,r⟩:=h.get aw;refine⟨y,q,r,?_⟩;have:=congrArg (aoV 1) e;simpa[ana]using this
theorem Va{G:ij}{B:aE.D->aI}(o2:∀O Y S aq H d y f a7 Q,ct K mg O Y S aq H->Rep K mg O H d y->(B d Y).run S=.ok f a7->(∀hF jZ,ct K mg O hF S jZ H->d9 Y hF aq jZ->(b hF).run S=.ok f a7->Q jZ H)->G y aq H Q) :
  ∀D aq H,hS K mg (λY=>do
   let ds <-it Y
   ha B ds Y) D aq H->td (zH K mg it) G (hS K mg b) D aq H:=by
 rintro D aq H ⟨O,Y,S,aW,ar,st,h,q⟩;obtain⟨ds,S1,ae,h⟩:=M.inv h;refine⟨O,Y,S,ds,S1,st,ae,λaH H1 bJ ys g1 aP its bx=>?_⟩;refine⟨λk m cW H'=>m=ys.length-k/\k<=ys.length/\∃ak Y' gQ,ct K mg ak Y' gQ cW H'/\dZ aH ak H1 H'/\d9 Y Y' aq cW/\(ha B (ds.drop k) Y').run gQ=.ok aW ar,
  ⟨_,rfl,akA _,aH,Y,S1,aP,dZ.refl _ _,d9.refl _ _,h⟩,?_⟩
 rintro k m cW H' ⟨rfl,aB,ak,Y',gQ,bW,g',kp,h⟩
 cases e:ds.drop k with
 |nil=>
  have hl:ys.length<=k:=by
   have:=congrArg alA e;rw[akY,alc]at this;rw[bx.len];omega
  rw[e]at h;cases h;exact .inl ⟨(its ak H' g' k).2 hl,q ak cW H' (g1.bQ.trans g') bW kp⟩
 |cons d mq=>
  obtain⟨y,fb,bz,bZ⟩:=(a8.bQ g' bx).get' e;have fC:k<ys.length:=(aj1.mp fb).1;obtain⟨go,om⟩:=(its ak H' g' k).1 fC;rw[e]at h;obtain⟨f1,a7,ag,h⟩:=M.inv h;refine .inr ⟨go,λgN aK=>∃a_ dp a7,ct K mg a_ dp a7 gN aK/\dZ aH a_ H1 aK/\d9 Y dp aq gN/\(ha B (ds.drop (k+1)) dp).run a7=.ok aW ar,?_,λx aK jY=>?_⟩
  .rintro gN aK ⟨a_,dp,a7,a1,a2,eu,gg⟩
   exact⟨_,by omega,rfl,fC,a_,dp,a7,a1,a2,eu,gg⟩
  .obtain⟨rfl,ex⟩:=om x aK jY
   rw[fb]at ex;cases ex;refine o2 _ _ _ _ _ _ _ _ _ _ bW bz ag λhF jZ oa ks aa=>?_
   refine⟨ak,hF,gQ,f1,a7,oa,aa,?_⟩
   cases f1 with
   |bw dp=>exact λa_ gN aK g2 cf k2=>⟨a_,dp,a7,cf,g'.trans g2,kp.trans (ks.trans k2),by rw[bZ];exact h⟩
   |cb dp=>exact λa_ gN aK g2 cf k2=>⟨a_,dp,a7,cf,g'.trans g2,kp.trans (ks.trans k2),by rw[bZ];exact h⟩
   |d4 dp=>cases h;exact λa_ gN aK g2 cf k2=>q a_ gN aK (g1.bQ.trans (g'.trans g2)) cf (kp.trans (ks.trans k2))
   |cP r=>cases h;exact λa_ v aK g2 dT aG b5=>q a_ v aK (g1.bQ.trans (g'.trans g2)) dT aG b5
def Vd:∀D aq H,hS K mg (jd i it b) D aq H->td (zH K mg it) (kf i) (hS K mg b) D aq H:=
 Va (B:=λd Y=>b (Y.set i (.v d))) λ_ _ _ _ _ _ _ _ _ _ st bz h k=>k _ _ (st.val bz) (d9.set λxs z=>by cases z) h
end
def h4(t:aQ->M Bool)(el:bf)(Y:aQ):List D->M (List D)
 |[]=>pure []|d::ds=>do
  let b <-t (Y.set 0 (.v d))
  if b=true then do
   let r <-el (Y.set 0 (.v d))
   let x <-r.dat
   let xs <-h4 t el Y ds
   pure (x::xs)
  else h4 t el Y ds
def xx:Option Slot->Slot
 |some (.v d)=>.v d|some (.e2 _ xs)=>.b8 xs|some (.b8 xs)=>.b8 xs|_=>.e
def mm(n:Nat)(cap:List Nat)(Y:aQ):aQ:=akF n .e++cap.map λk=>xx Y[k]?
@[simp] def gR(n:Nat)(cap:List Nat)(it:gc)(t:aQ->M Bool)(el:bf)(Y:aQ):M R:=do
 let ds <-it Y
 ik (ds.length<aj6)
 let xs <-h4 t el (mm n cap Y) ds
 pure (.fr xs)
def gJ:aQ->M Bool:=λ_=>pure true
abbrev z9(X:aJ)(ifs:List Expr)(t:aQ->M Bool):Prop:=rA X ifs (lP X.K X.mg t)
def Own.eT:Own->Own
 |.loc _=>.out|.dB=>.out|o=>o
def eT(O:a0):a0:=⟨λb=>(O b).eT,O.bI⟩
def t4(O:a0)(b:Addr):eT O b=(O b).eT:=rfl
def He{O:a0}{H:ah}(d:c5 O H):iI (eT O):=⟨d.b9.1,λa h=>by rw[t4,d.b9.2 a h];rfl⟩
def oQ{O:a0}:eT O b=.free↔O b=.free:=by rw[t4];cases O b<;>simp[Own.eT]
def mi(O:a0)(b:Addr):eT O b=.free\/eT O b=.out:=by rw[t4];cases O b<;>simp[Own.eT]
def kP(O:a0):l6 O (eT O):=⟨λ_ h=>oQ.mpr h,rfl⟩
def hr.eT{O:a0}{H:ah}(h:hr K O H a ys):hr K (eT O) H a ys:=by
 rcases h with⟨h,f⟩|h
 .refine .inl ⟨h,?_⟩
  rcases f with f|f
  .exact .inl (oQ.mpr f)
  .exact .inr (by rw[t4,f];rfl)
 .exact .inr h
def ct.eT{O:a0}{H:ah}(st:ct K mg O Y S aq H)(n:Nat)(cap:List Nat):ct K mg (eT O) (mm n cap Y) S (gS n cap aq) H:=by
 refine⟨⟨λa ao=>st.b_.has a λz=>ao (oQ.mpr z),st.b_.tabs,He st.b_⟩,?_,λi s e=>?_,st.fJ.all (λ_ _ z=>Rep.dc (kP O) z) rfl λ_ _ _ l _=>l⟩
 .unfold mm gS
  rw[aj9,aj9,ak7,ak7,aj2,aj2]
 .unfold mm at e
  unfold gS
  by_cases aA:i<n
  .rw[akt (by simpa using aA),alV,if_pos aA]at e
   cases e;exact trivial
  .rw[akq (by simpa using aA),ak7,akD]at e
   rw[akq (by simpa using aA),ak7,akD]
   cases nB:cap[i-n]? with
   |none=>rw[nB]at e;cases e
   |some k=>
    rw[nB]at e;have bZ:xx Y[k]? = s:=aky e;show iJ K mg _ H _ s (some (aq[k]?.join)).join
    cases ay:Y[k]? with
    |none=>rw[ay]at bZ;subst bZ;exact trivial|some s0=>
     rw[ay]at bZ;have l:=st.loc k s0 ay
     cases s0 with
     |e=>subst bZ;exact trivial|v d=>subst bZ;obtain⟨v,q,r⟩:=l;exact⟨v,q,r.dc (kP O)⟩
     |b8 xs=>subst bZ;obtain⟨a,ys,q,l,r⟩:=l;exact⟨a,ys,q,l.eT,r.dc (kP O)⟩
     |e2 p xs=>subst bZ;obtain⟨a,ys,q,o,l,r⟩:=l;exact⟨a,ys,q,.inl ⟨.inl l,.inr (by rw[t4,o];rfl)⟩,r.dc (kP O)⟩
def ct.afF{O:a0}{H:ah}(st:ct K mg O Y S aq H)(aT:O l=.dB)(hl:H l=some (.lst zs)):ct K mg O Y S aq (upd H l (.lst ws)):=by
 have ne:∀w:Own,w≠.dB->O l≠w:=λw hw z=>hw (z.symm.trans aT)
 exact⟨st.b_.ef hl,st.len,λj t e=>(st.loc j t e).ef (ne _ (by intro z;cases z)) (ne _ (by intro z;cases z)) (ne _ (by intro z;cases z)) hl,st.fJ.ef st.b_ (ne _ (by intro z;cases z)) (ne _ (by intro z;cases z)) hl⟩
section
variable{K:aM}{mg:a9}{n:Nat}{cap:List Nat}{it:gc}{t:aQ->M Bool}{el:bf}
def mJ{α:Type}(put:α->Option aQ)(t:aQ->M Bool)(el:bf):List α->M (List D)
 |[]=>pure []|d::ds=>match put d with
  |none=>bad|some Y=>do
   let b <-t Y
   if b=true then do
    let r <-el Y
    let x <-r.dat
    let xs <-mJ put t el ds
    pure (x::xs)
   else mJ put t el ds
omit [ax.aX]in
theorem JN(Y:aQ):∀ds:List D,h4 t el Y ds=mJ (λd=>some (Y.set 0 (.v d))) t el ds
 |[]=>rfl| d::ds=>by unfold h4 mJ;rw[JN Y ds]
inductive CompI{α:Type}(K:aM)(mg:a9)(n:Nat)(cap:List Nat)(L:Nat->M (List aE.D))(aH:a0)(Y:aQ)(S1:cJ)(aq:St)(H1:ah)(A:Addr)(xs:List aE.D)(k:Nat)(zs:List V)(H':ah):Prop
 |mk (ak:a0) (acc wz:List aE.D) (bW:ct K mg ak (mm n cap Y) S1 (gS n cap aq) H') (g':Go (eT aH) ak H1 H') (zC:ak A=.dB) (dw:H' A=some (.lst zs)) (hz:zs.length<=k)
   (m1:a8 K mg ak H' acc zs) (h:(L k).run S1=.ok wz S1) (ex:acc++wz=xs)
def HA{α:Type}{put:α->Option aQ}{items:List α}{aH:a0}{Y:aQ}{S1 ar:cJ}{aq:St}{H1:ah}{bJ:hG}{G:ij}{xs:List aE.D}{Q:cD}(aP:ct K mg aH Y S1 aq H1)(hlen:items.length<aj6)
  (stop:∀H',dy H1 H'->bJ.stop items.length H')
  (step:∀k d oq ak H',items[k]? = some d->put d=some oq->Go (eT aH) ak H1 H'->ct K mg ak (mm n cap Y) S1 (gS n cap aq) H'->bJ.go k H'/\∀x aK (R:St->ah->Prop),bJ.oo k H' x aK->
   (∀hF cI,Go ak ak H' cI->ct K mg ak oq S1 hF cI->m' (gS n cap aq) hF->R hF cI)->G x (gS n cap aq) aK R)
  (bO:(mJ put t el items).run S1=.ok xs ar) (q:∀ak v H',Go aH ak H1 H'->ct K mg ak Y ar aq H'->ei K mg ak H' (.fr xs) v->iH H1 (.fr xs) v->Q v H') :
  ∀D,H1 D=none->A9 bJ (gS n cap aq) G (lP K mg t) (e8 K mg el) D H1 Q:=by
 intro D ip;obtain rfl:=(mJ put t el items).d6 _ _ _ bO;have hR:ct K mg (gn (eT aH) D .dB) (mm n cap Y) ar (gS n cap aq) (upd H1 D (.lst [])):=(aP.eT n cap).new ip;refine⟨λk m zs H'=>m=items.length-k/\k<=items.length/\CompI (α:=α) K mg n cap (λk=>mJ put t el (items.drop k)) aH Y ar aq H1 D xs k zs H',
  ⟨_,rfl,akA _,_,[],xs,hR,Go.new ip,pS,dn,aj8 _,rfl,bO,rfl⟩,?_⟩
 rintro k m zs H' ⟨rfl,aB,ak,acc,wz,bW,g',zC,dw,hz,m1,h,ex⟩
 cases e:items.drop k with
 |nil=>
  obtain rfl:k=items.length:=by
   have:=congrArg alA e;rw[akY,alc]at this;omega
  rw[e]at h;cases h;rw[ak3]at ex;subst ex;refine .inl ⟨stop H' g'.same,?_⟩
  let rz:a0:=⟨λb=>match H1 b with|none=>ak b|some _=>aH b,aH.bI⟩
  have DC:∀b,H1 b≠none->rz b=aH b:=λb aa=>by
   show(match H1 b with|none=>ak b|some _=>aH b)=aH b
   cases e:H1 b with
   |none=>exact absurd e aa|some _=>rfl
  have DB:∀b,H1 b=none->rz b=ak b:=λb aa=>by
   show(match H1 b with|none=>ak b|some _=>aH b)=ak b;rw[aa]
  have dc:l6 ak rz:=⟨λb aa=>by
    by_cases o5:H1 b=none
    .rw[DB b o5];exact aa
    .rw[DC b o5];exact oQ.mp ((g'.own b o5).symm.trans aa),g'.bI.symm⟩
  have go:Go aH rz H1 H':=⟨g'.same,DC,rfl⟩;have b_:c5 rz H':=⟨λb aa=>by
   by_cases o5:H1 b=none
   .rw[DB b o5]at aa;exact bW.b_.has b aa
   .exact g'.same.some o5,bW.b_.tabs,aP.b_.b9.1,λb m=>(DC b (aP.b_.has b (by rw[aP.b_.b9.2 b m];intro z;cases z))).trans (aP.b_.b9.2 b m)⟩
  refine q rz (.ref D) H' go (aP.go go b_) ⟨D,zs,rfl,dw,(DB D ip).trans zC,m1.dc dc⟩ λa fm=>?_
  cases fm;exact ip
 |cons d mq=>
  have fC:k<items.length:=by
   have:=congrArg alA e;rw[akY,akn]at this;omega
  have dm:items[k]? = some d:=by
   have:=congrArg (·[0]?) e;simpa using this
  have bZ:items.drop (k+1)=mq:=by
   have:=congrArg (aoV 1) e;simpa[ana]using this
  rw[e]at h;unfold mJ at h
  cases cn:put d with
  |none=>rw[cn]at h;cases h
  |some oq=>
  rw[cn]at h;dsimp only at h;obtain⟨b,a7,ag,h⟩:=M.inv h;obtain rfl:=(t oq).d6 _ _ _ ag;obtain⟨go,om⟩:=step k d oq ak H' dm cn g' bW;refine .inr ⟨go,λx aK jY=>om x aK _ jY λhF cI jg oa xK=>⟨xK,ak,oq,a7,b,a7,oa,ag,λa_ gu g2 cf=>?_⟩⟩;have r4:Go ak a_ H' gu:=jg.trans g2
  cases b with
  |false=>
   rw[if_neg aj7]at h;exact mH ⟨items.length-(k+1),by omega,rfl,fC,a_,acc,wz,bW.go r4 cf.b_,g'.trans r4,(r4.own D (by rw[dw];intro z;cases z)).trans zC,r4.same.at' _ _ dw,by omega,m1.go r4,by rw[bZ];exact h,ex⟩
  |true=>
   rw[if_pos rfl]at h;obtain⟨r,ni,cO,h⟩:=M.inv h;obtain rfl:=(el oq).d6 _ _ _ cO;obtain⟨x,p7,dV,h⟩:=M.inv h;obtain rfl:=r.dat.d6 _ _ _ dV;obtain⟨OG,Pf,k4,h⟩:=M.inv h;cases h;refine mI ⟨a_,_,_,r,_,cf,cO,λd_ v j5 g3 f6 ba nn=>?_⟩;obtain⟨aU,_⟩:=oW (H₀:=gu) ba nn dV;have nc:Go ak (cc gu d_) H' j5:=r4.trans g3.cc;have x3:j5 D=some (.lst zs):=nc.same.at' _ _ dw;have Ew:cc gu d_ D=.dB:=(nc.own D (by rw[dw];intro z;cases z)).trans zC;have uz:=g'.trans nc;exact⟨x3,by omega,items.length-(k+1),by omega,rfl,fC,cc gu d_,acc++[x],OG,(bW.go nc (f6.cc gu).b_).afF Ew x3,⟨tn ip uz.same x3 _,uz.own,uz.bI⟩,Ew,dn,
    by rw[aj9,amH];omega,((m1.go nc).append (.one aU)).ef (by rw[Ew];intro z;cases z) x3,by rw[bZ];exact k4,by rw[amC];exact ex⟩
def HB(aF:0<n):∀aq H Q,e8 K mg (gR n cap it t el) aq H Q->wj n cap (th K mg it) (kf 0) (lP K mg t) (e8 K mg el) aq H Q:=by
 rintro aq H Q ⟨O,Y,S,r,ar,st,h,q⟩;obtain⟨ds,S1,ae,h⟩:=M.inv h;obtain⟨_,a7,ag,h⟩:=M.inv h;obtain⟨hlen,rfl⟩:=rS ag;obtain⟨xs,gw,bO,h⟩:=M.inv h;cases h;rw[JN]at bO;refine⟨O,Y,S,ds,S1,st,ae,λaH H1 bJ ys g1 aP its bx=>HA aP hlen (λH' s=>(its H' s _).2 (amF bx.len)) (λk d oq ak H' dm cn g' bW=>?_) bO λak v H' g bW ba nn=>q ak v H' (g1.trans g) bW ba (nn.back g1.same)⟩;cases cn;obtain⟨y,fb,bz⟩:=(a8.go g' (bx.dc (kP aH))).get dm;obtain⟨go,om⟩:=(its H' g'.same k).1 (aj1.mp fb).1;refine⟨go,λx aK R jY dQ=>?_⟩;obtain⟨rfl,ex⟩:=om x aK jY;rw[fb]at ex;cases ex;exact dQ _ _ (Go.refl _ _) (bW.val bz) ((m'.refl _).set (by cases n with|zero=>exact absurd aF (akM _)|succ j=>rfl))
end
section
variable{X:aJ}{scope esc:Scope}{EN N:List Str}{n:Nat}{cap:List Nat}{elt iter:Expr}{ifs:List Expr}{pos eG:Pos}{x:Str}{it:gc}{t:aQ->M Bool}{el:bf}
def Px{i:Nat}{y:Str}{py pP:Pos}(S:l5 esc scope EN N n cap)(uG:X.N.Nodup)(jL:X.N[i]? = some y)(a':X.env.scope.names.lookup y=some .local)(aF:0<n)(aA:Fl X (.Name x eG) iter it)(ai:N[0]? = some x)(kk:∀C aY s H,Loc (cZ X scope N C aY s H).env.scope x/\(cZ X scope N C aY s H).env.scope.names.lookup x=some .local)
  (bC:∀C aY s H,z9 (cZ X scope N C aY s H) ifs t) (iR:∀C aY s H,g7 (cZ X scope N C aY s H) elt el)
  (he:X.env.scope=esc:=by rfl) (hN:X.N=EN:=by rfl) (hc:X.calm=true:=by rfl) (az:∀x,ak0 iter X.env x=pure x:=by intro _;rfl)
  (iT:ak6 (.ListComp elt [⟨.Name x eG,iter,ifs,0⟩] scope pos) (some (.Name y py)) pP.line X.env=pure true:=by rfl) :
  hH X (.Assign [.Name y py] (.ListComp elt [⟨.Name x eG,iter,ifs,0⟩] scope pos) pP) (tc (wj n cap (th X.K X.mg it) (kf 0) (lP X.K X.mg t) (e8 X.K X.mg el)) (kf i)):=
 abR (wi:=th X.K X.mg it) (g:=kf 0) (tt:=lP X.K X.mg t) (te:=e8 X.K X.mg el) S uG jL a' aA (λC aY s H=>vT S.fT ai (kk C aY s H).1 (.inr (kk C aY s H).2)) bC iR he hN hc az iT
end
abbrev bq:=List D->M R
def tF(K:aM)(mg:a9)(O:a0)(H:ah):D->V->Prop
 |.lst xs,v=>∃a ys,v=.ref a/\du K H a ys/\a8 K mg O H xs ys|d,v=>Rep K mg O H d v
def kH(K:aM)(mg:a9)(O:a0)(H:ah):List D->List V->Prop
 |[],ys=>ys=[]|x::xs,ys=>∃y r,ys=y::r/\tF K mg O H x y/\kH K mg O H xs r
def c9:D->Slot
 |.lst xs=>.b8 xs|d=>.v d
def FK{O:a0}{H:ah}{r:R}{v:V}(h:ei K mg O H r v):tF K mg O H r.arg v:=by
 match r,h with
 |.v (.lst xs),h=>obtain⟨a,ys,q,l,r⟩:=h;exact⟨a,ys,q,l.dv,r⟩
 |.fr xs,h=>obtain⟨a,ys,q,l,_,r⟩:=h;exact⟨a,ys,q,du.of l,r⟩
 |.b8 xs,h=>obtain⟨a,ys,q,l,r⟩:=h;exact⟨a,ys,q,l.dv,r⟩
 |.mv xs,h=>obtain⟨a,ys,q,l,r⟩:=h;exact⟨a,ys,q,du.of l,r⟩
 |.v .aN,h=>exact h|.v (.au _),h=>exact h|.v (.int _),h=>exact h|.v (.str _),h=>exact h|.v (.tup _),h=>exact h|.v (.ref _),h=>exact h|.v (.fn _),h=>exact h|.v (.ty _),h=>exact h
theorem xb{O:a0}{H:ah}:∀{rs:List R}{vs:List V},fN K mg O H rs vs->kH K mg O H (rs.map R.arg) vs
 |[],_,h=>h| _::_,_,h=>by obtain⟨y,r,q,a,b⟩:=h;exact⟨y,r,q,FK a,xb b⟩
theorem kH.len{O:a0}{H:ah}:∀{ds:List D}{vs:List V},kH K mg O H ds vs->vs.length=ds.length
 |[],_,h=>by cases h;rfl
 |_::_,_,h=>by obtain⟨x,r,rfl,_,b⟩:=h;rw[akn,akn,kH.len b]
theorem kH.get{O:a0}{H:ah}:∀{ds:List D}{xs:List V}{i:Nat}{d:D},kH K mg O H ds xs->ds[i]? = some d->∃x,xs[i]? = some x/\tF K mg O H d x
 |[],_,_,_,_,e=>by simp at e| _::_,_,0,d,h,e=>by obtain⟨x,r,rfl,a,_⟩:=h;cases(show some _=some d from e);exact⟨x,rfl,a⟩
 |_::ds,_,i+1,d,h,e=>by
  obtain⟨x,r,rfl,_,b⟩:=h;obtain⟨y,aw,aG⟩:=kH.get (i:=i) b (by simpa using e);exact⟨y,by simpa using aw,aG⟩
def bL(K:aM)(mg:a9)(mf:bq):dP:=λvs H Q _=>∃O ds r S,c5 O H/\fP K mg O H S/\kH K mg O H ds vs/\(mf ds).run S=.ok r S/\∀ak v H',Go O ak H H'->c5 ak H'->ei K mg ak H' r v->iH H r v->Q v H'
@[simp] def bj(mf:bq)(ms:cU)(Y:aQ):M R:=do
 let rs <-ms Y
 mf (rs.map R.arg)
section
variable{mf:bq}{ms:cU}
def AZ:∀aq H Q,e8 K mg (bj mf ms) aq H Q->zD (bL K mg mf) (m6 K mg ms) aq H Q:=by
 rintro aq H Q ⟨O,Y,S,r,ar,st,h,q⟩;obtain⟨rs,S1,ae,h⟩:=M.inv h;refine⟨O,Y,S,rs,S1,st,ae,λaH vs H1 g1 aP ba nn=>?_⟩;obtain rfl:=(mf _).d6 _ _ _ h;exact⟨aH,_,r,ar,aP.b_,aP.fJ,xb ba,h,λak v H' g d bH jo=>q ak v H' (g1.trans g) (aP.go g d) bH (jo.back g1.same)⟩
end
def fnOf(n N:Nat)(b:aI):bq:=λds=>if ds.length=n then do
  let aW <-b (ds.map c9++akF (N-n) .e)
  match aW with
  |.cP (.v d)=>pure (.v d)|.cP (.fr xs)=>pure (.fr xs)|.bw _=>pure (.v .aN)|_=>bad
 else bad
def ad9{O:a0}{H:ah}{v:V}(h:tF K mg O H d v):iJ K mg (eT O) H w (c9 d) (some v):=by
 have val:Rep K mg O H d v->iJ K mg (eT O) H w (.v d) (some v):=λh=>⟨v,rfl,h.dc (kP O)⟩
 match d,h,val with
 |.lst xs,h,_=>
  obtain⟨a,ys,rfl,l,r⟩:=h;exact⟨a,ys,rfl,l.imp (λz=>⟨z,mi O a⟩) id,r.dc (kP O)⟩
 |.aN,h,val=>exact val h|.au _,h,val=>exact val h|.int _,h,val=>exact val h|.str _,h,val=>exact val h|.tup _,h,val=>exact val h|.ref _,h,val=>exact val h|.fn _,h,val=>exact val h|.ty _,h,val=>exact val h
omit [ax.aX]in
theorem uv{n N:Nat}{ds:List D}{r:R}(h:(fnOf n N b ds).run S=.ok r ar):ds.length=n:=by
 unfold fnOf at h
 by_cases c:ds.length=n
 .exact c
 .rw[if_neg c]at h;cases h
def Eo{ps N:List Str}{O:a0}{H:ah}{ds:List D}(cM:c5 O H)(d3:fP K mg O H S)(eb:kH K mg O H ds vs)(hl:ds.length=ps.length):ct K mg (eT O) (ds.map c9++akF (N.length-ps.length) .e) S (ax.start N vs) H:=by
 have Jh:=eb.len;refine⟨⟨λa ao=>cM.has a λz=>ao (oQ.mpr z),cM.tabs,He cM⟩,?_,λi s e=>?_,d3.all (λ_ _ z=>Rep.dc (kP O) z) rfl λ_ _ _ l _=>l⟩
 .unfold ax.start
  rw[aj9,aj9,aj2,aj2,ak7,ak7,Jh,hl]
 .by_cases aA:i<ds.length
  .rw[akt (by rw[aj2];exact aA),akD]at e
   cases dm:ds[i]? with
   |none=>rw[dm]at e;cases e
   |some d=>
    rw[dm]at e;cases e;obtain⟨v,ev,bG⟩:=eb.get dm;unfold ax.start;rw[akt (by rw[aj2,Jh];exact aA),akD,ev];exact ad9 bG
  .rw[akq (by rw[aj2];omega),alV]at e
   split at e
   .cases e;exact trivial
   .cases e
def AS{ps N:List Str}{H:ah}(gA:bL K mg (fnOf ps.length N.length cE) vs H Q E):hS K mg cE { bw:=fun _ H'=>Q .aN H',cP:=Q } (ax.start N vs) H:=by
 obtain⟨O,ds,r,S,cM,d3,eb,h,q⟩:=gA;have hl:=uv h;unfold fnOf at h;rw[if_pos hl]at h;obtain⟨aW,S1,ae,h⟩:=M.inv h;have q5:=Eo (N:=N) cM d3 eb hl;have old:∀b,H b≠none->eT O b=.free\/eT O b=.out:=λb _=>mi O b
 have back:∀{ak:a0}{H':ah},dZ (eT O) ak H H'->c5 ak H'->∃a_:a0,Go O a_ H H'/\c5 a_ H'/\l6 ak a_/\∀b,(ak b=.dB\/∃i,ak b=.loc i)->H b=none/\a_ b=.dB:=λ{ak H'} g d=>by
  refine⟨⟨λb=>match H b with|some _=>O b|none=>(match ak b with|.loc _=>.dB|o=>o),O.bI⟩,⟨⟨λb o e n=>g.cells b o e ((old b (by rw[e];intro z;cases z)).elim .inl λz=>.inr (.inl z)) n,g.cS,g.b4⟩,λb aa=>?_,rfl⟩,⟨λb aa=>?_,d.tabs,cM.b9.1,λb m=>?_⟩,⟨λb aa=>?_,g.bI.symm⟩,λb aa=>?_⟩
  .dsimp only
   cases e:H b with
   |none=>exact absurd e aa|some o=>rfl
  .dsimp only at aa
   cases e:H b with
   |some o=>exact g.has b (by rw[e];intro z;cases z)|none=>
    rw[e]at aa;refine d.has b λz=>aa ?_
    dsimp only;rw[z]
  .dsimp only
   cases e:H b with
   |some o=>exact cM.b9.2 b m| none=>exact absurd e (cM.has b (by rw[cM.b9.2 b m];intro z;cases z))
  .dsimp only
   cases e:H b with
   |some o=>
    dsimp only;have:=(g.own b (by rw[e];intro z;cases z) (mi O b)).symm.trans aa;exact oQ.mp this
   |none=>
    dsimp only;rw[aa]
  .have aF:H b=none:=by
    cases e:H b with
    |none=>rfl|some o=>
     exfalso;have bp:=g.own b (by rw[e];intro z;cases z) (mi O b);rcases mi O b with z|z<;>rw[z]at bp<;>rcases aa with w|⟨i,w⟩<;>rw[bp]at w<;>cases w
   refine⟨aF,?_⟩;dsimp only;rw[aF];rcases aa with w|⟨i,w⟩<;>rw[w]
 refine⟨eT O,_,S,aW,S1,q5,ae,?_⟩
 cases aW with
 |bw Y'=>
  cases h;intro ak cW H' g bW _;obtain⟨a_,g2,dT,f2,_⟩:=back g bW.b_;exact q a_ .aN H' g2 dT rfl trivial
 |d4 Y'=>cases h
 |cb Y'=>cases h
 |cP bH=>
  intro ak v H' g d rW ba;obtain⟨a_,g2,dT,f2,hn⟩:=back g d
  cases bH with
  |v dd=>cases h;exact q a_ v H' g2 dT (Rep.dc f2 ba) trivial
  |fr xs=>
   cases h;obtain⟨a,ys,rfl,l,t,bx⟩:=ba;obtain⟨aF,bC⟩:=hn a t;exact q a_ _ H' g2 dT ⟨a,ys,rfl,l,bC,bx.dc f2⟩ λb dh=>by cases dh;exact aF
  |b8 xs=>exact akv ba|mv xs=>exact akv ba
def Ie{P:aki}{w:World}{K:aM}{mg:a9}{base:Heap}{x qual:Str}{st:Stmt}{ps N:List Str}{k:Nat}{cE:aI}{f:Addr}{fd:ak4}{n nl:Nat}(F:j3 K x qual st f fd)(Sc:bP N ps (bk st))(aF:ps.length=n)(hl:N.length=nl)
  (aa:∀(bc:Value)(A:akm)(outer:List Env)(s:aj0)(H:ah)(E:eS),cg k (A.deeper (akW qual (bk st) s.heap.objs.size f bc))->
   rq (fl eh P w K mg base N qual (bk st) f bc A outer s H E).fZ (eU st) cE):ez P w K mg base eh (k+1) f fd ps (bL K mg (fnOf n nl cE)):=by
 subst aF hl;exact F.ok Sc (λvs H Q E ⟨O,ds,r,S,cM,d3,eb,h,q⟩=>eb.len.trans (uv h)) λbc A outer s H vs Q E aD gA=>⟨_,aa bc A outer s H E aD,AS gA⟩
def nH{P:aki}{w:World}{K:aM}{mg:a9}{base:Heap}{x:Str}{st:Stmt}{ps N:List Str}{k:Nat}{cE:aI}{n nl:Nat}(b1:b1 K mg x st ps)(Sc:bP N ps (bk st))(aF:ps.length=n)(hl:N.length=nl)
  (aa:∀(f:Addr)(bc:Value)(A:akm)(outer:List Env)(s:aj0)(H:ah)(E:eS),cg k (A.deeper (akW x (bk st) s.heap.objs.size f bc))->
   rq (fl eh P w K mg base N x (bk st) f bc A outer s H E).fZ (eU st) cE):bT P w K mg base x ps (k+1) (bL K mg (fnOf n nl cE)):=by
 obtain⟨f,fd,F,b,m⟩:=b1.ex;exact⟨f,fd,Ie F Sc aF hl (λbc=>aa f bc),b,F.kp,m⟩
omit [ax.aX]in
theorem HP{K:aM}{h:Heap}{mg:a9}{x:Str}{st:Stmt}{f:Addr}{ps:List Str}{cT an:Option Addr}{cq:Array (Option Value)}{cw cv ny pm cd cb:Value}(X:K.In h)(G:h.Ns akx mg)
  (a:anh K akx x=some (some (.ref f))) (l:K.lookup f=some ⟨cw,cT,.func (alM x x (hv st) (eU st) (bk st) .none cv ny pm an cd cb),cq⟩) (c:anR K cd x=true) (k:alW K (.ref f)=true)
  (aa:∀(cv doc pm:Value)(an:Option Addr)(bc cb:Value)(us:List Value),us.length=ps.length->amf (alM x x (hv st) (eU st) (bk st) .none cv doc pm an bc cb) ⟨us,[]⟩=pure (ps.zip us)):b1 K mg x st ps:=
 ⟨f,_,xT (st:=st) l c k,(xT (st:=st) l c k).binds aa,anS X G a⟩
abbrev wc(K:aM):dP:=λvs H Q _=>∃(a:Addr)(ns:List Int),vs=[.ref a]/\du K H a (ns.map V.int)/\ns.length<=63/\TabsOk H/\∀H',Q (.au true) H'
abbrev ov:Nat:=10715086071862673209484250490600018105614048117055336074437503883703510511249361224931983788156958581275946729175531468251871452856923140435984577574698574803934567774824230985421074605062371141877954182153046474983581941267398767559165543946077062914571196477686542167660429831652624386837205668069376
omit [ax.aX]in
theorem G8:ov=2 ^ 1000:=by decide +kernel
omit [ax.aX]in
theorem K2{i:Int}(h:i.natAbs<ov):ale i<=1000:=by
 unfold ale;split
 .exact akA _
 .rename_i hz
  have:i.natAbs.log2<1000:=(Nat.log2_lt (by simpa using hz)).mpr (G8▸h);omega
def ox(i j:Int):Prop:=(-(2 ^ 64)<i/\i<2 ^ 64)\/(-(2 ^ 64)<j/\j<2 ^ 64)\/(i.natAbs<ov/\j.natAbs<ov)
omit [ax.aX]in
theorem ox.ok{i j:Int}(h:ox i j):IntMulOk i j:=by
 rcases h with h|h|h
 .exact(show wK i j from .inl h).ok
 .exact(show wK i j from .inr h).ok
 .have ae:=K2 h.1
  have ag:=K2 h.2;have aa:ao8 (ale i+ale j)=false:=by
   unfold ao8;refine decide_eq_false ?_;have:(2000:Int)<=((bitsLine:Nat):Int):=by decide
   omega
  unfold IntMulOk;rw[aa];simp
instance (i j:Int):Decidable (ox i j):=by unfold ox;exact inferInstance
def aaU:dN X (alQ .Mult) (ju ox λi j=>.int (i*j)):=sO λ_ _ _ _ _ _ _ hc q=>PyProof.Rows.mul_int q hc.ok
abbrev Du:=n3 ox (· * ·)
def PN{X:aJ}:dS X.K X.mg (ju ox λi j=>.int (i*j)) Du:=rJ λ_ _ h=>h
def ow(_ j:Int):Prop:=0<j/\j.natAbs<ov
instance (i j:Int):Decidable (ow i j):=by unfold ow;exact inferInstance
def aaQ:dN X (alQ .FloorDiv) (ju ow λi j=>.int (i / j)):=sO λi j _ _ _ _ _ hc q=>by
 have ae:(0:Int)<j:=hc.1;have ag:j.natAbs<ov:=hc.2;refine PyProof.Rows.floordiv_int (by omega) (by rw[an8 i (by omega)];exact q) (.inl (PyProof.noPylong_of_log2 ?_));have:j.natAbs.log2<1000:=(Nat.log2_lt (by omega)).mpr (G8▸ag);omega
abbrev ko:=n3 ow (· / ·)
def PK{X:aJ}:dS X.K X.mg (ju ow λi j=>.int (i / j)) ko:=rJ λ_ _ h=>h
def oBits:R->M R
 |.v (.int i)=>pure (.v (.int (ale i:Nat)))|_=>bad
structure Fj(mg:a9):Prop where
 len:mg "len"=none
 range:mg "range"=none
 isinstance:mg "isinstance"=none
 max:mg "max"=none
 min:mg "min"=none
 any:mg "any"=none
 all:mg "all"=none
 Ys:mg "int"=none
 R9:mg "bool"=none
 ZI:mg "list"=none
 tuple':mg "tuple"=none
 ael:mg "str"=none
 abs:mg "abs"=none
 sorted:mg "sorted"=none
 sum:mg "sum"=none
 zip:mg "zip"=none
 enumerate:mg "enumerate"=none
 reversed:mg "reversed"=none
 ajM:mg "set"=none
omit [ax.aX]in
theorem R':akJ "abs"=some (.builtin "abs"):=by decide +kernel
end aE
namespace aE
open PySem PySem.Spec ax
@[simp] theorem ain{p:Prop}[Decidable p]:ik p=if p then pure ()else bad:=rfl
@[simp] theorem ah8:af d Y=pure (.v d):=rfl
@[simp] theorem ai4:R.ob (.v (.au b))=pure b:=rfl
@[simp] theorem ah7{g:Int->Int->Int}{i j:Int}:qM g (.v (.int i)) (.v (.int j))=pure (.v (.int (g i j))):=rfl
@[simp] theorem ah6{C:Int->Int->Prop}[∀i j,Decidable (C i j)]{g:Int->Int->Int}{i j:Int}:n3 C g (.v (.int i)) (.v (.int j))=if C i j then pure (.v (.int (g i j)))else bad:=rfl
@[simp] theorem ah5{g:Int->Int->Bool}{i j:Int}:sI g (.v (.int i)) (.v (.int j))=pure (.v (.au (g i j))):=rfl
@[simp] theorem aik{i:Int}:oBits (.v (.int i))=pure (.v (.int (ale i:Nat))):=rfl
@[simp] theorem aiN:aj Y=pure []:=rfl
@[simp] theorem ait:R.dat (.v d)=pure d:=rfl
@[simp] theorem aiq:R.dat (.fr xs)=pure (.lst xs):=rfl
@[simp] theorem ais:kS []=pure []:=rfl
@[simp] theorem air{r:R}:kS (r::rs)=(do
  let d <-r.dat
  let ds <-kS rs
  pure (d::ds)):=rfl
@[simp] theorem aiK:R.fG (.fr xs)=some xs:=rfl
@[simp] theorem aiL:R.fG (.b8 xs)=some xs:=rfl
@[simp] theorem aiU:R.seq (.v (.tup xs))=some xs:=rfl
@[simp] theorem aiT:R.seq (.fr xs)=some xs:=rfl
@[simp] theorem aiV:R.seq (.b8 xs)=some xs:=rfl
@[simp] theorem aiS:R.own (.v (.lst xs))=some xs:=rfl
@[simp] theorem aiR:R.own (.fr xs)=some xs:=rfl
@[simp] theorem aie:R.arg (.v d)=d:=rfl
@[simp] theorem aid:R.arg (.fr xs)=.lst xs:=rfl
@[simp] theorem aiI{x:R}:iM [x]=match x.seq with
  |some xs=>pure (.v (.int (xs.length:Nat)))|none=>bad:=rfl
@[simp] theorem aiF{i:Int}:R.kind (.v (.int i))=some "int":=rfl
@[simp] theorem aiG:R.kind (.v (.str x))=some "str":=rfl
@[simp] theorem aiH:R.kind (.v (.tup xs))=some "tuple":=rfl
@[simp] theorem aix{x:R}:g_ [x,.v (.ty n)]=match x.kind with
  |some t=>if n∈["int","bool","tuple","list","str"]then pure (.v (.au (h3 t n)))else bad|none=>bad:=rfl
@[simp] theorem aiy{t n:String}:h3 t n=(t==n||(t == "bool"&&n == "int")):=rfl
@[simp] theorem ah9{i:Int}:um [.v (.int i)]=pure (.v (.int (if i<0 then -i else i))):=rfl
@[simp] theorem aib{x:R}:uo [x]=match x.fG.bind jE with
  |some bs=>pure (.v (.au (bs.any id)))|none=>bad:=rfl
@[simp] theorem aia{x:R}:oZ [x]=match x.fG.bind jE with
  |some bs=>pure (.v (.au (bs.all id)))|none=>bad:=rfl
theorem xl{α:Type}(p:α->Bool):∀xs:List α,jE (xs.map λx=>D.au (p x))=some (xs.map p)
 |[]=>rfl| x::xs=>by rw[akb,akb,jE,xl p xs];rfl
@[simp] theorem ai5{x:R}:qd [x]=match x.seq with
  |some xs=>pure (.v (.tup xs))|none=>bad:=rfl
@[simp] theorem aiD{i:Int}:bB (.v (.tup xs)) (.v (.int i))=match eK xs i with
   |some d=>pure (.v d)|none=>bad:=rfl
@[simp] theorem aiC{i:Int}:bB (.fr xs) (.v (.int i))=match eK xs i with
   |some d=>pure (.v d)|none=>bad:=rfl
@[simp] theorem aiE{i:Int}:bB (.b8 xs) (.v (.int i))=match eK xs i with
   |some d=>pure (.v d)|none=>bad:=rfl
def oP{α:Type}{xs:List α}(k:Nat){v:α}(h:xs[k]? = some v):eK xs (k:Int)=some v:=PA h
@[simp] theorem aif{α:Type}{x:α}{xs:List α}:eK (x::xs) 0=some x:=oP 0 rfl
@[simp] theorem aih{α:Type}{x y:α}{xs:List α}:eK (x::y::xs) 1=some y:=oP 1 rfl
@[simp] theorem aii{α:Type}{x y z:α}{xs:List α}:eK (x::y::z::xs) 2=some z:=oP 2 rfl
@[simp] theorem aij{α:Type}{x y z w:α}{xs:List α}:eK (x::y::z::w::xs) 3=some w:=oP 3 rfl
@[simp] theorem aic{r:R}:m7 xs [r]=(do
  let d <-r.dat
  ik (xs.length<aj6)
  pure (.v .aN,xs++[d])):=rfl
@[simp] theorem aiv{r:R}:wo xs [r]=match r.own with
  |some ys=>do
   ik (xs.length+ys.length<=aj6)
   pure (.v .aN,xs++ys)
  |none=>bad:=rfl
@[simp] theorem aiO:xq Y=pure none:=rfl
@[simp] theorem aio{cap:List Nat}:mm n cap Y=akF n .e++cap.map λk=>xx Y[k]?:=rfl
@[simp] theorem aip:xx (some (.v d))=.v d:=rfl
@[simp] theorem ai6:gJ Y=pure true:=rfl
@[simp] theorem aiw{x:R}:iZ x (.v .aN)=pure (.v (.au x.pd)):=rfl
@[simp] theorem aiP{x:R}:i0 x (.v .aN)=pure (.v (.au (!x.pd))):=rfl
@[simp] theorem aiz:R.pd (.v .aN)=true:=rfl
@[simp] theorem aiB:R.pd (.v (.tup xs))=false:=rfl
@[simp] theorem aiA:R.pd (.v (.str x))=false:=rfl
@[simp] theorem aiu{i j:Int}:oEq (.v (.int i)) (.v (.int j))=pure (.v (.au (i==j))):=rfl
@[simp] theorem aiM{i j:Int}:d5 (.v (.int i)) (.v (.int j))=pure (.v (.au (!(i==j)))):=rfl
def rX{x y:R}(ai:x.arg.b4 64=true)(a':y.arg.b4 64=true):oEq x y=pure (.v (.au (iv x.arg y.arg))):=if_pos ⟨ai,a'⟩
def Bf{x y:R}(ai:x.arg.b4 64=true)(a':y.arg.b4 64=true):d5 x y=pure (.v (.au (!iv x.arg y.arg))):=if_pos ⟨ai,a'⟩
@[simp] theorem ai0:c9 (.lst xs)=.b8 xs:=rfl
@[simp] theorem aiZ{i:Int}:c9 (.int i)=.v (.int i):=rfl
@[simp] theorem ai3:c9 (.tup xs)=.v (.tup xs):=rfl
@[simp] theorem ai2:c9 (.str x)=.v (.str x):=rfl
@[simp] theorem ai1:c9 .aN=.v .aN:=rfl
@[simp] theorem Be{n N:Nat}{ds:List D}:fnOf n N b ds=if ds.length=n then(do
  let aW <-b (ds.map c9++akF (N-n) .e)
  match aW with
  |.cP (.v d)=>pure (.v d)|.cP (.fr xs)=>pure (.fr xs)|.bw _=>pure (.v .aN)| _=>bad)else bad:=rfl
theorem H7{b:D->aI}(I:Nat->aQ->Prop):∀(ds:List D)(k:Nat)(Y:aQ),I k Y->(∀i d Y,ds[i]? = some d->I (k+i) Y->∃Y',(b d Y=pure (.bw Y')\/b d Y=pure (.cb Y'))/\I (k+i+1) Y')->
  ∃Y',ha b ds Y=pure (.bw Y')/\I (k+ds.length) Y'
 |[],k,Y,h0,_=>⟨Y,rfl,h0⟩
 |d::ds,k,Y,h0,step=>by
  obtain⟨gM,e,ae⟩:=step 0 d Y rfl h0;obtain⟨dp,aG,ag⟩:=H7 I ds (k+1) gM ae λi d' Y' hd o3=>by
   have:=step (i+1) d' Y' (by simpa using hd) (by rw[show k+(i+1)=k+1+i by omega];exact o3);rw[show k+(i+1)+1=k+1+i+1 by omega]at this;exact this
  refine⟨dp,?_,by rw[akn,show k+(ds.length+1)=k+1+ds.length by omega];exact ag⟩;show(b d Y >>= _)=_;rcases e with e|e<;>rw[e]<;>exact aG
def xP{b:D->aI}{ds:List D}(I:Nat->aQ->Prop)(h0:I 0 Y)(step:∀i d Y,ds[i]? = some d->I i Y->∃Y',(b d Y=pure (.bw Y')\/b d Y=pure (.cb Y'))/\I (i+1) Y') :
  ∃Y',ha b ds Y=pure (.bw Y')/\I ds.length Y':=by
 obtain⟨Y',e,h⟩:=H7 I ds 0 Y h0 λi d Y hd o3=>by
  rw[Nat.zero_add]at o3 ⊢;exact step i d Y hd o3
 exact⟨Y',e,by rw[Nat.zero_add]at h;exact h⟩
def PB{ns:List Int}{k:Nat}(h:k<ns.length):eK (ns.map D.int) (k:Int)=some (.int (ns.getD k 0)):=by
 refine oP k ?_;rw[akD,akR h];simp[ala,h]
def mod_lt{a b:Int}(h:0<b):0<=a % b/\a % b<b:=⟨Int.emod_nonneg _ (by omega),Int.emod_lt_of_pos _ h⟩
def ZO{i:Int}(ae:-(10 ^ 200)<i)(ag:i<10 ^ 200):i.natAbs<ov:=by
 unfold ov;omega
def UB{i j:Int}(ae:0<j)(ag:j<10 ^ 200):ow i j:=⟨ae,ZO (by omega) ag⟩
end aE
namespace aE
open PySem PySem.Spec ax
variable[ax.aX]
def n9:List Nat->List D->aQ->aQ
 |i::is,d::ds,Y=>n9 is ds (Y.set i (.v d))|_,_,Y=>Y
def kZ:List Nat->oK
 |[]=>Im|i::is=>Il (kf i) (kZ is)
@[simp] def rP(is:List Nat)(m:bf)(Y:aQ):M f_:=do
 let r <-m Y
 match r with
 |.v (.tup ds)=>if ds.length=is.length then pure (.bw (n9 is ds Y))else bad|_=>bad
theorem EC{O:a0}{H:ah}:∀{is:List Nat}{ds:List D}{xs:List V}{Y:aQ}{aq:St}{Q:St->ah->Prop},ct K mg O Y S aq H->a8 K mg O H ds xs->ds.length=is.length->
  (∀cW,ct K mg O (n9 is ds Y) S cW H->d9 Y (n9 is ds Y) aq cW->Q cW H)->kZ is xs aq H Q
 |[],[],xs,Y,aq,Q,st,bx,hl,q=>⟨bx,q aq st (d9.refl _ _)⟩
 |[],_::_,xs,Y,aq,Q,st,bx,hl,q=>by cases hl
 |_::_,[],xs,Y,aq,Q,st,bx,hl,q=>by cases hl
 |i::is,d::ds,xs,Y,aq,Q,st,bx,hl,q=>by
  obtain⟨y,r,e,bz,ba⟩:=bx;refine⟨y,r,e,?_⟩;exact EC (is:=is) (st.val bz) ba (by simpa using hl) λcW bW k=>q cW bW (d9.trans (d9.set λxs z=>by cases z) k)
section
variable{X:aJ}{is:List Nat}{ay:List Expr}
def DU{i:Nat}{x:Str}{p:Pos}(hN:X.N.Nodup)(aA:X.N[i]? = some x)(ai:Loc X.env.scope x)(h:mc X ay (kZ is))(az:(akI (.Name x p::ay) X.env).map (·.2)=amO (.Name x p) X.env::(akI ay X.env).map (·.2):=by rfl)
  (hf:X.fn x=true\/X.env.scope.names.lookup x=some .local:=by first|exact .inl rfl|exact .inr rfl|assumption):mc X (.Name x p::ay) (kZ (i::is)):=abG (vT hN aA ai hf) h az
def LD:mc X [] (kZ []):=abH
end
omit [ax.aX]in
@[simp] theorem aiW{Y:aQ}:n9 (i::is) (d::ds) Y=n9 is ds (Y.set i (.v d)):=rfl
omit [ax.aX]in
@[simp] theorem aiX:n9 [] ds Y=Y:=by cases ds<;>rfl
def nums:List D->Option (List Int)
 |[]=>some []|.int b::r=>(nums r).map (b::·)|_=>none
section
variable{K:aM}{mg:a9}
theorem y7{O:a0}{H:ah}:∀{ds:List D}{ys:List V}{bs:List Int},a8 K mg O H ds ys->nums ds=some bs->ys=bs.map V.int
 |[],ys,bs,h,e=>by cases e;exact h
 |d::ds,ys,bs,h,e=>by
  cases d with
  |int b=>
   have e:(nums ds).map (b::·)=some bs:=e;obtain⟨cs,aw,rfl⟩:=amz.mp e;obtain⟨y,r,rfl,ae,ag⟩:=h;rw[y7 ag aw,show y=.int b from ae];rfl
  |_=>exact absurd (show(none:Option (List Int))=some bs from e) (by intro z;cases z)
end
end aE
namespace aE
open PySem PySem.Spec ax
section
variable[ax.aX](X:aJ)
structure a5(e:Expr)(m:bf):Prop where
 un:g7 X e m
structure e5(e:Expr)(m:aQ->M Bool):Prop where
 un:Fo X e m
structure j_(e:Expr)(m:aQ->M Bool):Prop where
 un:wM X e m
structure fQ(e:List Expr)(m:cU):Prop where
 un:z8 X e m
structure oM(e:Option Expr)(m:ma):Prop where
 un:OT X e m
structure e4(e:Stmt)(m:aI):Prop where
 un:Fn X e m
structure eX(e:List Stmt)(m:aI):Prop where
 un:rq X e m
structure rF(b7 e:Expr)(m:gc):Prop where
 un:Fl X b7 e m
structure w6(b7 e:Expr)(m:gc):Prop where
 un:OS X b7 e m
structure rE(e:List Expr)(m:aQ->M Bool):Prop where
 un:z9 X e m
end
section
variable[ax.aX]
variable{X:aJ}{a e:Expr}{pos:Pos}
theorem dR(i:Nat)(hN:X.N[i]? = some x:=by rfl)(bu:j9 X.env.scope x:=by first|exact akO rfl|exact akP (.inl rfl)|exact akP (akP rfl))(hd:(x==("__debug__":Str))=false:=by decide)(ew:(x==("__classdict__":Str))=false:=by decide):a5 X (.Name x pos) (U i):=⟨dK (pI hN bu hd ew) λaq H Q aO=>by
 obtain⟨O,Y,S,r,ar,st,h,q⟩:=aO;unfold U at h
 cases e:Y[i]? with
 |none=>rw[e]at h;cases h
 |some s=>
  rw[e]at h;have l:=st.loc i s e;have get:∀{v:V},aq[i]?.join=some v->aq[i]? = some (some v):=λ{v} z=>by
   cases w:aq[i]? with
   |none=>rw[w]at z;cases z
   |some y=>rw[w]at z;exact congrArg some z
  cases s with
  |v d=>
   obtain⟨v,aw,aG⟩:=l;cases h;exact⟨v,get aw,q O v H (Go.refl _ _) st aG trivial⟩
  |e2 p xs=>
   obtain⟨a,ys,aw,aG,c3,fS⟩:=l;cases h;exact⟨_,get aw,q O _ H (Go.refl _ _) st ⟨a,ys,rfl,c3,fS⟩ trivial⟩
  |b8 xs=>
   obtain⟨a,ys,aw,aG,fS⟩:=l;cases h;exact⟨_,get aw,q O _ H (Go.refl _ _) st ⟨a,ys,rfl,aG,fS⟩ trivial⟩
  |e=>cases h⟩
end
section
variable[ax.aX]
variable{X:aJ}{e:Expr}{ay:List Expr}{m:bf}{ms:cU}
def e9(ao:a5 X e m)(aD:fQ X ay ms)(az:ajY (e::ay) X.env=(false,eval e X.env)::ajY ay X.env:=by rfl):fQ X (e::ay) (J m ms):=⟨qT (lH ao.un aD.un az) λaq H Q aO=>by
 obtain⟨O,Y,S,r,ar,st,h,q⟩:=aO;obtain⟨x,S1,ae,h⟩:=M.inv h;obtain⟨xs,a7,ag,h⟩:=M.inv h;cases h;refine⟨O,Y,S,x,S1,st,ae,λaH es H1 g1 aP aU bw=>?_⟩;refine⟨aH,Y,S1,xs,_,aP,ag,λa_ vs aK g2 cf rs ns=>?_⟩;exact q a_ (es::vs) aK (g1.trans g2) cf ⟨es,vs,rfl,aU.go g2,rs⟩ ⟨bw,ns.back g1.same⟩⟩
end
section
variable[ax.aX]
variable{X:aJ}{pos:Pos}
def gK{i j pos}:a5 X (.Constant (.int i) j pos) (af (.int i)):=⟨ua abr λ_ _=>rfl⟩
end
section
variable[ax.aX]
variable{X:aJ}
def iA :fQ X [] aj:=⟨qT qU λaq H Q aO=>by
 obtain⟨O,Y,S,r,ar,st,h,q⟩:=aO;cases h;exact q O [] H (Go.refl _ _) st rfl trivial⟩
end
section
variable[ax.aX]
variable{X:aJ}{a b:Expr}{cA cE:bf}{pos:Pos}
def kB{r:eR}(aT:dN X (alQ op) r)(hf:dS X.K X.mg r f)(ao:a5 X a cA)(aa:a5 X b cE):a5 X (.BinOp a op b pos) (av f cA cE):=⟨dK (DS aT ao.un aa.un) (t5 hf)⟩
end
section
variable[ax.aX]
variable{X:aJ}{st:Stmt}{rest:List Stmt}{a b:aI}
def kD(ae:e4 X st a)(ag:eX X rest b):eX X (st::rest) (bV a b):=⟨pK (vW ae.un ag.un) λD aq H aO=>by
 obtain⟨O,Y,S,aW,ar,st,h,q⟩:=aO;obtain⟨f1,S1,ae,h⟩:=M.inv h;refine⟨O,Y,S,f1,S1,st,ae,?_⟩
 cases f1 with
 |bw gM=>exact λaH wJ H1 g1 aP k1=>⟨aH,gM,S1,aW,ar,aP,h,q.bQ g1 k1⟩
 |cP r=>cases h;exact q
 |d4 gM=>cases h;exact q
 |cb gM=>cases h;exact q⟩
end
section
variable[ax.aX]
variable{X:aJ}{st:Stmt}{a:aI}
def lX(h:e4 X st a):eX X [st] a:=⟨D1 h.un⟩
end
section
variable[ax.aX]
variable{X:aJ}{a b:Expr}{cA cE:bf}{pos:Pos}
def hD{r:eR}(aT:l9 X r)(hf:dS X.K X.mg r f)(ao:a5 X a cA)(aa:a5 X b cE)(az:FC b:=by exact λ_ _=>rfl):a5 X (.Subscript a b pos) (av f cA cE):=⟨dK (abt aT ao.un aa.un az) (t5 hf)⟩
end
section
variable[ax.aX]
variable{X:aJ}{st:Stmt}{pos:Pos}{e:Expr}{m:bf}
theorem pZ(he:a5 X e m):e4 X (.Return (some e) pos) (bg m):=⟨g4 (DZ he.un) λD aq H aO=>by
 obtain⟨O,Y,S,aW,ar,st,h,q⟩:=aO;obtain⟨r,S1,ae,h⟩:=M.inv h;refine⟨O,Y,S,r,S1,st,ae,λaH v H1 g1 aP ba nn=>?_⟩
 cases r with
 |v d=>cases h;exact q aH v H1 g1.bQ aP.b_ aP.fJ ba
 |fr xs=>cases h;exact q aH v H1 g1.bQ aP.b_ aP.fJ (Mb ba (.inr ⟨_,rfl⟩))
 |b8 xs=>cases h
 |mv xs=>cases h⟩
end
section
variable[ax.aX]
variable{X:aJ}{ay:List Expr}{ms:cU}{pos:Pos}
def pX{jx}(h:fQ X ay ms):a5 X (.Tuple ay jx pos) (bb ms):=⟨dK (zk h.un) λaq H Q aO=>by
 obtain⟨O,Y,S,r,ar,st,h,q⟩:=aO;obtain⟨rs,S1,ae,h⟩:=M.inv h;obtain⟨ds,a7,ag,h⟩:=M.inv h;obtain⟨_,gw,bO,h⟩:=M.inv h;obtain⟨hl,rfl⟩:=rS bO;cases h;refine⟨O,Y,S,rs,S1,st,ae,λaH vs H1 g1 aP ba nn=>?_⟩;obtain⟨bx,rfl⟩:=A' (H₀:=H) ba nn ag;refine⟨akZ (f5 (by rw[bx.len];exact hl)),λp aL=>?_⟩;exact q (cc H aH) _ _ (g1.cc.trans (Go.fU aL)) ((aP.cc H).fU aL) ⟨p,vs,rfl,dj.of dn,bx.go (Go.fU aL)⟩ trivial⟩
end
section
variable[ax.aX]
variable{X:aJ}{pos:Pos}{e:Expr}{m:bf}
variable{i:Nat}{x:Str}{pos':Pos}
def rh(hN:X.N.Nodup)(aA:X.N[i]? = some x)(ai:Loc X.env.scope x)(he:a5 X e m)(az:ak6 e (some (.Name x pos')) pos.line X.env=pure false:=by rfl)(hf:X.fn x=true\/X.env.scope.names.lookup x=some .local:=by first|exact .inl rfl|exact .inr rfl|assumption):e4 X (.Assign [.Name x pos'] e pos) (cY i m):=⟨g4 (vV hN aA ai he.un az hf) (ad2 λ_ _ _ h=>h)⟩
end
section
variable[ax.aX]
variable{X:aJ}{x:Str}{ps:List Str}{k:Nat}{mf:bq}{p pos:Pos}{e:Expr}{ay:List Expr}{ms:cU}
def afY(h:bT X.prog X.w X.K X.mg X.base x ps k (bL X.K X.mg mf))(aD:cg k X.A)(a3:dD X x)(ao:fQ X (e::ay) ms)(dA:(x==("__debug__":Str))=false:=by decide)(he:ajY (e::ay) X.env=(false,eval e X.env)::ajY ay X.env:=by rfl)(dJ:(ako pos (ajY ay X.env)).any (·.1)=false:=by rfl):a5 X (.Call (.Name x p) (e::ay) [] pos) (bj mf ms):=⟨dK (DQ h aD a3 ao.un dA he dJ) AZ⟩
end
section
variable[ax.aX]
variable{X:aJ}{x:Str}{ps:List Str}{k:Nat}{mf:bq}{p pos:Pos}
def afZ(h:bT X.prog X.w X.K X.mg X.base x ps k (bL X.K X.mg mf))(aD:cg k X.A)(a3:dD X x)(dA:(x==("__debug__":Str))=false:=by decide):a5 X (.Call (.Name x p) [] [] pos) (bj mf aj):=⟨dK (abq h aD a3 dA) λaq H Q h=>by
  obtain⟨O,Y,S,rs,S1,st,ae,q⟩:=AZ aq H Q h;cases ae;exact q O [] H (Go.refl _ _) st rfl trivial⟩
end
section
variable[ax.aX]
variable{X:aJ}{e:Expr}{ay:List Expr}{ms:cU}{pos p:Pos}{x:Str}{id:String}{r:List V->ah->cD->Prop}{f:List R->M R}
def pW(hc:iD X (.builtin id) r)(hf:j0 X.K X.mg r f)(a3:dD X x)(hm:X.mg x=none)(bu:akJ x=some (.builtin id))(ao:fQ X (e::ay) ms)(aF:x≠"__name__":=by decide)(dA:(x==("__debug__":Str))=false:=by decide)(he:ajY (e::ay) X.env=(false,eval e X.env)::ajY ay X.env:=by rfl)(dJ:(ako pos (ajY ay X.env)).any (·.1)=false:=by rfl):a5 X (.Call (.Name x p) (e::ay) [] pos) (df f ms):=⟨dK (DP hc a3 hm bu ao.un aF dA he dJ) (Hn hf)⟩
end
section
variable[ax.aX]
variable{X:aJ}{st:Stmt}{pos:Pos}{a b:aI}
theorem E2{t:aQ->M Bool}(hc:e5 X c t)(ao:eX X A a)(aa:eX X B b):e4 X (.If c A B pos) (cV t a b):=⟨g4 (DY hc.un ao.un aa.un) λD aq H aO=>by
 obtain⟨O,Y,S,aW,ar,st,h,q⟩:=aO;obtain⟨t,S1,ae,h⟩:=M.inv h;refine⟨O,Y,S,t,S1,st,ae,λaH H1 g1 aP=>?_⟩
 cases t with
 |false=>
  rw[if_neg aj7]at h;exact mH ⟨aH,Y,S1,aW,ar,aP,h,q.bQ g1.bQ (d9.refl _ _)⟩
 |true=>
  rw[if_pos rfl]at h;exact mI ⟨aH,Y,S1,aW,ar,aP,h,q.bQ g1.bQ (d9.refl _ _)⟩⟩
end
section
variable[ax.aX]
variable{X:aJ}{st:Stmt}
theorem E3 :eX X [] cH:=⟨pK D0 λD aq H aO=>by obtain⟨O,Y,S,aW,ar,st,h,q⟩:=aO;cases h;exact q O aq H (dZ.refl _ _) st (d9.refl _ _)⟩
end
section
variable[ax.aX]
variable{X:aJ}{a b:Expr}{cA cE:bf}{pos:Pos}
def i6{r:eR}(aT:dN X (akG op) r)(hf:dS X.K X.mg r f)(ao:a5 X a cA)(aa:a5 X b cE)(hm:alT op b=false:=by exact h8 _):e5 X (.Compare a [op] [b] pos) (br (av f cA cE)):=⟨qX (abW aT ao.un aa.un hm) λaq H Q h=>NZ (t5 hf) aq H Q (Ex aq H Q h)⟩
end
section
variable[ax.aX]
variable{X:aJ}{a:Expr}{cA:bf}{pos:Pos}
def agB(ao:a5 X a cA)(he:∀whole,isTrue a X.env whole=(do let v <-whole;amc a.pos;alS [v] (truthy v)):=by intro _;rfl):e5 X a (br cA):=⟨qX (LM ao.un he) λaq H Q h=>Ex aq H Q h⟩
end
section
variable[ax.aX]
variable{X:aJ}{e:Expr}
def lV{v:V}(h:bM X e (m5 v))(r:∀O H,Rep X.K X.mg O H d v):a5 X e (af d):=⟨ua h r⟩
end
section
variable[ax.aX]
variable{X:aJ}{ay:List Expr}{ms:cU}{pos:Pos}
def Om(h:fQ X ay ms):a5 X (.List ay pos) (c8 ms):=⟨dK (DR h.un) λaq H Q aO=>by
 obtain⟨O,Y,S,r,ar,st,h,q⟩:=aO;obtain⟨rs,S1,ae,h⟩:=M.inv h;obtain⟨ds,a7,ag,h⟩:=M.inv h;obtain⟨_,gw,bO,h⟩:=M.inv h;obtain⟨hl,rfl⟩:=rS bO;cases h;refine⟨O,Y,S,rs,S1,st,ae,λaH vs H1 g1 aP ba nn=>?_⟩;obtain⟨bx,rfl⟩:=A' (H₀:=H) ba nn ag;refine⟨akZ (f5 (by rw[bx.len];exact hl)),λp aL=>?_⟩;refine q (gn (cc H aH) p .dB) _ _ (g1.cc.trans (Go.new aL)) ((aP.cc H).new aL) ⟨p,vs,rfl,dn,pS,bx.go (Go.new aL)⟩ λa fm=>?_
 cases fm;exact g1.same.free aL⟩
end
section
variable[ax.aX]
variable{X:aJ}{b:Expr}{pos:Pos}
def afX{b j pos}:a5 X (.Constant (.bool b) j pos) (af (.au b)):=⟨ua abf λ_ _=>rfl⟩
end
section
variable[ax.aX]
variable{X:aJ}{a:Expr}{bR:aQ->M Bool}{pos:Pos}
def agA(ao:e5 X a bR):e5 X (.UnaryOp .Not a pos) (eF bR):=⟨qX (LL ao.un) λaq H Q aO=>by
 obtain⟨O,Y,S,r,ar,st,h,q⟩:=aO;obtain⟨t,S1,ae,h⟩:=M.inv h;cases h;exact⟨O,Y,S,t,_,st,ae,λaH H1 g1 aP=>q aH H1 g1 aP⟩⟩
end
section
variable[ax.aX]
variable{X:aJ}{a b:Expr}{bR cS:aQ->M Bool}{pos:Pos}
variable{rest:List Expr}
def agE(ao:e5 X a bR)(aa:j_ X (.BoolOp .Or (b::rest) pos) cS):j_ X (.BoolOp .Or (a::b::rest) pos) (gm bR cS):=⟨D5 (LP ao.un aa.un) λaq H Q aO=>by
 obtain⟨O,Y,S,r,ar,st,h,q⟩:=aO;obtain⟨t,S1,ae,h⟩:=M.inv h;refine⟨O,Y,S,t,S1,st,ae,λaH H1 g1 aP=>?_⟩
 cases t with
 |true=>
  rw[if_pos rfl]at h;cases h;exact mI (q aH H1 g1 aP)
 |false=>
  rw[if_neg aj7]at h;exact mH ⟨aH,Y,S1,r,ar,aP,h,λak H' g bW=>q ak H' (g1.trans g) bW⟩⟩
end
section
variable[ax.aX]
variable{X:aJ}{pos:Pos}
def wu{x j pos}:a5 X (.Constant (.str x) j pos) (af (.str x)):=⟨ua abz λ_ _=>rfl⟩
end
section
variable[ax.aX]
variable{X:aJ}{pos:Pos}
def af9{j pos}:a5 X (.Constant .none j pos) (af .aN):=⟨ua abx λ_ _=>rfl⟩
end
section
variable[ax.aX]
variable{X:aJ}{a b:Expr}{cA cE:bf}{pos:Pos}
def oi{r:eR}(aT:dN X (akG op) r)(hf:dS X.K X.mg r f)(ao:a5 X a cA)(aa:a5 X b cE)(hm:alT op b=false):a5 X (.Compare a [op] [b] pos) (av f cA cE):=⟨dK (abl aT ao.un aa.un hm) (t5 hf)⟩
end
section
variable[ax.aX]
variable{X:aJ}{iter:Expr}{it:gc}{i:Nat}{b:aI}{body:List Stmt}{pos eG:Pos}{x:Str}
def agr(aL:aoS (model X.prog X.w) X.A X.env X.cL)(hc:X.calm=true)(aA:w6 X (.Name x eG) iter it)(hN:X.N.Nodup)(ai:X.N[i]? = some x)(hl:Loc X.env.scope x)(aa:eX X body b)(az:∀x,ak0 iter X.env x=pure x:=by intro _;rfl)(hf:X.fn x=true\/X.env.scope.names.lookup x=some .local:=by first|exact .inl rfl|exact .inr rfl|assumption):e4 X (.For (.Name x eG) iter body [] pos) (jd i it b):=⟨g4 (DX aL hc aA.un (vT hN ai hl hf) aa.un az) Vd⟩
end
section
variable[ax.aX]
variable{X:aJ}{a b:Expr}{cA cE:bf}{pos:Pos}
variable{rest:List Expr}
def afU(ao:a5 X a cA)(aa:a5 X (.BoolOp .And (b::rest) pos) cE):a5 X (.BoolOp .And (a::b::rest) pos) (jc cA cE):=⟨dK (Lr ao.un aa.un) λaq H Q aO=>by
 obtain⟨O,Y,S,r,ar,st,h,q⟩:=aO;obtain⟨x,S1,ae,h⟩:=M.inv h;obtain⟨t,a7,ag,h⟩:=M.inv h;obtain⟨rfl,rfl⟩:=ti ag;refine⟨O,Y,S,_,_,st,ae,λaH es H1 g1 aP aU bw=>⟨t,aU,?_⟩⟩
 cases t with
 |false=>
  rw[if_neg aj7]at h;cases h;exact mH (q aH _ H1 g1 aP rfl trivial)
 |true=>
  rw[if_pos rfl]at h;exact mI ⟨aH,Y,_,r,ar,aP,h,λak v H' g bW ba nn=>q ak v H' (g1.trans g) bW ba (nn.back g1.same)⟩⟩
end
section
variable[ax.aX]
variable{X:aJ}{a:Expr}{bR:aQ->M Bool}{pos:Pos}
def agF(ao:e5 X a bR):j_ X (.BoolOp .Or [a] pos) bR:=⟨LQ ao.un⟩
end
section
variable[ax.aX]
variable{X:aJ}{a b:Expr}{bR cS:aQ->M Bool}{pos:Pos}
variable{rest:List Expr}
def agC(ao:e5 X a bR)(aa:j_ X (.BoolOp .And (b::rest) pos) cS):j_ X (.BoolOp .And (a::b::rest) pos) (ky bR cS):=⟨D5 (abY ao.un aa.un) λaq H Q aO=>by
 obtain⟨O,Y,S,r,ar,st,h,q⟩:=aO;obtain⟨t,S1,ae,h⟩:=M.inv h;refine⟨O,Y,S,t,S1,st,ae,λaH H1 g1 aP=>?_⟩
 cases t with
 |false=>
  rw[if_neg aj7]at h;cases h;exact mH (q aH H1 g1 aP)
 |true=>
  rw[if_pos rfl]at h;exact mI ⟨aH,Y,S1,r,ar,aP,h,λak H' g bW=>q ak H' (g1.trans g) bW⟩⟩
end
section
variable[ax.aX]
variable{X:aJ}{e:Expr}{m:bf}
def agp(he:a5 X e m):oM X (some e) (p_ m):=⟨λzn s aq H Q I aO=>by
 obtain⟨O,Y,S,r,ar,st,h,q⟩:=aO;obtain⟨x,S1,ae,h⟩:=M.inv h;split at h
 .rename_i i
  cases h;exact abO he.un zn s aq H Q I ⟨O,Y,S,_,_,st,ae,λaH v H1 g1 aP ba _=>⟨i,ba,q aH H1 g1 aP⟩⟩
 .cases h⟩
end
section
variable[ax.aX]
variable{X:aJ}
def ago :oM X none xq:=⟨λzn s aq H Q I aO=>by
 obtain⟨O,Y,S,r,ar,st,h,q⟩:=aO;cases h;exact abN zn s aq H Q I (q O H (Go.refl _ _) st)⟩
end
section
variable[ax.aX]
variable{X:aJ}{a:Expr}{cA:bf}{pos:Pos}
def agb{op}(h:a5 X a cA):a5 X (.BoolOp op [a] pos) cA:=⟨LA h.un⟩
end
section
variable[ax.aX]
variable{X:aJ}{scope esc:Scope}{EN N:List Str}{n:Nat}{cap:List Nat}{elt iter:Expr}{ifs:List Expr}{pos eG:Pos}{x:Str}{it:gc}{t:aQ->M Bool}{el:bf}
def af2(S:l5 esc scope EN N n cap)(aF:0<n)(aA:rF X (.Name x eG) iter it)(ai:N[0]? = some x)(kk:∀C aY s H,Loc (cZ X scope N C aY s H).env.scope x/\(cZ X scope N C aY s H).env.scope.names.lookup x=some .local)(bC:∀C aY s H,rE (cZ X scope N C aY s H) ifs t)(iR:∀C aY s H,a5 (cZ X scope N C aY s H) elt el)(he:X.env.scope=esc:=by rfl)(hN:X.N=EN:=by rfl)(hc:X.calm=true:=by rfl)(az:∀x,ak0 iter X.env x=pure x:=by intro _;rfl):a5 X (.ListComp elt [⟨.Name x eG,iter,ifs,0⟩] scope pos) (gR n cap it t el):=⟨dK (Lv (wi:=th X.K X.mg it) (g:=kf 0) (tt:=lP X.K X.mg t) (te:=e8 X.K X.mg el) S aA.un (λC aY s H=>vT S.fT ai (kk C aY s H).1 (.inr (kk C aY s H).2)) (λC aY s H=>(bC C aY s H).un) (λC aY s H=>(iR C aY s H).un) he hN hc az) (HB aF)⟩
end
section
variable[ax.aX]
variable{X:aJ}{x:Str}{i:Nat}{p apos cK pos:Pos}{e:Expr}{ay:List Expr}{ms:cU}{name:Str}{id:String}{f:List D->List R->M (R×List D)}{r:V->List V->ah->cD->Prop}
def zQ(slot:PySem.Slot "list" name id)(qt:typeOf (.builtin id)=pure (.type "method_descriptor"))(hm:wZ X id r)(hf:tH X.K X.mg r f)(ao:fQ X (e::ay) ms)(hN:X.N[i]? = some x)(bu:j9 X.env.scope x)(hd:(x==("__debug__":Str))=false:=by decide)(ew:(x==("__classdict__":Str))=false:=by decide)(k8:alz (.Name x p) name X.env (eval (.Name x p) X.env)=eval (.Name x p) X.env:=by rfl) (uO:((ako cK (ajY (e::ay) X.env)).all (λx=>!x.1)&&(alE cK (ak8 [] X.env)).all (λx=>x.1.isSome)
&&decide ((e::ay).length+([]:List am9).length+(if([]:List am9).isEmpty then 0 else 1)<30))=true:=by rfl) (la:(apos.endLine==cK.line)=true:=by rfl) (az:ajY (e::ay) X.env=(false,eval e X.env)::ajY ay X.env:=by rfl) (gW:(ako cK (ajY ay X.env)).any (·.1)=false:=by rfl) (iT:ak6 (.Call (.Attribute (.Name x p) name apos) (e::ay) [] cK) none pos.line X.env=pure false:=by rfl):e4 X (.Expr (.Call (.Attribute (.Name x p) name apos) (e::ay) [] cK) pos) (rN i f ms):=⟨g4 (DW (Ls aoO slot qt hm (pI hN bu hd ew) ao.un k8 uO la az gW) iT) λD aq H aO=>by
  obtain⟨O,Y,S,aW,ar,st,h,q⟩:=aO;obtain⟨⟨b5,dp⟩,S1,ae,h⟩:=M.inv h;cases h;exact aab hf st ae λak v H' g bW k _=>q ak aq H' g bW k⟩
end
section
variable[ax.aX]
variable{X:aJ}{a:Expr}{bR:aQ->M Bool}{pos:Pos}
def agD(ao:e5 X a bR):j_ X (.BoolOp .And [a] pos) bR:=⟨abZ ao.un⟩
end
section
variable[ax.aX]
variable{X:aJ}{b7 l:Expr}{m:bf}{a:Expr}
theorem agi(hl:a5 X l m):w6 X b7 l (qu m):=⟨pJ (DV hl.un) λaq H R aO=>by
 obtain⟨O,Y,S,xs,ar,st,h,q⟩:=aO;obtain⟨r,S1,ae,h⟩:=M.inv h;refine⟨O,Y,S,r,S1,st,ae,λaH v H1 g1 aP ba nn=>?_⟩;split at h
 .cases h
  obtain⟨a,ys,rfl,ls,bx⟩:=ba;exact⟨a,rfl,⟨ys,ls.dv⟩,q aH H1 (l8 X.K a) ys g1 aP (Cr (.inl ⟨.inl ls.1,.inl ls.2⟩)) bx⟩
 .cases h
  obtain⟨a,ys,rfl,ls,t,bx⟩:=ba;exact⟨a,rfl,⟨ys,du.of ls⟩,q (cc H aH) H1 (l8 X.K a) ys g1.cc (aP.cc H) (Cr (.inl ⟨.inl ls,.inl (BA (nn a rfl) t)⟩)) (bx.dc (iO _ _))⟩
 .cases h
  obtain⟨a,ys,rfl,ls,bx⟩:=ba;exact⟨a,rfl,⟨ys,ls.dv⟩,q aH H1 (l8 X.K a) ys g1 aP (Cr ls) bx⟩
 .cases h⟩
end
section
variable[ax.aX]
def af8(ao:a5 X a cA):a5 X (.UnaryOp .USub a pos) (bE y9 cA):=⟨dK (abB afy ao.un) λaq H Q aO=>by
 obtain⟨O,Y,S,r,ar,st,h,q⟩:=aO;obtain⟨x,S1,ae,h⟩:=M.inv h;unfold y9 at h;split at h
 .rename_i i
  cases h;exact⟨O,Y,S,_,_,st,ae,λaH es H1 g1 aP aU bw=>⟨i,aU,q aH _ H1 g1 aP rfl trivial⟩⟩
 .cases h⟩
end
section
variable[ax.aX]
variable{X:aJ}{pos:Pos}{e:Expr}{m:bf}
variable{i:Nat}{x:Str}{pos':Pos}
def agu(hN:X.N.Nodup)(aA:X.N[i]? = some x)(ai:Loc X.env.scope x)(he:a5 X e m)(az:ak6 e (some (.Name x pos')) pos.line X.env=pure false:=by rfl)(hf:X.fn x=true\/X.env.scope.names.lookup x=some .local:=by first|exact .inl rfl|exact .inr rfl|assumption):e4 X (.Assign [.Name x pos'] e pos) (oR i m):=⟨g4 (vV hN aA ai he.un az hf) (Lp λ_ _ _ h=>h)⟩
end
section
variable[ax.aX]
def agl:rE X [] gJ:=⟨λzn s Y H Q I aO=>by
 obtain⟨O,Y',S,b,ar,st,h,q⟩:=aO;cases h;exact abD zn s Y H Q I (q O H (Go.refl _ _) st)⟩
end
section
variable[ax.aX]
variable{X:aJ}{a:Expr}{cA:bf}{pos:Pos}
def aga(ao:a5 X a cA):a5 X (.UnaryOp .Not a pos) (t9 cA):=⟨dK (aby ao.un) λaq H Q aO=>by
 obtain⟨O,Y,S,r,ar,st,h,q⟩:=aO;obtain⟨x,S1,ae,h⟩:=M.inv h;obtain⟨t,a7,ag,h⟩:=M.inv h;obtain⟨rfl,rfl⟩:=ti ag;cases h;exact⟨O,Y,S,_,_,st,ae,λaH es H1 g1 aP aU bw=>⟨t,aU,q aH _ H1 g1 aP rfl trivial⟩⟩⟩
end
section
variable[ax.aX]
variable{X:aJ}{e:Expr}{ay:List Expr}{ms:cU}{pos p:Pos}{x:Str}{T:String}{r:List V->ah->cD->Prop}{f:List R->M R}
def ER(hc:iD X (.type T) r)(hf:j0 X.K X.mg r f)(a3:dD X x)(hm:X.mg x=none)(bu:akJ x=some (.type T))(ao:fQ X (e::ay) ms)(aF:x≠"__name__":=by decide)(dA:(x==("__debug__":Str))=false:=by decide)(he:ajY (e::ay) X.env=(false,eval e X.env)::ajY ay X.env:=by rfl)(dJ:(ako pos (ajY ay X.env)).any (·.1)=false:=by rfl):a5 X (.Call (.Name x p) (e::ay) [] pos) (df f ms):=⟨dK (abi hc a3 hm bu ao.un aF dA he dJ) (Hn hf)⟩
end
section
variable[ax.aX]
def ES{t:aQ->M Bool}(h:e5 X c t):rE X [c] t:=⟨abE h.un⟩
end
section
variable[ax.aX]
variable{X:aJ}{b7:Expr}{a:Expr}{ms:cU}{pos p:Pos}
def agj(a3:dD X "range")(hm:X.mg "range"=none)(ao:fQ X [a] ms)(az:ajY [a] X.env=[(false,eval a X.env)]:=by rfl):w6 X b7 (.Call (.Name "range" p) [a] [] pos) (sh ms):=⟨pJ (LF a3 hm ao.un az) Mf.1⟩
end
section
variable[ax.aX]
variable{X:aJ}{a b c:Expr}{cA cE eD:bf}{pos:Pos}
def agz{r bH:eR}(aT:dN X (akG op) r)(hf:dS X.K X.mg r f)(gj:dN X (akG jQ) bH)(a3:dS X.K X.mg bH g)(ao:a5 X a cA)(aa:a5 X b cE)(hc:a5 X c eD)(hm:lastMarks [op,jQ] [b,c]=false:=by with_unfolding_all rfl):e5 X (.Compare a [op,jQ] [b,c] pos) (br (hZ f g cA cE eD)):=⟨qX (abV aT gj ao.un aa.un hc.un hm) λaq H Q h=>NZ (Hm hf a3) aq H Q (Ex aq H Q h)⟩
end
section
variable[ax.aX]
variable{X:aJ}{b7 l:Expr}{m:bf}{a:Expr}
theorem EP(hl:a5 X l m):rF X b7 l (mG m):=⟨pJ (LG hl.un) λaq H R aO=>by
 obtain⟨O,Y,S,xs,ar,st,h,q⟩:=aO;obtain⟨r,S1,ae,h⟩:=M.inv h;split at h
 .rename_i zs
  cases h;refine⟨O,Y,S,_,_,st,ae,λaH v H1 g1 aP ba nn=>?_⟩;obtain⟨a,ys,rfl,ls,bx⟩:=ba;exact⟨a,rfl,⟨ys,ls⟩,q aH H1 (rx X.K a) ys g1 aP (JJ ls) bx⟩
 .cases h⟩
end
section
variable[ax.aX]
variable{X:aJ}{b7 l:Expr}{m:bf}{e a:Expr}
theorem afO(hl:a5 X l m):rF X b7 l (mF m):=⟨pJ (DV hl.un) λaq H w4 aO=>by
 obtain⟨O,Y,S,xs,ar,st,h,q⟩:=aO;obtain⟨r,S1,ae,h⟩:=M.inv h
 cases e:r.fG with
 |none=>rw[e]at h;cases h
 |some zs=>
  rw[e]at h;cases h;refine⟨O,Y,S,r,_,st,ae,λaH v H1 g1 aP ba nn=>?_⟩;obtain⟨a,ys,rfl,ls,bx⟩:=R.ph ba e;exact⟨a,rfl,⟨ys,ls⟩,q aH H1 (l8 X.K a) ys g1 aP (Cq ls) bx⟩⟩
end
section
variable[ax.aX]
variable{X:aJ}{b7 l:Expr}{m:bf}{a:Expr}
theorem agk(hl:a5 X l m):w6 X b7 l (mG m):=⟨pJ (LG hl.un) λaq H R aO=>by
 obtain⟨O,Y,S,xs,ar,st,h,q⟩:=aO;obtain⟨r,S1,ae,h⟩:=M.inv h;split at h
 .rename_i zs
  cases h;refine⟨O,Y,S,_,_,st,ae,λaH v H1 g1 aP ba nn=>?_⟩;obtain⟨a,ys,rfl,ls,bx⟩:=ba;exact⟨a,rfl,⟨ys,ls⟩,q aH H1 (rx X.K a) ys g1 aP (YJ ls) bx⟩
 .cases h⟩
end
section
variable[ax.aX]
variable{X:aJ}{b7:Expr}{a:Expr}{ms:cU}{pos p:Pos}
def afP(a3:dD X "range")(hm:X.mg "range"=none)(ao:fQ X [a] ms)(az:ajY [a] X.env=[(false,eval a X.env)]:=by rfl):rF X b7 (.Call (.Name "range" p) [a] [] pos) (sh ms):=⟨pJ (LF a3 hm ao.un az) Mf.2⟩
end
section
variable[ax.aX]
variable{X:aJ}{st:Stmt}{pos:Pos}{a:aI}{e:Expr}
theorem agv(i:Nat)(hN:X.N[i]? = some x:=by rfl)(bu:j9 X.env.scope x:=by first|exact akO rfl|exact akP (.inl rfl)|exact akP (akP rfl))(hd:(x==("__debug__":Str))=false:=by decide)(ew:(x==("__classdict__":Str))=false:=by decide):e4 X (.Return (some (.Name x p)) pos) (xr i):=⟨g4 (DZ (pI hN bu hd ew)) λD aq H aO=>by
 obtain⟨O,Y,S,aW,ar,st,h,q⟩:=aO;unfold xr at h
 cases e:Y[i]? with
 |none=>rw[e]at h;cases h
 |some s=>
  rw[e]at h;have l:=st.loc i s e
  cases s with
  |e2 p xs=>
   obtain⟨a,ys,aw,aG,c3,fS⟩:=l
   cases p with
   |true=>cases h
   |false=>
   cases h;refine⟨.ref a,?_,q O _ H (dZ.refl _ _) st.b_ st.fJ ⟨a,ys,rfl,c3,.inr ⟨i,aG⟩,fS⟩⟩
   cases w:aq[i]? with
   |none=>rw[w]at aw;cases aw
   |some y=>rw[w]at aw;exact congrArg some aw
  |v d=>cases h
  |b8 d=>cases h
  |e=>cases h⟩
end
section
variable[ax.aX]
variable{X:aJ}{a b c:Expr}{cA cE eD:bf}{pos:Pos}
def af1{r bH:eR}(aT:dN X (akG op) r)(hf:dS X.K X.mg r f)(gj:dN X (akG jQ) bH)(a3:dS X.K X.mg bH g)(ao:a5 X a cA)(aa:a5 X b cE)(hc:a5 X c eD)(hm:lastMarks [op,jQ] [b,c]=false:=by with_unfolding_all rfl):a5 X (.Compare a [op,jQ] [b,c] pos) (hZ f g cA cE eD):=⟨dK (abk aT gj ao.un aa.un hc.un hm) (Hm hf a3)⟩
end
section
variable[ax.aX]
variable{X:aJ}{pos eG:Pos}{is:List Nat}{e:Expr}{m:bf}{ay:List Expr}{k:Nat}
def agy(hc:X.calm=true)(a3:mc X ay (kZ is))(he:a5 X e m)(aF:(akI ay X.env).length=is.length:=by rfl)(eB:(akI ay X.env).findIdx? (·.1)=none:=by rfl)(az:swapsWithSole [.Tuple ay k eG] e pos.line X.env=pure false:=by rfl)(hw:swappedStores [.Tuple ay k eG] e X.env=pure none:=by rfl)(ae:(akI [.Tuple ay k eG] X.env).map (·.2)=[amO (.Tuple ay k eG) X.env]:=by rfl):e4 X (.Assign [.Tuple ay k eG] e pos) (rP is m):=⟨g4 (abQ he.un (DT hc a3 aF eB) az hw ae) λD aq H aO=>by
 obtain⟨O,Y,S,aW,ar,st,h,q⟩:=aO;obtain⟨r,S1,ae,h⟩:=M.inv h;split at h
 .rename_i ds
  by_cases c:ds.length=is.length
  .rw[if_pos c]at h
   cases h;refine⟨O,Y,S,_,_,st,ae,λaH v H1 g1 aP ba nn=>?_⟩;obtain⟨a,ys,rfl,t,bx⟩:=ba;refine⟨a,ys,rfl,t,by rw[bx.len,c],EC aP bx c λcW bW k=>q aH cW H1 g1.bQ bW k⟩
  .rw[if_neg c]at h;cases h
 .cases h⟩
end
section
variable[ax.aX]
variable{X:aJ}{a:Expr}{cA:bf}{apos cK:Pos}
def afW(ao:a5 X a cA)(k8:alz a "bit_length" X.env (eval a X.env)=eval a X.env:=by rfl)(la:(apos.endLine==cK.line)=true:=by rfl):a5 X (.Call (.Attribute a "bit_length" apos) [] [] cK) (bE oBits cA):=⟨dK (Lu PySem.F.plainAttrs_int PySem.F.slot_int_bit_length PySem.F.type_int_bit_length Z_ ao.un k8 la) λaq H Q aO=>by
  obtain⟨O,Y,S,r,ar,st,h,q⟩:=aO;obtain⟨x,S1,ae,h⟩:=M.inv h;unfold oBits at h;split at h
  .rename_i i
   cases h;refine⟨O,Y,S,_,_,st,ae,λaH es H1 g1 aP aU bw=>?_⟩;cases(show es=.int i from aU);exact⟨rfl,i,rfl,rfl,q aH _ H1 g1 aP rfl trivial⟩
  .cases h⟩
end
section
variable[ax.aX]
variable{X:aJ}{st:Stmt}
def agt :e4 X st t8:=⟨g4 abT λD aq H aO=>by obtain⟨O,Y,S,aW,ar,st,h,q⟩:=aO;cases h⟩
end
section
variable[ax.aX]
variable{X:aJ}{a:Expr}{bR:aQ->M Bool}
def j_.cb(h:j_ X a bR):e5 X a bR:=⟨wM.cb h.un⟩
end
section
variable[ax.aX]
variable{X:aJ}{scope esc:Scope}{EN N:List Str}{n:Nat}{cap:List Nat}{elt iter:Expr}{ifs:List Expr}{pos eG:Pos}{x:Str}{it:gc}{t:aQ->M Bool}{el:bf}
def E1{py pP:Pos}(S:l5 esc scope EN N n cap)(uG:X.N.Nodup)(jL:X.N[i]? = some y)(a':X.env.scope.names.lookup y=some .local)(aF:0<n)(aA:rF X (.Name x eG) iter it)(ai:N[0]? = some x)(kk:∀C aY s H,Loc (cZ X scope N C aY s H).env.scope x/\(cZ X scope N C aY s H).env.scope.names.lookup x=some .local)(bC:∀C aY s H,rE (cZ X scope N C aY s H) ifs t)(iR:∀C aY s H,a5 (cZ X scope N C aY s H) elt el)(he:X.env.scope=esc:=by rfl)(hN:X.N=EN:=by rfl)(hc:X.calm=true:=by rfl)(az:∀x,ak0 iter X.env x=pure x:=by intro _;rfl)(iT:ak6 (.ListComp elt [⟨.Name x eG,iter,ifs,0⟩] scope pos) (some (.Name y py)) pP.line X.env=pure true:=by rfl):e4 X (.Assign [.Name y py] (.ListComp elt [⟨.Name x eG,iter,ifs,0⟩] scope pos) pP) (oR i (gR n cap it t el)):=⟨g4 (Px S uG jL a' aF aA.un ai kk (λC aY s H=>(bC C aY s H).un) (λC aY s H=>(iR C aY s H).un) he hN hc az iT) (Lp (HB aF))⟩
end
def It:M cJ:=⟨λS=>.ok S S,λ_ _ _ h=>by cases h;rfl⟩
def fI:R->M hW
 |.v (.ref n)=>do
  let S <-It
  match S[n]? with
  |some o=>pure o|none=>bad
 |_=>bad
def Lb{r:R}{S ar:cJ}(h:(fI r).run S=.ok o ar):∃n,r=.v (.ref n)/\S[n]? = some o/\S=ar:=by
 unfold fI at h;split at h
 .rename_i n
  obtain⟨T,S1,ae,h⟩:=M.inv h;cases ae
  cases e:S[n]? with
  |none=>rw[e]at h;cases h
  |some c7=>rw[e]at h;cases h;exact⟨n,rfl,e,rfl⟩
 .cases h
def yB:D->Option Key
 |.int i=>some (.inl i)|.str x=>some (.inr x)|_=>none
def hP{κ α:Type}[DecidableEq κ](k:κ)(a:α):List (κ×α)->List (κ×α)
 |[]=>[(k,a)]
 |(g,x)::r=>if g=k then(g,a)::r else(g,x)::hP k a r
theorem LN{v:V}:∀fs:List (Str×V),hB f v fs=hP f v fs
 |[]=>rfl| (g,x)::r=>by unfold hB hP;rw[LN r]
section
variable{κ:Type}[DecidableEq κ]
def je(aC:List (κ×D))(k:κ):Option D:=(aC.find? λkv=>decide (kv.1=k)).map (·.2)
def hx(aC:List (κ×D))(k:κ)(d:D):List (κ×D):=
 if(aC.any λkv=>decide (kv.1=k))=true then aC.map (λkv=>if kv.1=k then(kv.1,d)else kv)else aC++[(k,d)]
variable[ax.aX]{K:aM}{mg:a9}{O:a0}{H:ah}
def dO.cons{p:κ×D}{aC:List (κ×D)}{de:List (κ×V)}(h:dO K mg O H (p::aC) de):∃q r,de=q::r/\p.1=q.1/\Rep K mg O H p.2 q.2/\dO K mg O H aC r:=by
 obtain⟨ae,ag⟩:=h
 cases de with
 |nil=>cases ae
 |cons q r=>
  rw[akb,akb]at ae ag;injection ae with ae VD
  obtain⟨y,t,e,a,b⟩:=ag;injection e with aw aG
  subst aw aG;exact⟨q,r,rfl,ae,a,VD,b⟩
def dO.mk'{r:List (κ×V)}(ae:p.1=q.1)(ag:Rep K mg O H p.2 q.2)(h:dO K mg O H aC r):dO K mg O H (p::aC) (q::r):=
 ⟨by rw[akb,akb,ae,h.1],q.2,_,rfl,ag,h.2⟩
def dO.vI(h:dO K mg O H [] de):de=[]:=List.map_eq_nil_iff.mp h.1.symm
def dO.len{aC:List (κ×D)}{de:List (κ×V)}(h:dO K mg O H aC de):de.length=aC.length:=by
 have:=congrArg alA h.1;rw[aj2,aj2]at this;exact this.symm
theorem dO.val(k:κ):∀{aC:List (κ×D)}{de:List (κ×V)},dO K mg O H aC de->match je aC k with
  |some d=>∃v,i4 de k=some v/\Rep K mg O H d v|none=>i4 de k=none
 |[],de,h=>by obtain rfl:=h.vI;exact rfl
 |p::aC,de,h=>by
  obtain⟨q,r,rfl,aw,aG,h'⟩:=h.cons;unfold je i4
  by_cases aB:p.1=k
  .rw[ald (by simpa using aB),ald (by rw[<-aw];simpa using aB)]
   exact⟨q.2,rfl,aG⟩
  .rw[akT (by simpa using aB),akT (by rw[<-aw];simpa using aB)]
   exact dO.val k h'
theorem dO.any(k:κ):∀{aC:List (κ×D)}{de:List (κ×V)},dO K mg O H aC de->(de.any λkv=>decide (kv.1=k))=aC.any λkv=>decide (kv.1=k)
 |[],de,h=>by obtain rfl:=h.vI;rfl
 |p::aC,de,h=>by
  obtain⟨q,r,rfl,aw,aG,h'⟩:=h.cons;rw[alK,alK,dO.any k h',aw]
def dO.put(k:κ){v:V}(hd:Rep K mg O H d v)(h:dO K mg O H aC de):dO K mg O H (hx aC k d) (putK de k v):=by
 unfold hx putK;rw[dO.any k h];split
 .rename_i nG
  clear nG
  induction aC generalizing de with
  |nil=>obtain rfl:=h.vI;exact⟨rfl,rfl⟩
  |cons p aC aZ=>
   obtain⟨q,r,rfl,aw,aG,h'⟩:=h.cons;rw[akb,akb]
   by_cases aB:p.1=k
   .rw[if_pos aB,if_pos (aw▸aB)];exact dO.mk' aw hd (aZ h')
   .rw[if_neg aB,if_neg (aw▸aB)];exact dO.mk' aw aG (aZ h')
 .exact⟨by rw[aln,aln,h.1];rfl,by rw[aln,aln];exact h.2.append (.one hd)⟩
theorem dO.hP(k:κ){v:V}(hd:Rep K mg O H d v):∀{aC:List (κ×D)}{de:List (κ×V)},dO K mg O H aC de->dO K mg O H (aE.hP k d aC) (aE.hP k v de)
 |[],de,h=>by obtain rfl:=h.vI;exact⟨rfl,_,_,rfl,hd,rfl⟩
 |p::aC,de,h=>by
  obtain⟨q,r,rfl,aw,aG,h'⟩:=h.cons;obtain⟨p1,cy⟩:=p;obtain⟨bp,b2⟩:=q;cases(show p1=bp from aw);unfold aE.hP;split
  .exact dO.mk' rfl hd h'
  .exact dO.mk' rfl aG (dO.hP k hd h')
theorem dO.lookup:∀{aC:List (Str×D)}{de:List (Str×V)},dO K mg O H aC de->aC.lookup f=some d->∃v,de.lookup f=some v/\Rep K mg O H d v
 |[],de,h,e=>by cases e
 |p::aC,de,h,e=>by
  obtain⟨q,r,rfl,aw,aG,h'⟩:=h.cons;obtain⟨p1,cy⟩:=p;obtain⟨bp,b2⟩:=q;cases(show p1=bp from aw);rw[akH]at e ⊢
  cases dh:f==p1 with
  |true=>rw[dh]at e;cases e;exact⟨b2,rfl,aG⟩
  |false=>rw[dh]at e;exact dO.lookup h' e
end
variable[ax.aX]
section
variable{K:aM}{mg:a9}{O:a0}{Y:aQ}{S ar:cJ}{aq:St}{H:ah}{r:R}{v:V}{o:hW}
def y'(st:ct K mg O Y S aq H)(aD:ei K mg O H r v)(h:(fI r).run S=.ok o ar):∃a,v=.ref a/\a∈O.bI/\mb K mg O H a o:=by
 obtain⟨n,rfl,e,rfl⟩:=Lb h;obtain⟨a,bx,gI⟩:=st.fJ n o e;obtain⟨b,dh,lK⟩:=aD;rw[bx]at lK;cases lK;exact⟨a,dh,akQ bx,gI⟩
def CF{v:V}{k:Key}(h:Rep K mg O H d v)(e:yB d=some k):v=cv k:=by
 cases d<;>cases e<;>exact h
end
structure oy(K:aM)(mg:a9)(c:Str)(fs:List Str):Prop where
 ex:∃C,mg c=some (.ref C)/\hT K C/\(W.makesIn K C=true/\alW K (.ref C)=true)/\∀f∈fs,p3 K C f
def cm(c f:Str)(r:R):M R:=do
 let o <-fI r
 match o with
 |.bh c' fs=>if c'=c then(match fs.lookup f with
  |some d=>pure (.v d)| none=>bad)else bad
 |_=>bad
def La(r k:R):M R:=do
 let o <-fI r
 match o,k with
 |.nz aC,.v dH=>match yB dH with
  |some key=>match je aC key with
   |some d=>pure (.v d)|none=>bad
  |none=>bad
 |_,_=>bad
def qy:List R->Option (List Key)
 |[]=>some []|.v d::rs=>match yB d,qy rs with
  |some k,some ks=>some (k::ks)|_,_=>none
 |_::_=>none
def xu(m:bf)(ms:cU)(pA:bf):bf:=λY=>do
 let x <-m Y
 let rs <-ms Y
 let z <-pA Y
 let o <-fI x
 match o,qy rs,z with
 |.e0 aC,some k,.v wG=>if rs.length<=1000 then pure (.v ((je aC k).getD wG))else bad|_,_,_=>bad
def kd(m:bf):bf:=λY=>do
 let x <-m Y
 let o <-fI x
 match o with
 |.lst xs=>pure (.mv xs)|_=>bad
theorem CG{O:a0}{H:ah}:∀{rs:List R}{vs:List V}{ks:List Key},qy rs=some ks->fN K mg O H rs vs->vs=ks.map cv
 |[],vs,ks,e,h=>by cases e;exact h
 |r::rs,vs,ks,e,h=>by
  obtain⟨v,EJ,rfl,ae,ag⟩:=h
  cases r with
  |v d=>
   unfold qy at e;split at e
   .rename_i k ajp aw aG
    cases e;rw[akb,CG aG ag,CF (show Rep K mg O H d v from ae) aw]
   .cases e
  |_=>cases e
def PL:dS K mg (fun x y H Q=>∃a v,x=.ref a/\j1 H a y (some v)/\Q v H) La:=fun O Y S aq H x y aU bz bH ar Q st ai a' h q=>by
 obtain⟨o,S1,ae,h'⟩:=M.inv h;clear h;have h:=h';clear h';obtain⟨a,rfl,_,gI⟩:=y' st ai ae;obtain rfl:=(fI aU).d6 _ _ _ ae;split at h
 .rename_i aC dH
  split at h
  .rename_i key gT
   have bG:=gI;obtain⟨de,l,hC⟩:=gI;have rb:=hC.val key
   cases dm:je aC key with
   |none=>rw[dm]at h;cases h
   |some d=>
    rw[dm]at h rb;cases h;obtain⟨v,aw,aG⟩:=rb;refine⟨a,v,rfl,?_,q O v H (Go.refl _ _) st aG trivial⟩;rw[CF (show Rep K mg O H dH y from a') gT,<-aw];exact j1.k l
  .cases h
 .cases h
section
variable{X:aJ}{e o i f:Expr}{ay:List Expr}{m mo KW pA:bf}{ms:cU}{pos apos cK va:Pos}{c a:Str}{ns:List Str}
theorem afV(T:oy X.K X.mg c ns)(hf:a∈ns)(he:a5 X e m)(aa:alz e a X.env (eval e X.env)=eval e X.env:=by rfl):a5 X (.Attribute e a pos) (bE (cm c a) m):=⟨dK (abp he.un aa) λaq H Q aO=>by
 obtain⟨O,Y,S,r,ar,st,h,q⟩:=aO;obtain⟨x,S1,ae,h0⟩:=M.inv h;clear h;refine⟨O,Y,S,x,S1,st,ae,λaH es H1 g1 aP aU bw=>?_⟩;obtain⟨o,a7,ag,h'⟩:=M.inv h0;clear h0;have h:=h';clear h';obtain⟨b,rfl,_,gI⟩:=y' aP aU ag;obtain rfl:=(fI x).d6 _ _ _ ag;split at h
 .rename_i c' fs
  split at h
  .rename_i hc
   subst hc
   cases el:fs.lookup a with
   |none=>rw[el]at h;cases h
   |some d=>
    rw[el]at h;cases h;obtain⟨C,bU,iP,dw,ci,hC⟩:=gI;obtain⟨i7,aw,aG,_,fS⟩:=T.ex;cases aw.symm.trans ci.1;obtain⟨v,ev,bG⟩:=hC.lookup el;exact⟨b,C,bU,iP,v,rfl,dw,aG,fS a hf,ev,q aH v H1 g1 aP bG trivial⟩
  .cases h
 .cases h⟩
def ajQ(cp:X.A.units+64<cLine)(aT:a5 X o mo)(aA:a5 X i KW)(az:tS i:=by intro _ _;rfl):a5 X (.Subscript o i pos) (av La mo KW):=⟨dK (abm (by omega) aT.un aA.un az) (t5 PL)⟩
theorem agg{jx}(cp:X.A.units+64<cLine)(he:a5 X o m)(aB:fQ X ay ms)(hf:a5 X f pA)(ag:M2 X o "get" apos (.Tuple ay jx va) f cK:=by exact⟨rfl,rfl,rfl,rfl⟩):a5 X (.Call (.Attribute o "get" apos) [.Tuple ay jx va,f] [] cK) (xu m ms pA):=
 ⟨dK (abn (by omega) he.un (zk aB.un) hf.un ag) λaq H Q aO=>by
  obtain⟨O,Y,S,r,ar,st,h,q⟩:=aO;obtain⟨x,S1,ae,ao⟩:=M.inv h;clear h;obtain⟨rs,a7,ag,aa⟩:=M.inv ao;clear ao;obtain⟨z,gw,bO,hc⟩:=M.inv aa;clear aa;obtain⟨o,ni,cO,h⟩:=M.inv hc;clear hc;obtain rfl:=(m Y).d6 _ _ _ ae;obtain rfl:=(ms Y).d6 _ _ _ ag;obtain rfl:=(pA Y).d6 _ _ _ bO;obtain rfl:=(fI x).d6 _ _ _ cO;split at h
  .rename_i aC k wG gT
   by_cases c:rs.length<=1000
   .rw[if_pos c]at h
    cases h;refine⟨O,Y,_,x,_,st,ae,λaH es H1 g1 aP aU bw=>?_⟩;obtain⟨a,rfl,_,xs,l,lM⟩:=y' aP aU cO;refine⟨a,rfl,.inr ⟨xs,.inl l⟩,aH,Y,_,rs,_,aP,ag,λa_ vs aK g2 cf ba nn=>?_⟩;have ev:=CG gT ba;refine⟨akZ (f5 (by rw[fN.len ba];exact c)),λp aL=>?_⟩;refine⟨a_,Y,_,_,_,cf.fU aL,bO,λd_ ajP cI g3 f6 m1 Ds=>?_⟩;have g:=g2.trans ((Go.fU aL).trans g3);refine⟨_,j1.t (k:=k) (g.same.at' _ _ l) (by rw[<-ev];exact g3.same.at' _ _ dn),?_⟩;have rb:=(show dO X.K X.mg d_ cI aC xs from⟨lM.1,lM.2.go g⟩).val k;refine q d_ _ cI (g1.trans g) f6 ?_ trivial;show Rep _ _ _ _ ((je aC k).getD wG) _
    cases dm:je aC k with
    |none=>rw[dm]at rb;rw[rb];exact m1|some d=>rw[dm]at rb;obtain⟨v,aw,aG⟩:=rb;rw[aw];exact aG
   .rw[if_neg c]at h;cases h
  .cases h⟩
def ZJ{aq:St}{H:ah}{Q:cD}{O:a0}{Y:aQ}{S S1 ar:cJ}{x r:R}{g:List D->R}(st:ct X.K X.mg O Y S aq H)(ae:(m Y).run S=.ok x S1)
  (h:(do let o <-fI x;match o with|.lst xs=>pure (g xs)|_=>bad:M R).run S1=.ok r ar) (q:w1 X.K X.mg O Y ar aq H r Q)
  (a3:∀ak H' xs a ys,ak a=.out->H' a=some (.lst ys)->a8 X.K X.mg ak H' xs ys->ei X.K X.mg ak H' (g xs) (.ref a)/\iH H (g xs) (.ref a)):e8 X.K X.mg m aq H Q:=by
 obtain⟨o,a7,ag,h'⟩:=M.inv h;clear h;have h:=h';clear h';refine⟨O,Y,S,x,S1,st,ae,λaH es H1 g1 aP aU bw=>?_⟩;obtain⟨a,rfl,cA,gI⟩:=y' aP aU ag;obtain rfl:=(fI x).d6 _ _ _ ag;split at h
 .cases h
  obtain⟨ys,l,bx⟩:=gI;obtain⟨eH,d7⟩:=a3 aH H1 _ a ys (aP.b_.b9.2 a cA) l bx;exact q aH _ H1 g1 aP eH d7
 .cases h
theorem af4(he:a5 X e m):a5 X e (kd m):=⟨dK he.un λaq H Q aO=>by
 obtain⟨O,Y,S,r,ar,st,h,q⟩:=aO;obtain⟨x,S1,ae,h⟩:=M.inv h;exact ZJ st ae h q λak H' xs a ys _ l bx=>⟨⟨a,ys,rfl,l,bx⟩,trivial⟩⟩
end
end aE
namespace aE
open PySem PySem.Spec ax
structure N(α:Type):Type where
 run:cJ->Out α
def N.jb{α β:Type}(m:N α)(f:α->N β):N β:=⟨λS=>match m.run S with
 |.ok a ar=>(f a).run ar|.exc c ar=>.exc c ar| .bad=>.bad⟩
instance:Monad N where
 pure a:=⟨λS=>.ok a S⟩
 bind:=N.jb
def N.inv{α β:Type}{m:N α}{f:α->N β}{S ar:cJ}{b:β}(h:(m >>= f).run S=.ok b ar):∃a S1,m.run S=.ok a S1/\(f a).run S1=.ok b ar:=by
 have h:(N.jb m f).run S=.ok b ar:=h;unfold N.jb at h;dsimp only at h
 cases e:m.run S with
 |ok a S1=>rw[e]at h;exact⟨a,S1,rfl,h⟩|exc c S1=>rw[e]at h;cases h
 |bad=>rw[e]at h;cases h
def gF{α:Type}:N α:=⟨λ_=>.bad⟩
def M.up{α:Type}(m:M α):N α:=⟨m.run⟩
def xX:N cJ:=⟨λS=>.ok S S⟩
def putN(S:cJ):N Unit:=⟨λ_=>.ok () S⟩
abbrev cX:=aQ->N R
abbrev g8:=aQ->N (List R)
abbrev bt:=aQ->N f_
abbrev eY:=List D->N R
variable[ax.aX]
structure e3(O ak:a0)(H H':ah):Prop where
 cells:∀b o,H b=some o->(b∉O.bI\/Fix o)->(h:lE o:=by exact trivial)->H' b=some o
 own:∀b,H b≠none->ak b=O b
 has:∀b,H b≠none->H' b≠none
 cS:∀b ps,H b=some (.ft ps)->∃kr,H' b=some (.ft kr)
 b4:TabsOk H->TabsOk H'
 bI:O.bI <+: ak.bI
 new:∀b∈ak.bI,b∈O.bI\/H b=none
structure gs(O ak:a0)(H H':ah):Prop where
 cells:∀b o,H b=some o->(((O b=.free\/O b=.out)/\b∉O.bI)\/Fix o)->(h:lE o:=by exact trivial)->H' b=some o
 own:∀b,H b≠none->(O b=.free\/O b=.out)->ak b=O b
 has:∀b,H b≠none->H' b≠none
 cS:∀b ps,H b=some (.ft ps)->∃kr,H' b=some (.ft kr)
 b4:TabsOk H->TabsOk H'
 bI:O.bI <+: ak.bI
 new:∀b∈ak.bI,b∈O.bI\/H b=none
structure fx(O ak:a0)(H H':ah):Prop where
 cells:∀b o,H b=some o->((O b=.free/\b∉O.bI/\∃ys,o=.lst ys)\/Fix o)->(h:lE o:=by exact trivial)->H' b=some o
 own:∀b ys,H b=some (.lst ys)->O b=.free->ak b=.free
 bI:O.bI <+: ak.bI
section
variable{K:aM}{mg:a9}{O aH a_ ak:a0}{H H1 aK H':ah}{S ar:cJ}{Y Y':aQ}{aq cW:St}
omit [ax.aX]in
theorem ix(e:H b=some o):H b≠none:=λz=>by rw[e]at z;cases z
def Go.dz(g:Go O ak H H'):e3 O ak H H':=⟨λb o e _ n=>g.same.at' b o e n,g.own,λ_ h=>g.same.some h,g.same.cS,g.same.b4,by rw[g.bI];exact aoG _,λb h=>.inl (by rw[<-g.bI];exact h)⟩
def dZ.ej(g:dZ O ak H H'):gs O ak H H':=⟨λb o e h n=>g.cells b o e (h.elim (λz=>z.1.elim .inl λz=>.inr (.inl z)) λz=>.inr (.inr z)) n,g.own,g.has,g.cS,g.b4,by rw[g.bI];exact aoG _,λb h=>.inl (by rw[<-g.bI];exact h)⟩
def e3.ej(g:e3 O ak H H'):gs O ak H H':=⟨λb o e h n=>g.cells b o e (h.imp (·.2) id) n,λb h _=>g.own b h,g.has,g.cS,g.b4,g.bI,g.new⟩
def e3.trans(a:e3 O aH H H1)(b:e3 aH a_ H1 aK):e3 O a_ H aK:=
  ⟨λc o e h n=>b.cells c o (a.cells c o e h n) (h.imp (λz m=>(a.new c m).elim z (ix e)) id) n,λc h=>(b.own c (a.has c h)).trans (a.own c h),λc h=>b.has c (a.has c h),λc ps h=>let⟨p1,aw⟩:=a.cS c ps h;b.cS c p1 aw,λg=>b.b4 (a.b4 g),
   a.bI.trans b.bI,λc m=>(b.new c m).elim (a.new c) λz=>.inr (by cases e:H c with|none=>rfl|some o=>exact absurd z (a.has c (ix e)))⟩
def gs.trans(a:gs O aH H H1)(b:gs aH a_ H1 aK):gs O a_ H aK:=
  ⟨λc o e h n=>b.cells c o (a.cells c o e h n) (h.imp (λz=>⟨by rw[a.own c (ix e) z.1];exact z.1,λm=>(a.new c m).elim z.2 (ix e)⟩) id) n,
   λc h f=>(b.own c (a.has c h) (by rw[a.own c h f];exact f)).trans (a.own c h f),λc h=>b.has c (a.has c h),λc ps h=>let⟨p1,aw⟩:=a.cS c ps h;b.cS c p1 aw,λg=>b.b4 (a.b4 g),
   a.bI.trans b.bI,λc m=>(b.new c m).elim (a.new c) λz=>.inr (by cases e:H c with|none=>rfl|some o=>exact absurd z (a.has c (ix e)))⟩
def gs.ep(g:gs O ak H H'):fx O ak H H':=⟨λb o e h n=>g.cells b o e (h.imp (λz=>⟨.inl z.1,z.2.1⟩) id) n,λb ys e f=>(g.own b (ix e) (.inl f)).trans f,g.bI⟩
def fx.we(g:fx O ak H H')(h:dj K H a ys):dj K H' a ys:=by
 rcases h with(h|⟨o,h⟩)|h
 .exact .inl (.inl (g.cells _ _ h (.inr (.inl ⟨_,rfl⟩))))
 .exact .inl (.inr ⟨o,g.cells _ _ h (.inr (.inr ⟨_,_,rfl⟩))⟩)
 .exact .inr h
omit [ax.aX]in
theorem iI.no(r:iI O)(h:O a=w)(hw:w≠.out):a∉O.bI:=λm=>hw (h.symm.trans (r.2 a m))
mutual
theorem Rep.ep(g:fx O ak H H')(b9:iI O):∀{d:D}{v:V},Rep K mg O H d v->Rep K mg ak H' d v
 |.aN,_,h=>h|.au _,_,h=>h|.int _,_,h=>h|.str _,_,h=>h| .tup _,_,h=>by obtain⟨a,ys,q,l,r⟩:=h;exact⟨a,ys,q,g.we l,a8.ep g b9 r⟩
 |.lst _,_,h=>by obtain⟨a,ys,q,l,r⟩:=h;exact⟨a,ys,q,⟨g.cells _ _ l.1 (.inl ⟨l.2,b9.no l.2 (by intro z;cases z),_,rfl⟩),g.own a _ l.1 l.2⟩,a8.ep g b9 r⟩
 |.ref _,_,h=>by
  obtain⟨a,q,l⟩:=h;obtain⟨t,e⟩:=g.bI;exact⟨a,q,by rw[<-e,akt (aj1.mp l).1];exact l⟩
 |.fn _,_,h=>h|.ty _,_,h=>h
theorem a8.ep(g:fx O ak H H')(b9:iI O):∀{ds:List D}{ys:List V},a8 K mg O H ds ys->a8 K mg ak H' ds ys
 |[],_,h=>h| _::_,_,h=>by obtain⟨x,r,q,a,b⟩:=h;exact⟨x,r,q,Rep.ep g b9 a,a8.ep g b9 b⟩
end
def a8.ej(g:gs O ak H H')(b9:iI O)(h:a8 K mg O H ds ys):a8 K mg ak H' ds ys:=h.ep g.ep b9
def Rep.dz(g:e3 O ak H H')(b9:iI O){v:V}(h:Rep K mg O H d v):Rep K mg ak H' d v:=h.ep g.ej.ep b9
def a8.dz(g:e3 O ak H H')(b9:iI O)(h:a8 K mg O H ds ys):a8 K mg ak H' ds ys:=h.ej g.ej b9
def R.hR:R->Bool
 |.v _=>true|.fr _=>true|_=>false
def ei.dz(g:e3 O ak H H')(b9:iI O){r:R}{v:V}(az:r.hR=true)(h:ei K mg O H r v):ei K mg ak H' r v:=by
 cases r with
 |v d=>exact Rep.dz g b9 h| fr xs=>obtain⟨a,ys,q,l,o,r⟩:=h;exact⟨a,ys,q,g.cells _ _ l (.inl (b9.no o (by intro z;cases z))),(g.own a (ix l)).trans o,r.dz g b9⟩
 |b8 xs=>cases az
 |mv xs=>cases az
def iH.dz(g:e3 O ak H H'):∀{r:R}{v:V},iH H' r v->iH H r v
 |.v _,_,_=>trivial|.b8 _,_,_=>trivial|.mv _,_,_=>trivial|.fr _,_,h=>λa e=>by
  cases aw:H a with
  |none=>rfl|some o=>exact absurd (h a e) (g.has a (ix aw))
def ng(K:aM)(O:a0)(H:ah)(a:Addr)(ys:List V):Prop:=(fi H a (.lst ys)/\(O a=.free\/O a=.out)/\a∉O.bI)\/Ad K a ys
structure ea(K:aM)(mg:a9)(O:a0)(Y:aQ)(S:cJ)(aq:St)(H:ah):Prop where
 s3:ct K mg O Y S aq H
 full:O.bI.length=S.length
 rd:∀(i:Nat)(xs:List D),Y[i]? = some (.b8 xs)->∃a ys,aq[i]?.join=some (.ref a)/\ng K O H a ys/\a8 K mg O H xs ys
def ng.ej(g:gs O ak H H')(h:ng K O H a ys):ng K ak H' a ys:=by
 rcases h with⟨h,f,m⟩|h
 .have aF:H a≠none:=fi.some h
  refine .inl ⟨?_,by rw[g.own a aF f];exact f,λz=>(g.new a z).elim m aF⟩;rcases h with h|⟨o,h⟩
  .exact .inl (g.cells _ _ h (.inl ⟨f,m⟩))
  .exact .inr ⟨o,g.cells _ _ h (.inl ⟨f,m⟩)⟩
 .exact .inr h
def ng.v(h:ng K O H a ys):hr K O H a ys:=h.imp (λz=>⟨z.1,z.2.1⟩) id
def ea.go(s:ea K mg O Y S aq H)(g:Go O ak H H')(d:c5 ak H'):ea K mg ak Y S aq H':=
 ⟨s.s3.go g d,by rw[g.bI];exact s.full,λi xs e=>by obtain⟨a,ys,aw,l,r⟩:=s.rd i xs e;exact⟨a,ys,aw,l.ej g.bQ.ej,r.go g⟩⟩
def ea.bQ(s:ea K mg O Y S aq H)(g:dZ O ak H H')(k:d9 Y Y' aq cW)(t:ct K mg ak Y' S cW H'):ea K mg ak Y' S cW H':=
 ⟨t,by rw[g.bI];exact s.full,λi xs e=>by
  obtain⟨dk,ev⟩:=k.1 i xs e;obtain⟨a,ys,aw,l,r⟩:=s.rd i xs dk;exact⟨a,ys,by rw[ev];exact aw,l.ej g.ej,a8.bQ g r⟩⟩
def ea.dz(s:ea K mg O Y S aq H)(g:e3 O ak H H')(d:c5 ak H')(d3:fP K mg ak H' ar)(aW:ak.bI.length=ar.length):ea K mg ak Y ar aq H':=by
 have b9:=s.s3.b_.b9;have b8:∀(i:Nat)(xs:List D),Y[i]? = some (.b8 xs)->∃a ys,aq[i]?.join=some (.ref a)/\ng K ak H' a ys/\a8 K mg ak H' xs ys:=λi xs e=>by
  obtain⟨a,ys,aw,l,r⟩:=s.rd i xs e;exact⟨a,ys,aw,l.ej g.ej,r.dz g b9⟩
 refine⟨⟨d,s.s3.len,λi t e=>?_,d3⟩,aW,b8⟩;have l:=s.s3.loc i t e
 cases t with
 |e=>exact trivial|v d=>obtain⟨v,q,r⟩:=l;exact⟨v,q,r.dz g b9⟩
 |e2 p xs=>obtain⟨a,ys,q,o,l,r⟩:=l;exact⟨a,ys,q,(g.own a (ix l)).trans o,g.cells _ _ l (.inl (b9.no o (by intro z;cases z))),r.dz g b9⟩
 |b8 xs=>obtain⟨a,ys,aw,l,r⟩:=b8 i xs e;exact⟨a,ys,aw,l.v,r⟩
end
inductive rB{α:Type}(K:aM)(mg:a9)(m:aQ->N α)(aq:St)(H:ah)(P:a0->aQ->cJ->α->Prop):Prop
 |mk (O:a0) (Y:aQ) (S:cJ) (x:α) (ar:cJ) (st:ea K mg O Y S aq H) (h:(m Y).run S=.ok x ar) (q:P O Y ar x):rB K mg m aq H P
def tx(K:aM)(mg:a9)(m:cX):TE:=λaq H Q=>rB K mg m aq H λO Y ar r=>∀ak v H',e3 O ak H H'->ea K mg ak Y ar aq H'->ei K mg ak H' r v->iH H r v->Q v H'
def OI(K:aM)(mg:a9)(m:aQ->N Bool):TT:=λaq H Q=>rB K mg m aq H λO Y ar b=>∀ak H',e3 O ak H H'->ea K mg ak Y ar aq H'->Q b H'
def E7(K:aM)(mg:a9)(m:g8):fj:=λaq H Q=>rB K mg m aq H λO Y ar rs=>∀ak vs H',e3 O ak H H'->ea K mg ak Y ar aq H'->fN K mg ak H' rs vs->jB H rs vs->Q vs H'
def tU(K:aM)(mg:a9)(O:a0)(ar:cJ)(H:ah)(aW:f_)(eI:Ends):Prop:=match aW with
 |.bw Y'=>∀ak cW H',gs O ak H H'->ea K mg ak Y' ar cW H'->eI.bw cW H'|.d4 Y'=>∀ak cW H',gs O ak H H'->ea K mg ak Y' ar cW H'->eI.d4 cW H'|.cb Y'=>∀ak cW H',gs O ak H H'->ea K mg ak Y' ar cW H'->eI.cb cW H'|.cP r=>∀ak v H',gs O ak H H'->c5 ak H'->fP K mg ak H' ar->ak.bI.length=ar.length->Ag K mg ak H' r v->eI.cP v H'
def tU.ej{O aH:a0}{H H1:ah}(h:tU K mg O ar H aW eI)(g:gs O aH H H1):tU K mg aH ar H1 aW eI:=by
 cases aW with
 |bw Y'=>exact λak cW H' g'=>h ak cW H' (g.trans g')
 |d4 Y'=>exact λak cW H' g'=>h ak cW H' (g.trans g')
 |cb Y'=>exact λak cW H' g'=>h ak cW H' (g.trans g')
 |cP r=>exact λak v H' g'=>h ak v H' (g.trans g')
def rn(K:aM)(mg:a9)(m:bt):fz:=λeI aq H=>rB K mg m aq H λO _ ar aW=>tU K mg O ar H aW eI
section
variable(X:aJ)
structure d0(e:Expr)(m:cX):Prop where
 un:bM X e (tx X.K X.mg m)
structure jD(e:Expr)(m:aQ->N Bool):Prop where
 un:hX X e (OI X.K X.mg m)
structure rG(e:Expr)(m:aQ->N Bool):Prop where
 un:j7 X e (OI X.K X.mg m)
structure j'(ay:List Expr)(m:g8):Prop where
 un:gd X ay (E7 X.K X.mg m)
structure gx(st:Stmt)(m:bt):Prop where
 un:hH X st (rn X.K X.mg m)
structure i'(m3:List Stmt)(m:bt):Prop where
 un:gP X m3 (rn X.K X.mg m)
end
def dE(m:bf):cX:=λY=>(m Y).up
def hE(m:aQ->M Bool):aQ->N Bool:=λY=>(m Y).up
def gL(m:cU):g8:=λY=>(m Y).up
def c2(m:aI):bt:=λY=>(m Y).up
section
variable{X:aJ}{e:Expr}{ay:List Expr}{m:bf}{t:aQ->M Bool}{ms:cU}{b:aI}{st:Stmt}{m3:List Stmt}
theorem ag8(h:a5 X e m):d0 X e (dE m):=⟨dK h.un λaq H Q aO=>by
 obtain⟨O,Y,S,r,ar,st,h,q⟩:=aO;obtain rfl:=(m Y).d6 _ _ _ h;exact⟨O,Y,ar,r,ar,st.s3,h,λaH v H1 g1 aP ba nn=>q aH v H1 g1.dz (st.go g1 aP.b_) ba nn⟩⟩
theorem ahp(h:e5 X e t):jD X e (hE t):=⟨qX h.un λaq H Q aO=>by
 obtain⟨O,Y,S,r,ar,st,h,q⟩:=aO;obtain rfl:=(t Y).d6 _ _ _ h;exact⟨O,Y,ar,r,ar,st.s3,h,λaH H1 g1 aP=>q aH H1 g1.dz (st.go g1 aP.b_)⟩⟩
theorem ag0(h:fQ X ay ms):j' X ay (gL ms):=⟨qT h.un λaq H Q aO=>by
 obtain⟨O,Y,S,r,ar,st,h,q⟩:=aO;obtain rfl:=(ms Y).d6 _ _ _ h;exact⟨O,Y,ar,r,ar,st.s3,h,λaH v H1 g1 aP ba nn=>q aH v H1 g1.dz (st.go g1 aP.b_) ba nn⟩⟩
theorem OH:∀D aq H,rn K mg (c2 b) D aq H->hS K mg b D aq H:=by
 rintro D aq H ⟨O,Y,S,aW,ar,st,h,q⟩;obtain rfl:=(b Y).d6 _ _ _ h;refine⟨O,Y,ar,aW,ar,st.s3,h,?_⟩
 cases aW with
 |bw Y'=>exact λak cW H' g t k=>q ak cW H' g.ej (st.bQ g k t)
 |d4 Y'=>exact λak cW H' g t k=>q ak cW H' g.ej (st.bQ g k t)
 |cb Y'=>exact λak cW H' g t k=>q ak cW H' g.ej (st.bQ g k t)
 |cP r=>exact λak v H' g d d3 ba=>q ak v H' g.ej d d3 (by rw[g.bI];exact st.full) ba
def ahj(h:e4 X st b):gx X st (c2 b):=⟨g4 h.un OH⟩
def OL(h:eX X m3 b):i' X m3 (c2 b):=⟨pK h.un OH⟩
end
end aE
namespace aE
open PySem PySem.Spec ax
def bX(a b:bt):bt:=λY=>do
 let aW <-a Y
 match aW with
 |.bw Y'=>b Y'|aW=>pure aW
def gp(t:aQ->N Bool)(a b:bt):bt:=λY=>do
 let t <-t Y
 if t=true then a Y else b Y
def lZ(i:Nat)(m:cX):bt:=λY=>do
 let r <-m Y
 let d <-r.dat.up
 pure (.bw (Y.set i (.v d)))
def kG(m:cX):bt:=λY=>do
 let r <-m Y
 match r with
 |.v d=>pure (.cP (.v d))|.fr xs=>pure (.cP (.fr xs))|_=>gF
def kF(m:cX):bt:=λY=>do
 let _ <-m Y
 pure (.bw Y)
variable[ax.aX]
section
variable{K:aM}{mg:a9}{O oF:a0}{H H₀:ah}{S:cJ}{Y:aQ}{aq:St}
def ea.cc(s:ea K mg O Y S aq H)(H₀:ah):ea K mg (cc H₀ O) Y S aq H:=⟨s.s3.cc H₀,s.full,λi xs e=>by
 obtain⟨a,ys,aw,l,r⟩:=s.rd i xs e;refine⟨a,ys,aw,l.imp (λz=>⟨z.1,?_,z.2.2⟩) id,r.dc (iO _ _)⟩;rcases z.2.1 with f|f
 .exact .inl ((iO H₀ O).fr a f)
 .exact .inr (by rw[qg (by rw[f];intro z;cases z)];exact f)⟩
def e3.cc(g:e3 oF O H₀ H):e3 oF (cc H₀ O) H₀ H:=⟨λb o e h n=>g.cells b o e h n,λb aa=>(Bz aa).trans (g.own b aa),g.has,g.cS,g.b4,g.bI,g.new⟩
def ea.set{v:V}(st:ea K mg O Y S aq H)(az:∀xs,s≠.b8 xs)(h:iJ K mg O H (.loc i) s (some v)):ea K mg O (Y.set i s) S (aq.set i (some v)) H:=⟨st.s3.set h,st.full,λj xs e=>by
 by_cases aR:i=j
 .subst aR
  rw[aks (by have:=(aj1.mp e).1;rwa[akL]at this)]at e;exact absurd (aky e) (az xs)
 .rw[akk aR]at e
  rw[akk aR];exact st.rd j xs e⟩
end
section
variable{X:aJ}{st:Stmt}{rest A B:List Stmt}{pos pos':Pos}{a b:bt}{e c:Expr}{m:cX}{t:aQ->N Bool}{i:Nat}{x:Str}
def ahn(h:gx X st a):i' X [st] a:=⟨D1 h.un⟩
def ahm(ae:gx X st a)(ag:i' X rest b):i' X (st::rest) (bX a b):=⟨pK (vW ae.un ag.un) λD aq H aO=>by
 obtain⟨O,Y,S,aW,ar,st,h,q⟩:=aO;obtain⟨f1,S1,ae,h⟩:=N.inv h;refine⟨O,Y,S,f1,S1,st,ae,?_⟩
 cases f1 with
 |bw gM=>exact λaH wJ H1 g1 aP=>⟨aH,gM,S1,aW,ar,aP,h,q.ej g1⟩
 |cP r=>cases h;exact q
 |d4 gM=>cases h;exact q
 |cb gM=>cases h;exact q⟩
theorem ahh(hc:jD X c t)(ao:i' X A a)(aa:i' X B b):gx X (.If c A B pos) (gp t a b):=⟨g4 (DY hc.un ao.un aa.un) λD aq H aO=>by
 obtain⟨O,Y,S,aW,ar,st,h,q⟩:=aO;obtain⟨t,S1,ae,h⟩:=N.inv h;refine⟨O,Y,S,t,S1,st,ae,λaH H1 g1 aP=>?_⟩
 cases t with
 |false=>
  rw[if_neg aj7]at h;exact mH ⟨aH,Y,S1,aW,ar,aP,h,q.ej g1.ej⟩
 |true=>
  rw[if_pos rfl]at h;exact mI ⟨aH,Y,S1,aW,ar,aP,h,q.ej g1.ej⟩⟩
theorem ahk(he:d0 X e m):gx X (.Return (some e) pos) (kG m):=⟨g4 (DZ he.un) λD aq H aO=>by
 obtain⟨O,Y,S,aW,ar,st,h,q⟩:=aO;obtain⟨r,S1,ae,h⟩:=N.inv h;refine⟨O,Y,S,r,S1,st,ae,λaH v H1 g1 aP ba nn=>?_⟩
 cases r with
 |v d=>cases h;exact q aH v H1 g1.ej aP.s3.b_ aP.s3.fJ aP.full ba
 |fr xs=>cases h;exact q aH v H1 g1.ej aP.s3.b_ aP.s3.fJ aP.full (Mb ba (.inr ⟨_,rfl⟩))
 |b8 xs=>cases h
 |mv xs=>cases h⟩
theorem ahe(he:d0 X e m)(az:ak6 e none pos.line X.env=pure false:=by rfl):gx X (.Expr e pos) (kF m):=⟨g4 (DW he.un az) λD aq H aO=>by
 obtain⟨O,Y,S,aW,ar,st,h,q⟩:=aO;obtain⟨r,S1,ae,h⟩:=N.inv h;cases h;exact⟨O,Y,S,r,_,st,ae,λaH v H1 g1 aP ba nn=>q aH aq H1 g1.ej aP⟩⟩
theorem ahl(hN:X.N.Nodup)(aA:X.N[i]? = some x)(ai:Loc X.env.scope x)(he:d0 X e m)(az:ak6 e (some (.Name x pos')) pos.line X.env=pure false:=by rfl)(hf:X.fn x=true\/X.env.scope.names.lookup x=some .local:=by first|exact .inl rfl|exact .inr rfl|assumption) :
  gx X (.Assign [.Name x pos'] e pos) (lZ i m):=⟨g4 (vV hN aA ai he.un az hf) λD aq H aO=>by
 obtain⟨O,Y,S,aW,ar,st,h,q⟩:=aO;obtain⟨r,S1,ae,h⟩:=N.inv h;obtain⟨d,a7,ag,h⟩:=N.inv h;cases h;refine⟨O,Y,S,r,S1,st,ae,λaH v H1 g1 aP ba nn=>?_⟩;obtain⟨cR,rfl⟩:=oW (H₀:=H) ba nn ag;exact q (cc H aH) _ H1 g1.cc.ej ((aP.cc H).set (λxs z=>by cases z) ⟨v,rfl,cR⟩)⟩
end
def Fw(bJ:hG)(O:a0)(H:ah)(ys:List V):Prop:=∀a_ aK,gs O a_ H aK->∀i,(i<ys.length->bJ.go i aK/\∀x H',bJ.oo i aK x H'->H'=aK/\ys[i]? = some x)/\(ys.length<=i->bJ.stop i aK)
def Oc(K:aM)(mg:a9)(m:gc):TI:=λaq H R=>rB K mg (λY=>(m Y).up) aq H λO Y ar xs=>∀ak H' bJ ys,Go O ak H H'->ea K mg ak Y ar aq H'->Fw bJ ak H' ys->a8 K mg ak H' xs ys->R bJ H'
structure FE(X:aJ)(b7 e:Expr)(m:gc):Prop where
 un:jC X b7 e (Oc X.K X.mg m)
def lY(b:D->bt):List D->bt
 |[]=>λY=>pure (.bw Y)
 |d::ds=>λY=>do
  let aW <-b d Y
  match aW with
  |.bw Y'=>lY b ds Y'|.cb Y'=>lY b ds Y'|.d4 Y'=>pure (.bw Y')|.cP r=>pure (.cP r)
def Ow(B:D->bt)(it:gc):bt:=λY=>do
 let ds <-(it Y).up
 lY B ds Y
abbrev zS(i:Nat)(it:gc)(b:bt):bt:=Ow (λd Y=>b (Y.set i (.v d))) it
section
variable{X:aJ}{iter:Expr}{m:bf}{a:Expr}{pos eG:Pos}{it:gc}{bd:bt}{body:List Stmt}{i:Nat}{x:Str}
theorem ng.YK{K:aM}{O:a0}{H:ah}{a:Addr}{xs:List V}(h:ng K O H a xs):Fw (l8 K a) O H xs:=λa_ aK g i=>Cq (h.ej g).v.dv aK (dy.refl _) i
theorem ZM{K:aM}{mg:a9}{bJ:hG}{G:ij}{B:aE.D->bt}{items:List aE.D}{aH:a0}{Y:aQ}{S1 ar:cJ}{aq:St}{H1:ah}{aW:f_}{eI:Ends}(aP:ea K mg aH Y S1 aq H1)(stop:∀ak H',gs aH ak H1 H'->bJ.stop items.length H')
  (step:∀k d ak H' Y' gQ cW f a7,items[k]? = some d->gs aH ak H1 H'->ea K mg ak Y' gQ cW H'->(B d Y').run gQ=.ok f a7->bJ.go k H'/\∀x aK (R:St->ah->Prop),bJ.oo k H' x aK->
   (∀hF jZ cI,gs ak ak H' cI->ea K mg ak hF gQ jZ cI->(bd hF).run gQ=.ok f a7->R jZ cI)->G x cW aK R)
  (h:(lY B items Y).run S1=.ok aW ar) (q:tU K mg aH ar H1 aW eI):td (λ_ _ R=>R bJ H1) G (rn K mg bd) eI aq H1:=by
 refine⟨λk m cW H'=>m=items.length-k/\k<=items.length/\∃ak Y' gQ,ea K mg ak Y' gQ cW H'/\gs aH ak H1 H'/\(lY B (items.drop k) Y').run gQ=.ok aW ar,
  ⟨_,rfl,akA _,aH,Y,S1,aP,(dZ.refl _ _).ej,h⟩,?_⟩
 rintro k m cW H' ⟨rfl,aB,ak,Y',gQ,bW,g',h⟩
 cases e:items.drop k with
 |nil=>
  obtain rfl:k=items.length:=by
   have:=congrArg alA e;rw[akY,alc]at this;omega
  rw[e]at h;cases h;exact .inl ⟨stop ak H' g',q ak cW H' g' bW⟩
 |cons d mq=>
  have fC:k<items.length:=by
   have:=congrArg alA e;rw[akY,akn]at this;omega
  have dm:items[k]? = some d:=by
   have:=congrArg (·[0]?) e;simpa using this
  have bZ:items.drop (k+1)=mq:=by
   have:=congrArg (aoV 1) e;simpa[ana]using this
  rw[e]at h;obtain⟨f1,a7,ag,h⟩:=N.inv h;obtain⟨go,om⟩:=step k d ak H' Y' gQ cW f1 a7 dm g' bW ag;refine .inr ⟨go,λgN aK=>∃a_ dp a7,ea K mg a_ dp a7 gN aK/\gs aH a_ H1 aK/\(lY B (items.drop (k+1)) dp).run a7=.ok aW ar,?_,λx aK jY=>om x aK _ jY λhF jZ cI jg oa aa=>?_⟩
  .rintro gN aK ⟨a_,dp,a7,a1,a2,eu⟩
   exact⟨_,by omega,rfl,fC,a_,dp,a7,a1,a2,eu⟩
  .refine⟨ak,hF,gQ,f1,a7,oa,aa,?_⟩
   have g3:=g'.trans jg
   cases f1 with
   |bw dp=>exact λa_ gN aK g2 cf=>⟨a_,dp,a7,cf,g3.trans g2,by rw[bZ];exact h⟩
   |cb dp=>exact λa_ gN aK g2 cf=>⟨a_,dp,a7,cf,g3.trans g2,by rw[bZ];exact h⟩
   |d4 dp=>cases h;exact λa_ gN aK g2 cf=>q a_ gN aK (g3.trans g2) cf
   |cP r=>cases h;exact λa_ v aK g2 dT aG f2 b5=>q a_ v aK (g3.trans g2) dT aG f2 b5
theorem Vb{G:ij}{B:aE.D->bt}(o2:∀O Y S aq H d y f a7 Q,ea K mg O Y S aq H->Rep K mg O H d y->(B d Y).run S=.ok f a7->(∀hF jZ,ea K mg O hF S jZ H->(bd hF).run S=.ok f a7->Q jZ H)->G y aq H Q) :
  ∀D aq H,rn K mg (Ow B it) D aq H->td (Oc K mg it) G (rn K mg bd) D aq H:=by
 rintro D aq H ⟨O,Y,S,aW,ar,st,h,q⟩;obtain⟨ds,S1,ae,h⟩:=N.inv h;refine⟨O,Y,S,ds,S1,st,ae,λaH H1 bJ ys g1 aP its bx=>ZM aP (λak H' g=>(its ak H' g _).2 (amF bx.len)) (λk d ak H' Y' gQ cW f a7 dm g' bW ag=>?_) h (q.ej g1.bQ.ej)⟩;obtain⟨y,fb,bz⟩:=(bx.ej g' aP.s3.b_.b9).get dm;obtain⟨go,om⟩:=(its ak H' g' k).1 (aj1.mp fb).1;refine⟨go,λx aK R jY dQ=>?_⟩;obtain⟨rfl,ex⟩:=om x aK jY;rw[fb]at ex;cases ex;exact o2 _ _ _ _ _ _ _ _ _ _ bW bz ag λhF jZ oa aa=>dQ _ _ _ (dZ.refl _ _).ej oa aa
def ahg(aL:aoS (model X.prog X.w) X.A X.env X.cL)(hc:X.calm=true)(aA:FE X (.Name x eG) iter it)(hN:X.N.Nodup)(ai:X.N[i]? = some x)(hl:Loc X.env.scope x)(aa:i' X body bd)
  (az:∀x,ak0 iter X.env x=pure x:=by intro _;rfl) (hf:X.fn x=true\/X.env.scope.names.lookup x=some .local:=by first|exact .inl rfl|exact .inr rfl|assumption):gx X (.For (.Name x eG) iter body [] pos) (zS i it bd):=
 ⟨g4 (DX aL hc aA.un (vT hN ai hl hf) aa.un az) (Vb λ_ _ _ _ _ _ _ _ _ _ st bz h k=>k _ _ (st.set (s:=.v _) (λxs z=>by cases z) ⟨_,rfl,bz⟩) h)⟩
end
end aE
namespace aE
open PySem PySem.Spec ax
def fnX(n N:Nat)(b:bt):eY:=λds=>if ds.length=n then do
  let aW <-b (ds.map c9++akF (N-n) .e)
  match aW with
  |.cP (.v d)=>pure (.v d)|.cP (.fr xs)=>pure (.fr xs)|.bw _=>pure (.v .aN)|_=>gF
 else gF
def Bw{n N:Nat}{ds:List D}{r:R}(h:(fnX n N b ds).run S=.ok r ar):ds.length=n:=by
 unfold fnX at h
 by_cases c:ds.length=n
 .exact c
 .rw[if_neg c]at h;cases h
def rk:g8:=λ_=>pure []
def rj(m:cX)(ms:g8):g8:=λY=>do
 let x <-m Y
 let xs <-ms Y
 if x.hR=true then pure (x::xs)else gF
def oj(m:cX)(ms:cU):g8:=λY=>do
 let x <-m Y
 let xs <-(ms Y).up
 pure (x::xs)
def kE(mf:eY)(ms:g8):cX:=λY=>do
 let rs <-ms Y
 if rs.all R.hR=true then mf (rs.map R.arg)else gF
def fw(c m:Str)(mf:eY)(mo:bf)(ms:g8):cX:=λY=>do
 let x <-(mo Y).up
 let o <-(fI x).up
 match o with
 |.bh c' fs=>if c'=c/\fs.lookup m=none then(do
  let rs <-ms Y
  if rs.all R.hR=true then mf (x.arg::rs.map R.arg)else gF)else gF
 |_=>gF
def zT(c:Str)(mf:eY)(ms:g8):cX:=λY=>do
 let rs <-ms Y
 if rs.all R.hR=true then(do
  let S <-xX
  putN (S++[.bh c []])
  let r <-mf (.ref S.length::rs.map R.arg)
  match r with
  |.v .aN=>pure (.v (.ref S.length))| _=>gF)else gF
def ts(mf:bq)(ms:g8):cX:=λY=>do
 let rs <-ms Y
 (mf (rs.map R.arg)).up
def ri(f:R->R->M R)(a b:cX):cX:=λY=>do
 let x <-a Y
 let y <-b Y
 if x.hR=true then(f x y).up else gF
variable[ax.aX]
def ou(K:aM)(mg:a9)(O:a0)(H:ah):D->V->Prop
 |.lst xs,v=>∃a ys,v=.ref a/\((fi H a (.lst ys)/\a∉O.bI)\/Ad K a ys)/\a8 K mg O H xs ys|d,v=>Rep K mg O H d v
def l3(K:aM)(mg:a9)(O:a0)(H:ah):List D->List V->Prop
 |[],ys=>ys=[]|x::xs,ys=>∃y r,ys=y::r/\ou K mg O H x y/\l3 K mg O H xs r
section
variable{K:aM}{mg:a9}{O:a0}{H:ah}{S:cJ}
def ou.rep{v:V}(b9:iI O)(h:Rep K mg O H d v):ou K mg O H d v:=by
 cases d with
 |lst xs=>obtain⟨a,ys,e,l,r⟩:=h;exact⟨a,ys,e,.inl ⟨.inl l.1,b9.no l.2 (by intro z;cases z)⟩,r⟩
 |_=>exact h
def Pw{r:R}{v:V}(b9:iI O)(az:r.hR=true)(h:ei K mg O H r v):ou K mg O H r.arg v:=by
 cases r with
 |v d=>exact ou.rep b9 h| fr xs=>obtain⟨a,ys,e,l,t,r⟩:=h;exact⟨a,ys,e,.inl ⟨.inl l,b9.no t (by intro z;cases z)⟩,r⟩
 |b8 _=>cases az
 |mv _=>cases az
theorem xa(b9:iI O):∀{rs:List R}{vs:List V},rs.all R.hR=true->fN K mg O H rs vs->l3 K mg O H (rs.map R.arg) vs
 |[],_,_,h=>h|_::_,_,az,h=>by
  rw[al6,akw]at az;obtain⟨y,r,q,a,b⟩:=h;exact⟨y,r,q,Pw b9 az.1 a,xa b9 az.2 b⟩
def ou.r{v:V}(h:ou K mg O H d v):tF K mg O H d v:=by
 cases d with
 |lst xs=>obtain⟨a,ys,e,l,r⟩:=h;exact⟨a,ys,e,l.imp (·.1) id,r⟩
 |_=>exact h
theorem l3.r:∀{ds:List D}{vs:List V},l3 K mg O H ds vs->kH K mg O H ds vs
 |[],_,h=>h| _::_,_,h=>by obtain⟨y,r,q,a,b⟩:=h;exact⟨y,r,q,a.r,l3.r b⟩
theorem l3.get:∀{ds:List D}{xs:List V}{i:Nat}{d:D},l3 K mg O H ds xs->ds[i]? = some d->∃x,xs[i]? = some x/\ou K mg O H d x
 |[],_,_,_,_,e=>by simp at e| _::_,_,0,d,h,e=>by obtain⟨x,r,rfl,a,_⟩:=h;cases(show some _=some d from e);exact⟨x,rfl,a⟩
 |_::ds,_,i+1,d,h,e=>by
  obtain⟨x,r,rfl,_,b⟩:=h;obtain⟨y,aw,aG⟩:=l3.get (i:=i) b (by simpa using e);exact⟨y,by simpa using aw,aG⟩
def dM(K:aM)(mg:a9)(mf:eY):dP:=λvs H Q _=>∃O ds r S ar,c5 O H/\fP K mg O H S/\O.bI.length=S.length/\l3 K mg O H ds vs/\(mf ds).run S=.ok r ar/\
 ∀ak v H',e3 O ak H H'->c5 ak H'->fP K mg ak H' ar->ak.bI.length=ar.length->ei K mg ak H' r v->iH H r v->Q v H'
def aek{ps N:List Str}{ds:List D}(cM:c5 O H)(d3:fP K mg O H S)(aW:O.bI.length=S.length)(eb:l3 K mg O H ds vs)(hl:ds.length=ps.length):ea K mg (eT O) (ds.map c9++akF (N.length-ps.length) .e) S (ax.start N vs) H:=by
 refine⟨Eo cM d3 eb.r hl,aW,λi xs e=>?_⟩
 by_cases aA:i<ds.length
 .rw[akt (by rw[aj2];exact aA),akD]at e
  cases dm:ds[i]? with
  |none=>rw[dm]at e;cases e
  |some d=>
   rw[dm]at e;obtain⟨v,ev,bG⟩:=eb.get dm
   cases d with
   |lst zs=>
    cases e;obtain⟨a,ys,rfl,l,r⟩:=bG;refine⟨a,ys,?_,l.imp (λz=>⟨z.1,mi O a,z.2⟩) id,r.dc (kP O)⟩;unfold ax.start;rw[akt (by rw[aj2];exact(aj1.mp ev).1),akD,ev];rfl
   |_=>cases e
 .rw[akq (by rw[aj2];omega),alV]at e
  split at e
  .cases e
  .cases e
theorem Hg{ps N:List Str}(gA:dM K mg (fnX ps.length N.length cE) vs H Q E):rn K mg cE { bw:=λ_ H'=>Q .aN H',cP:=Q } (ax.start N vs) H:=by
 obtain⟨O,ds,r,S,ar,cM,d3,BB,eb,h,q⟩:=gA;have hl:=Bw h;unfold fnX at h;rw[if_pos hl]at h;obtain⟨aW,S1,ae,h⟩:=aE.N.inv h;have q5:=aek (N:=N) cM d3 BB eb hl;have back:∀{ak:a0}{H':ah},gs (eT O) ak H H'->c5 ak H'->∃a_:a0,e3 O a_ H H'/\c5 a_ H'/\l6 ak a_/\∀b,(ak b=.dB\/∃i,ak b=.loc i)->H b=none/\a_ b=.dB:=λ{ak H'} g d=>by
  have qL:∀b,H b≠none->(match H b with|some _=>O b|none=>(match ak b with|.loc _=>.dB|o=>o))=O b:=λb aa=>by
   cases e:H b with
   |none=>exact absurd e aa|some o=>rfl
  have pE:∀b,H b=none->(match H b with|some _=>O b|none=>(match ak b with|.loc _=>.dB|o=>o))=(match ak b with|.loc _=>Own.dB|o=>o):=λb aa=>by rw[aa]
  refine⟨⟨λb=>match H b with|some _=>O b|none=>(match ak b with|.loc _=>.dB|o=>o),ak.bI⟩,⟨λb o e h n=>g.cells b o e (h.imp (λz=>⟨mi O b,z⟩) id) n,qL,g.has,g.cS,g.b4,g.bI,g.new⟩,⟨λb aa=>?_,d.tabs,d.b9.1,λb m=>?_⟩,⟨λb aa=>?_,rfl⟩,λb aa=>?_⟩
  .cases e:H b with
   |some o=>exact g.has b (ix e)|none=>
    refine d.has b λz=>aa ?_
    refine(pE b e).trans ?_;rw[z]
  .rcases g.new b m with z|z
   .exact(qL b (cM.has b (by rw[cM.b9.2 b z];intro z;cases z))).trans (cM.b9.2 b z)
   .refine(pE b z).trans ?_
    rw[d.b9.2 b m]
  .cases e:H b with
   |some o=>exact(qL b (ix e)).trans (oQ.mp ((g.own b (ix e) (mi O b)).symm.trans aa))|none=>
    refine(pE b e).trans ?_;rw[aa]
  .have aF:H b=none:=by
    cases e:H b with
    |none=>rfl|some o=>
     exfalso;have bp:=g.own b (ix e) (mi O b);rcases mi O b with z|z<;>rw[z]at bp<;>rcases aa with w|⟨i,w⟩<;>rw[bp]at w<;>cases w
   refine⟨aF,(pE b aF).trans ?_⟩;rcases aa with w|⟨i,w⟩<;>rw[w]
 refine⟨eT O,_,S,aW,S1,q5,ae,?_⟩
 cases aW with
 |bw Y'=>
  cases h;intro ak cW H' g bW;obtain⟨a_,g2,dT,f2,_⟩:=back g bW.s3.b_;exact q a_ .aN H' g2 dT (bW.s3.fJ.all (λ_ _ z=>Rep.dc f2 z) f2.bI λ_ _ _ l _=>l) (by rw[f2.bI];exact bW.full) rfl trivial
 |d4 Y'=>cases h
 |cb Y'=>cases h
 |cP bH=>
  intro ak v H' g d aea Vh ba;obtain⟨a_,g2,dT,f2,hn⟩:=back g d;have wb:=aea.all (λ_ _ z=>Rep.dc f2 z) f2.bI λ_ _ _ l _=>l
  have Ij:a_.bI.length=S1.length:=by rw[f2.bI];exact Vh
  cases bH with
  |v dd=>cases h;exact q a_ v H' g2 dT wb Ij (Rep.dc f2 ba) trivial
  |fr xs=>
   cases h;obtain⟨a,ys,rfl,l,t,bx⟩:=ba;obtain⟨aF,bC⟩:=hn a t;exact q a_ _ H' g2 dT wb Ij ⟨a,ys,rfl,l,bC,bx.dc f2⟩ λb dh=>by cases dh;exact aF
  |b8 xs=>exact akv ba|mv xs=>exact akv ba
end
structure fV(K:aM)(mg:a9)(c m qual:Str)(st:Stmt)(ps:List Str):Prop where
 ex:∃C f fd,mg c=some (.ref C)/\hT K C/\Meth K C m f/\j3 K m qual st f fd/\Binds K fd ps []
structure dq(P:aki)(w:World)(K:aM)(mg:a9)(base:Heap)(c m:Str)(ps:List Str)(k:Nat)(sp:dP):Prop where
 ex:∃C f fd,mg c=some (.ref C)/\hT K C/\Meth K C m f/\ez P w K mg base eh k f fd ps sp/\Binds K fd ps []
section
variable{P:aki}{w:World}{K:aM}{mg:a9}{base:Heap}{x c m qual:Str}{st:Stmt}{ps N:List Str}{k:Nat}{cE:bt}{n nl:Nat}{f:Addr}{fd:ak4}
def Bx(F:j3 K x qual st f fd)(Sc:bP N ps (bk st))(aF:ps.length=n)(hl:N.length=nl)
  (aa:∀(bc:Value)(A:akm)(outer:List Env)(s:aj0)(H:ah)(E:eS),cg k (A.deeper (akW qual (bk st) s.heap.objs.size f bc))->
   i' (fl eh P w K mg base N qual (bk st) f bc A outer s H E).fZ (eU st) cE):ez P w K mg base eh (k+1) f fd ps (dM K mg (fnX n nl cE)):=by
 subst aF hl;exact F.ok Sc (λvs H Q E ⟨O,ds,r,S,ar,cM,d3,BB,eb,h,q⟩=>eb.r.len.trans (Bw h)) λbc A outer s H vs Q E aD gA=>⟨_,(aa bc A outer s H E aD).un,Hg gA⟩
theorem IT(b1:b1 K mg x st ps)(Sc:bP N ps (bk st))(aF:ps.length=n)(hl:N.length=nl)
  (aa:∀(f:Addr)(bc:Value)(A:akm)(outer:List Env)(s:aj0)(H:ah)(E:eS),cg k (A.deeper (akW x (bk st) s.heap.objs.size f bc))->
   i' (fl eh P w K mg base N x (bk st) f bc A outer s H E).fZ (eU st) cE):bT P w K mg base x ps (k+1) (dM K mg (fnX n nl cE)):=by
 obtain⟨f,fd,F,b,m⟩:=b1.ex;exact⟨f,fd,Bx F Sc aF hl (λbc=>aa f bc),b,F.kp,m⟩
theorem mz(b1:fV K mg c m qual st ps)(Sc:bP N ps (bk st))(aF:ps.length=n)(hl:N.length=nl)
  (aa:∀(f:Addr)(bc:Value)(A:akm)(outer:List Env)(s:aj0)(H:ah)(E:eS),cg k (A.deeper (akW qual (bk st) s.heap.objs.size f bc))->
   i' (fl eh P w K mg base N qual (bk st) f bc A outer s H E).fZ (eU st) cE):dq P w K mg base c m ps (k+1) (dM K mg (fnX n nl cE)):=by
 obtain⟨C,f,fd,eD,cl,me,F,b⟩:=b1.ex;exact⟨C,f,fd,eD,cl,me,Bx F Sc aF hl (λbc=>aa f bc),b⟩
theorem o4{cE:aI}(b1:fV K mg c m qual st ps)(Sc:bP N ps (bk st))(aF:ps.length=n)(hl:N.length=nl)
  (aa:∀(f:Addr)(bc:Value)(A:akm)(outer:List Env)(s:aj0)(H:ah)(E:eS),cg k (A.deeper (akW qual (bk st) s.heap.objs.size f bc))->
   rq (fl eh P w K mg base N qual (bk st) f bc A outer s H E).fZ (eU st) cE):dq P w K mg base c m ps (k+1) (bL K mg (fnOf n nl cE)):=by
 obtain⟨C,f,fd,eD,cl,me,F,b⟩:=b1.ex;exact⟨C,f,fd,eD,cl,me,Ie F Sc aF hl (λbc=>aa f bc),b⟩
end
section
variable{X:aJ}{x:Str}{ps:List Str}{k:Nat}{mf:eY}{lI:bq}{p pos:Pos}{e:Expr}{ay:List Expr}{ms:g8}{pm:cU}{z0:cX}
theorem jB.dz{O ak:a0}{H H':ah}(g:e3 O ak H H'):∀{rs:List R}{vs:List V},jB H' rs vs->jB H rs vs
 |[],_,_=>trivial|_::_,[],_=>trivial|_::_,_::_,h=>⟨h.1.dz g,jB.dz g h.2⟩
theorem agY(ao:d0 X e z0)(aD:j' X ay ms)(az:ajY (e::ay) X.env=(false,eval e X.env)::ajY ay X.env:=by rfl):j' X (e::ay) (rj z0 ms):=⟨qT (lH ao.un aD.un az) λaq H Q aO=>by
 obtain⟨O,Y,S,r,ar,st,h,q⟩:=aO;obtain⟨x,S1,ae,h⟩:=N.inv h;obtain⟨xs,a7,ag,h⟩:=N.inv h;split at h
 .rename_i eB
  cases h;refine⟨O,Y,S,x,S1,st,ae,λaH es H1 g1 aP aU bw=>?_⟩;exact⟨aH,Y,S1,xs,_,aP,ag,λa_ vs aK g2 cf rs ns=>q a_ (es::vs) aK (g1.trans g2) cf ⟨es,vs,rfl,aU.dz g2 aP.s3.b_.b9 eB,rs⟩ ⟨bw,ns.dz g1⟩⟩
 .cases h⟩
theorem agZ(ao:d0 X e z0)(aD:fQ X ay pm)(az:ajY (e::ay) X.env=(false,eval e X.env)::ajY ay X.env:=by rfl):j' X (e::ay) (oj z0 pm):=⟨qT (lH ao.un aD.un az) λaq H Q aO=>by
 obtain⟨O,Y,S,r,ar,st,h,q⟩:=aO;obtain⟨x,S1,ae,h⟩:=N.inv h;obtain⟨xs,a7,ag,h⟩:=N.inv h;cases h;obtain rfl:=(pm Y).d6 _ _ _ ag;refine⟨O,Y,S,x,_,st,ae,λaH es H1 g1 aP aU bw=>?_⟩;exact⟨aH,Y,_,xs,_,aP.s3,ag,λa_ vs aK g2 cf rs ns=>q a_ (es::vs) aK (g1.trans g2.dz) (aP.go g2 cf.b_) ⟨es,vs,rfl,aU.go g2,rs⟩ ⟨bw,ns.dz g1⟩⟩⟩
def Sk:∀aq H Q,tx K mg (kE mf ms) aq H Q->zD (dM K mg mf) (E7 K mg ms) aq H Q:=by
 rintro aq H Q ⟨O,Y,S,r,ar,st,h,q⟩;obtain⟨rs,S1,ae,h⟩:=N.inv h;split at h
 .rename_i eB
  refine⟨O,Y,S,rs,S1,st,ae,λaH vs H1 g1 aP ba nn=>?_⟩;exact⟨aH,_,r,S1,ar,aP.s3.b_,aP.s3.fJ,aP.full,xa aP.s3.b_.b9 eB ba,h,λak v H' g d d3 aW bH jo=>q ak v H' (g1.trans g) (aP.dz g d d3 aW) bH (jo.dz g1)⟩
 .cases h
def ag2(h:bT X.prog X.w X.K X.mg X.base x ps k (dM X.K X.mg mf))(aD:cg k X.A)(a3:dD X x)(ao:j' X (e::ay) ms)(dA:(x==("__debug__":Str))=false:=by decide)
  (he:ajY (e::ay) X.env=(false,eval e X.env)::ajY ay X.env:=by rfl) (dJ:(ako pos (ajY ay X.env)).any (·.1)=false:=by rfl):d0 X (.Call (.Name x p) (e::ay) [] pos) (kE mf ms):=
 ⟨dK (DQ h aD a3 ao.un dA he dJ) Sk⟩
def ahb(h:bT X.prog X.w X.K X.mg X.base x ps k (bL X.K X.mg lI))(aD:cg k X.A)(a3:dD X x)(ao:j' X (e::ay) ms)(dA:(x==("__debug__":Str))=false:=by decide)
  (he:ajY (e::ay) X.env=(false,eval e X.env)::ajY ay X.env:=by rfl) (dJ:(ako pos (ajY ay X.env)).any (·.1)=false:=by rfl):d0 X (.Call (.Name x p) (e::ay) [] pos) (ts lI ms):=
 ⟨dK (DQ h aD a3 ao.un dA he dJ) λaq H Q aO=>by
  obtain⟨O,Y,S,r,ar,st,h,q⟩:=aO;obtain⟨rs,S1,ae,h⟩:=N.inv h;refine⟨O,Y,S,rs,S1,st,ae,λaH vs H1 g1 aP ba nn=>?_⟩;obtain rfl:=(lI _).d6 _ _ _ h;exact⟨aH,_,r,ar,aP.s3.b_,aP.s3.fJ,xb ba,h,λak v H' g d bH jo=>q ak v H' (g1.trans g.dz) (aP.go g d) bH (jo.dz g1)⟩⟩
end
end aE
namespace aE
open PySem PySem.Spec ax
def fk(c m:Str)(mf:bq)(mo:bf)(ms:cU):bf:=λY=>do
 let x <-mo Y
 let o <-fI x
 match o with
 |.bh c' fs=>if c'=c/\fs.lookup m=none then(do
  let rs <-ms Y
  mf (x.arg::rs.map R.arg))else bad
 |_=>bad
def zv(x:R)(o:hW):N Unit:=match x with
 |.v (.ref n)=>⟨λS=>.ok () (S.set n o)⟩
 |_=>gF
def ek(c f:Str)(mo:bf)(mv:cX):bt:=λY=>do
 let r <-mv Y
 let d <-r.dat.up
 let x <-(mo Y).up
 let o <-(fI x).up
 match o with
 |.bh c' fs=>if c'=c/\fs.length<1000 then(do
  zv x (.bh c (hP f d fs))
  pure (.bw Y))else gF
 |_=>gF
def agK(mo mk:bf)(mv:cX):bt:=λY=>do
 let r <-mv Y
 let d <-r.dat.up
 let x <-(mo Y).up
 let k <-(mk Y).up
 let o <-(fI x).up
 match o,k with
 | .nz aC,.v dH=>(match yB dH with
  |some key=>if aC.length<1000 then(do
   zv x (.nz (hx aC key d))
   pure (.bw Y))else gF
  |none=>gF)
 |_,_=>gF
def wx(mo:bf)(ms:cU)(mv:cX):bt:=λY=>do
 let r <-mv Y
 let d <-r.dat.up
 let x <-(mo Y).up
 let rs <-(ms Y).up
 let o <-(fI x).up
 match o,qy rs with
 |.e0 aC,some k=>(if rs.length<=1000/\aC.length<1000 then(do
  zv x (.e0 (hx aC k d))
  pure (.bw Y))else gF)
 |_,_=>gF
def wy(f:List D->List R->M (R×List D))(mo:bf)(ms:cU):bt:=λY=>do
 let x <-(mo Y).up
 let rs <-(ms Y).up
 let o <-(fI x).up
 match o with
 |.lst xs=>do
  let p <-(f xs rs).up
  zv x (.lst p.2)
  pure (.bw Y)
 |_=>gF
def tr(m:cX):cX:=λY=>do
 let r <-m Y
 match r with
 |.fr xs=>do
  let S <-xX
  putN (S++[.lst xs])
  pure (.v (.ref S.length))
 |_=>gF
variable[ax.aX]
def gY(O:a0)(p:Addr):a0:=⟨λb=>if b=p then .out else O b,O.bI++[p]⟩
section
variable{K:aM}{mg:a9}{O ak:a0}{H H':ah}{S ar:cJ}{Y:aQ}{aq:St}{p a:Addr}{o:hW}{n:Nat}{u u':f'}
omit [ax.aX]in
theorem n1(h:b≠p):gY O p b=O b:=if_neg h
omit [ax.aX]in
theorem aap:gY O p p=.out:=if_pos rfl
theorem K7(cM:c5 O H)(aL:p∉O.bI):iI (gY O p):=⟨ane.mpr ⟨cM.b9.1,by simp,λx ai y a'=>by rintro rfl;rw[akE.mp a']at ai;exact aL ai⟩,λa m=>by
 by_cases e:a=p
 .rw[e];exact aap
 .rw[n1 e];exact cM.b9.2 a ((alb.mp m).elim id λz=>absurd (akE.mp z) e)⟩
def c5.aaA(cM:c5 O H)(aL:H p=none):p∉O.bI:=λm=>cM.has p (by rw[cM.b9.2 p m];intro z;cases z) aL
theorem alloc(cM:c5 O H)(d3:fP K mg O H S)(aW:O.bI.length=S.length)(aL:H p=none)(lN:dy H H')(dw:H' p≠none)(bh:(∀d v,Rep K mg O H d v->Rep K mg (gY O p) H' d v)->mb K mg (gY O p) H' p o) :
  e3 O (gY O p) H H'/\c5 (gY O p) H'/\fP K mg (gY O p) H' (S++[o])/\(gY O p).bI.length=(S++[o]).length:=by
 have g:e3 O (gY O p) H H':=⟨λb o e _ n=>lN.at' b o e n,λb aa=>n1 (by rintro rfl;exact aa aL),λ_ h=>lN.some h,lN.cS,lN.b4,an2 _ _,λb m=>(alb.mp m).imp id λz=>by rw[akE.mp z];exact aL⟩;have f:∀d v,Rep K mg O H d v->Rep K mg (gY O p) H' d v:=λ_ _ z=>Rep.dz g cM.b9 z
 refine⟨g,⟨λb aa=>?_,lN.b4 cM.tabs,K7 cM (cM.aaA aL)⟩,λn c7 e=>?_,by rw[aj9,<-aW];exact aj9⟩
 .by_cases e:b=p
  .rw[e];exact dw
  .rw[n1 e]at aa;exact lN.some (cM.has b aa)
 .by_cases aF:n<S.length
  .rw[akt aF]at e
   obtain⟨a,ae,ag⟩:=d3 n c7 e;exact⟨a,by show(O.bI++[p])[n]? = _;rw[akt (by rw[aW];exact aF)];exact ae,ag.all f λu l n=>lN.at' _ _ l n⟩
  .rw[akq (by omega)]at e
   obtain rfl:n=S.length:=by
    have:=(aj1.mp e).1;simp at this;omega
   rw[alY]at e;cases e;exact⟨p,by show(O.bI++[p])[S.length]? = _;rw[<-aW,akq (aj8 _),alY];rfl,bh f⟩
def ea.write(st:ea K mg O Y S aq H)(aF:O.bI[n]? = some a)(cp:H a=some u)(mU:¬Fix u)(ae:∀ps,u≠.ft ps)(ag:∀q,u≠.ext (qa a q))(bh:(∀d v,Rep K mg O H d v->Rep K mg O (upd H a u') d v)->mb K mg O (upd H a u') a o) :
  e3 O O H (upd H a u')/\ea K mg O Y (S.set n o) aq (upd H a u'):=by
 have cA:=akQ aF;have b4:TabsOk H->TabsOk (upd H a u'):=λt=>t.put u' (λps z=>ae ps (aky (cp.symm.trans z))) (λq z=>ag q (aky (cp.symm.trans z)))
 have has:∀b,H b≠none->upd H a u' b≠none:=λb aa=>by
  by_cases e:b=a
  .rw[e,dn];intro z;cases z
  .rw[cG e];exact aa
 have g:e3 O O H (upd H a u'):=by
  refine⟨λb o e h _=>?_,λ_ _=>rfl,has,λb ps e=>⟨ps,?_⟩,b4,aoG _,λ_ m=>.inl m⟩
  .rw[cG]
   .exact e
   .rintro rfl
    rcases h with h|h
    .exact h cA
    .rw[cp]at e;cases e;exact mU h
  .rw[cG]
   .exact e
   .rintro rfl;rw[cp]at e;cases e;exact ae _ rfl
 have f:∀d v,Rep K mg O H d v->Rep K mg O (upd H a u') d v:=λ_ _ z=>Rep.dz g st.s3.b_.b9 z
 refine⟨g,st.dz g ⟨λb aa=>has b (st.s3.b_.has b aa),b4 st.s3.b_.tabs,st.s3.b_.b9⟩ (λk c7 e=>?_) (by rw[akL];exact st.full)⟩
 by_cases aB:n=k
 .subst aB
  rw[aks (by have:=(aj1.mp e).1;rwa[akL]at this)]at e;cases e;exact⟨a,aF,bh f⟩
 .rw[akk aB]at e
  obtain⟨b,aw,aG⟩:=st.s3.fJ k c7 e;refine⟨b,aw,aG.all f λu l _=>?_⟩;rw[cG]
  .exact l
  .rintro rfl
   obtain⟨bp,b2⟩:=aj1.mp aw;obtain⟨gG,vX⟩:=aj1.mp aF;exact aB ((List.getElem_inj st.s3.b_.b9.1).mp (vX.trans b2.symm))
theorem fN.dz(g:e3 O ak H H')(b9:iI O):∀{rs:List R}{vs:List V},rs.all R.hR=true->fN K mg O H rs vs->fN K mg ak H' rs vs
 |[],_,_,h=>h|_::_,_,az,h=>by
  rw[al6,akw]at az;obtain⟨y,r,q,a,b⟩:=h;exact⟨y,r,q,a.dz g b9 az.1,fN.dz g b9 az.2 b⟩
def sM{r:R}{v:V}(st:ct K mg O Y S aq H)(aD:ei K mg O H r v)(h:(fI r).run S=.ok o ar):∃n a,r=.v (.ref n)/\v=.ref a/\O.bI[n]? = some a/\S[n]? = some o/\mb K mg O H a o:=by
 obtain⟨n,rfl,e,rfl⟩:=Lb h;obtain⟨a,bx,gI⟩:=st.fJ n o e;obtain⟨b,dh,lK⟩:=aD;rw[bx]at lK;cases lK;exact⟨n,a,rfl,dh,bx,e,gI⟩
theorem dO.CY:∀{aC:List (Str×D)}{de:List (Str×V)},dO K mg O H aC de->aC.lookup f=none->de.lookup f=none
 |[],de,h,e=>by obtain rfl:=h.vI;rfl
 |p::aC,de,h,e=>by
  obtain⟨q,r,rfl,aw,aG,h'⟩:=h.cons;obtain⟨p1,cy⟩:=p;obtain⟨bp,b2⟩:=q;cases(show p1=bp from aw);rw[akH]at e ⊢
  cases dh:f==p1 with
  |true=>rw[dh]at e;cases e
  |false=>rw[dh]at e;exact dO.CY h' e
end
def zE(mg:a9)(c m:Str)(sp:dP)(bR:TE)(t:fj):TE:=λY H Q=>bR Y H λx H1=>∃a C bU fs,x=.ref a/\mg c=some (.ref C)/\H1 a=some (.ins C bU fs)/\fs.lookup m=none/\t Y H1 λvs aK=>sp (x::vs) aK Q hU
def Ak(t:TE):Prop:=∀Y H Q fM,(∀v H',Q v H'->fM v H')->t Y H Q->t Y H fM
def tm:Ak (e8 K mg m):=λaq H Q fM i ⟨O,Y,S,x,ar,st,h,q⟩=>⟨O,Y,S,x,ar,st,h,λak v H' g s p n=>i _ _ (q ak v H' g s p n)⟩
section
variable{X:aJ}{c m:Str}{ps:List Str}{k:Nat}{sp:dP}{o e:Expr}{ay:List Expr}{bR:TE}{t:fj}{apos pos:Pos}{mf:eY}{lI:bq}{mo:bf}{pm:cU}{ms:g8}
def Lx{pl:Sem Bool}(h:dq X.prog X.w X.K X.mg X.base c m ps k sp)(aD:cg k X.A)(up:Ak bR)(he:bM X o bR)(ao:gd X (e::ay) t)
  (eB:ajY (e::ay) X.env=(false,eval e X.env)::ajY ay X.env:=by rfl) (dJ:(ako pos (ajY ay X.env)).any (·.1)=false:=by rfl)
  (bC:eval (.Call (.Attribute o m apos) (e::ay) [] pos) X.env=(do
   let cx <-eval o X.env
   amc apos.atName
   let(f,first) <-alS [cx] (alU cx m pl)
   ame pos f first (ako pos (ajY (e::ay) X.env)) (alE pos (ak8 [] X.env))):=by rfl) :
  bM X (.Call (.Attribute o m apos) (e::ay) [] pos) (zE X.mg c m sp bR t):=by
 obtain⟨C,f,fd,eD,cl,me,F,b⟩:=h.ex;refine dK (abv (dvs:=[]) (ds:=[]) he cl me F aD b .nil sT ao eB dJ bC) λY H Q a6=>up _ _ _ _ (λv H1 z=>?_) a6
 obtain⟨a,i7,bU,fs,ev,jm,dw,hl,z⟩:=z;rw[eD]at jm;cases jm;refine⟨a,bU,fs,ev,dw,hl,?_⟩;simpa only[ak3]using z
def Ly{pl:Sem Bool}(h:dq X.prog X.w X.K X.mg X.base c m ps k sp)(aD:cg k X.A)(up:Ak bR)(he:bM X o bR)
  (bC:eval (.Call (.Attribute o m apos) [] [] pos) X.env=(do
   let cx <-eval o X.env
   amc apos.atName
   let(f,first) <-alS [cx] (alU cx m pl)
   ame pos f first (ako pos (ajY [] X.env)) (alE pos (ak8 [] X.env))):=by rfl) :
  bM X (.Call (.Attribute o m apos) [] [] pos) (zE X.mg c m sp bR wk):=by
 obtain⟨C,f,fd,eD,cl,me,F,b⟩:=h.ex;refine dK (abw (dvs:=[]) (ds:=[]) he cl me F aD b .nil sT bC) λY H Q a6=>up _ _ _ _ (λv H1 z=>?_) a6
 obtain⟨a,i7,bU,fs,ev,jm,dw,hl,z⟩:=z;rw[eD]at jm;cases jm;exact⟨a,bU,fs,ev,dw,hl,z⟩
def yY:∀aq H Q,e8 K mg (fk c m lI mo pm) aq H Q->zE mg c m (bL K mg lI) (e8 K mg mo) (m6 K mg pm) aq H Q:=by
 rintro aq H Q ⟨O,Y,S,r,ar,st,h,q⟩;obtain⟨x,S1,ae,h0⟩:=M.inv h;clear h;refine⟨O,Y,S,x,S1,st,ae,λaH es H1 g1 aP aU bw=>?_⟩;obtain⟨bh,a7,ag,h⟩:=M.inv h0;clear h0;obtain⟨n,a,rfl,rfl,bx,acm,gI⟩:=sM aP aU ag;obtain rfl:=(fI (.v (.ref n))).d6 _ _ _ ag;split at h
 .rename_i c' fs
  split at h
  .rename_i hc
   obtain⟨rfl,hm⟩:=hc;obtain⟨rs,gw,bO,h⟩:=M.inv h;obtain⟨C,bU,iP,dw,ci,hC⟩:=gI;refine⟨a,C,bU,iP,rfl,ci.1,dw,hC.CY hm,aH,Y,_,rs,gw,aP,bO,λa_ vs aK g2 cf ba nn=>?_⟩;obtain rfl:=(lI _).d6 _ _ _ h;exact⟨a_,.ref n::rs.map R.arg,r,ar,cf.b_,cf.fJ,⟨_,_,rfl,FK (ei.go g2 aU),xb ba⟩,h,λak v H' g d bH jo=>q ak v H' ((g1.trans g2).trans g) (cf.go g d) bH (jo.back (g1.trans g2).same)⟩
  .cases h
 .cases h
def af6{pl:Sem Bool}(h:dq X.prog X.w X.K X.mg X.base c m ps k (bL X.K X.mg lI))(aD:cg k X.A)(he:a5 X o mo)(ao:fQ X (e::ay) pm)
  (eB:ajY (e::ay) X.env=(false,eval e X.env)::ajY ay X.env:=by rfl) (dJ:(ako pos (ajY ay X.env)).any (·.1)=false:=by rfl)
  (bC:eval (.Call (.Attribute o m apos) (e::ay) [] pos) X.env=(do
   let cx <-eval o X.env
   amc apos.atName
   let(f,first) <-alS [cx] (alU cx m pl)
   ame pos f first (ako pos (ajY (e::ay) X.env)) (alE pos (ak8 [] X.env))):=by rfl):a5 X (.Call (.Attribute o m apos) (e::ay) [] pos) (fk c m lI mo pm):=
 ⟨dK (Lx h aD tm he.un ao.un eB dJ bC) yY⟩
def af7{pl:Sem Bool}(h:dq X.prog X.w X.K X.mg X.base c m ps k (bL X.K X.mg lI))(aD:cg k X.A)(he:a5 X o mo)
  (bC:eval (.Call (.Attribute o m apos) [] [] pos) X.env=(do
   let cx <-eval o X.env
   amc apos.atName
   let(f,first) <-alS [cx] (alU cx m pl)
   ame pos f first (ako pos (ajY [] X.env)) (alE pos (ak8 [] X.env))):=by rfl):a5 X (.Call (.Attribute o m apos) [] [] pos) (fk c m lI mo aj):=
 ⟨dK (Ly h aD tm he.un bC) λaq H Q a6=>tm _ _ _ _ (λv H1 z=>by
  obtain⟨a,C,bU,fs,aw,aG,c3,fS,O,Y,S,rs,S1,st,ae,q⟩:=z;cases ae;exact⟨a,C,bU,fs,aw,aG,c3,fS,q O [] H1 (Go.refl _ _) st rfl trivial⟩) (yY _ _ _ a6)⟩
def KV:∀aq H Q,tx K mg (fw c m mf mo ms) aq H Q->zE mg c m (dM K mg mf) (e8 K mg mo) (E7 K mg ms) aq H Q:=by
 rintro aq H Q ⟨O,Y,S,r,ar,st,h,q⟩;obtain⟨x,S1,ae,h0⟩:=N.inv h;clear h;obtain rfl:=(mo Y).d6 _ _ _ ae;refine⟨O,Y,S1,x,S1,st.s3,ae,λaH es H1 g1 aP aU bw=>?_⟩;have aeo:=st.go g1 aP.b_;obtain⟨bh,a7,ag,h⟩:=N.inv h0;clear h0;obtain⟨n,a,rfl,rfl,bx,acm,gI⟩:=sM aP aU ag;obtain rfl:=(fI (.v (.ref n))).d6 _ _ _ ag;split at h
 .rename_i c' fs
  split at h
  .rename_i hc
   obtain⟨rfl,hm⟩:=hc;obtain⟨rs,gw,bO,h⟩:=N.inv h;obtain⟨C,bU,iP,dw,ci,hC⟩:=gI;split at h
   .rename_i eB
    refine⟨a,C,bU,iP,rfl,ci.1,dw,hC.CY hm,aH,Y,_,rs,gw,aeo,bO,λa_ vs aK g2 cf ba nn=>?_⟩;have Ik:=g1.dz.trans g2;exact⟨a_,.ref n::rs.map R.arg,r,gw,ar,cf.s3.b_,cf.s3.fJ,cf.full,⟨_,_,rfl,Rep.dz g2 aP.b_.b9 aU,xa cf.s3.b_.b9 eB ba⟩,h,λak v H' g d d3 aW bH jo=>q ak v H' (Ik.trans g) (cf.dz g d d3 aW) bH (jo.dz Ik)⟩
   .cases h
  .cases h
 .cases h
def ag5{pl:Sem Bool}(h:dq X.prog X.w X.K X.mg X.base c m ps k (dM X.K X.mg mf))(aD:cg k X.A)(he:a5 X o mo)(ao:j' X (e::ay) ms)
  (eB:ajY (e::ay) X.env=(false,eval e X.env)::ajY ay X.env:=by rfl) (dJ:(ako pos (ajY ay X.env)).any (·.1)=false:=by rfl)
  (bC:eval (.Call (.Attribute o m apos) (e::ay) [] pos) X.env=(do
   let cx <-eval o X.env
   amc apos.atName
   let(f,first) <-alS [cx] (alU cx m pl)
   ame pos f first (ako pos (ajY (e::ay) X.env)) (alE pos (ak8 [] X.env))):=by rfl):d0 X (.Call (.Attribute o m apos) (e::ay) [] pos) (fw c m mf mo ms):=
 ⟨dK (Lx h aD tm he.un ao.un eB dJ bC) KV⟩
def ag6{pl:Sem Bool}(h:dq X.prog X.w X.K X.mg X.base c m ps k (dM X.K X.mg mf))(aD:cg k X.A)(he:a5 X o mo)
  (bC:eval (.Call (.Attribute o m apos) [] [] pos) X.env=(do
   let cx <-eval o X.env
   amc apos.atName
   let(f,first) <-alS [cx] (alU cx m pl)
   ame pos f first (ako pos (ajY [] X.env)) (alE pos (ak8 [] X.env))):=by rfl):d0 X (.Call (.Attribute o m apos) [] [] pos) (fw c m mf mo rk):=
 ⟨dK (Ly h aD tm he.un bC) λaq H Q a6=>tm _ _ _ _ (λv H1 z=>by
  obtain⟨a,C,bU,fs,aw,aG,c3,fS,O,Y,S,rs,S1,st,ae,q⟩:=z;cases ae;exact⟨a,C,bU,fs,aw,aG,c3,fS,q O [] H1 (Go.refl _ _).dz st rfl trivial⟩) (KV _ _ _ a6)⟩
theorem ag4{fs:List Str}{p:Pos}(T:oy X.K X.mg c fs)(h:dq X.prog X.w X.K X.mg X.base c "__init__" ps k (dM X.K X.mg mf))(aD:cg (k+1) X.A)(a3:dD X c)(ao:j' X (e::ay) ms)(dA:(c==("__debug__":Str))=false:=by decide)
  (he:ajY (e::ay) X.env=(false,eval e X.env)::ajY ay X.env:=by rfl) (dJ:(ako pos (ajY ay X.env)).any (·.1)=false:=by rfl):d0 X (.Call (.Name c p) (e::ay) [] pos) (zT c mf ms):=by
 obtain⟨C,f,fd,eD,cl,me,F,b⟩:=h.ex;obtain⟨i7,jm,_,⟨mk,kp⟩,_⟩:=T.ex;rw[eD]at jm;cases jm;refine⟨dK (abu (dvs:=[]) (ds:=[]) ⟨mk,me.at_,me.fn,kp⟩ F aD a3 eD b .nil sT ao.un dA he dJ) λaq H Q aO=>?_⟩;obtain⟨O,Y,S,r,ar,st,h,q⟩:=aO;obtain⟨rs,S1,ae,h0⟩:=N.inv h;clear h;refine⟨O,Y,S,rs,S1,st,ae,λaH vs H1 g1 aP ba nn a bU ao Xj aaf=>?_⟩;split at h0
 .rename_i eB
  obtain⟨hJ,a7,ag,aa⟩:=N.inv h0;clear h0;cases ag;obtain⟨_,gw,bO,hc⟩:=N.inv aa;clear aa;cases bO;obtain⟨b5,ni,cO,h⟩:=N.inv hc;clear hc;have lN:dy H1 (upd (upd H1 bU (.own a)) a (.ins C bU [])):=(i2 Xj _).trans (i2 (by rw[cG (alR aaf)];exact ao) _);obtain⟨g2,dT,wb,Ia⟩:=alloc (o:=.bh c []) aP.s3.b_ aP.s3.fJ aP.full ao lN (by rw[dn];intro z;cases z) λ_=>⟨C,bU,[],dn,⟨eD,cl⟩,rfl,rfl⟩
  rw[ak3];have Cc:(gY aH a).bI[S1.length]? = some a:=by show(aH.bI++[a])[S1.length]? = _;rw[<-aP.full,akq (aj8 _),alY];rfl
  have uz:=g1.trans g2;refine⟨gY aH a,.ref S1.length::rs.map R.arg,b5,_,ni,dT,wb,Ia,⟨_,_,rfl,⟨a,rfl,Cc⟩,?_⟩,cO,λak v H' g d d3 aW bH jo=>?_⟩
  .exact xa dT.b9 eB (fN.dz g2 aP.s3.b_.b9 eB ba)
  .split at h
   .cases h
    refine⟨bH,q ak _ H' (uz.trans g) ((aP.dz g2 dT wb Ia).dz g d d3 aW) ⟨a,rfl,?_⟩ trivial⟩;obtain⟨t,e⟩:=g.bI;rw[<-e,akt (aj1.mp Cc).1];exact Cc
   .cases h
 .cases h0
end
end aE
namespace aE
open PySem PySem.Spec ax PyProof.Rows
@[reducible] def yr:apd where
 α:=Int
 blt a b:=decide (a<b)
 irrefl a:=by simp
 trans a b c ae ag:=by simp only[decide_eq_true_eq]at *;omega
 negTrans a b c h:=by simp only[decide_eq_true_eq]at *;omega
 total a b ae ag:=by simp only[decide_eq_false_iff_not]at *;omega
 keyOf v:=match v with|.int i _=>some i|_=>none
 dflt:=0
def Yu:yr.OneLt:=by
 intro prog w A E s x y a b Q ao aa h;cases x<;>simp only[yr,reduceCtorEq,apq]at ao
 cases y<;>simp only[yr,reduceCtorEq,apq]at aa
 cases ao;cases aa;exact oneLt_int h
structure hV where
 κ:apd
 dH:κ.α->D
 un:D->Option κ.α
structure hV.Ok(Z:hV):Prop where
 one:Z.κ.OneLt
 tl:∀d a,Z.un d=some a->d=Z.dH a
 key:∀(a:Z.κ.α)(K:aM)(mg:a9)(O:a0)(H:ah)(v:V)(u:Value),Rep K mg O H (Z.dH a) v->RelV v u->Z.κ.keyOf u=some a
 kind:∀(pU pV:Value)(vs:List Value),(∀v∈pU::pV::vs,∃a,Z.κ.keyOf v=some a)->keyKind' (pU::pV::vs).toArray=pure oneType'
@[reducible] def fp:hV where
 κ:=yr
 dH:=D.int
 un d:=match d with|.int i=>some i|_=>none
@[reducible] def lu:hV where
 κ:=ape
 dH:=λl=>D.str ⟨l.toArray⟩
 un d:=match d with|.str x=>some x.cps.toList|_=>none
def Zm:fp.Ok where
 one:=Yu
 tl:=λd a h=>by cases d<;>first|(cases h;rfl)|cases h
 key:=λa K mg O H v u h r=>by
  cases(show v=.int a from h);obtain⟨t,rfl⟩:=r;rfl
 kind:=λpU pV vs h=>by
  refine keyKind_ints (ns:=(pU::pV::vs).map numOf) (intsAre_map _ λv bu=>?_);obtain⟨a,ao⟩:=h v bu;cases v<;>first|(cases ao;exact⟨_,_,rfl⟩)|cases ao
def Zn:lu.Ok where
 one:=strKind_oneLt
 tl:=λd a h=>by cases d<;>first|(cases h;rfl)|cases h
 key:=λa K mg O H v u h r=>by
  cases(show v=.str ⟨a.toArray⟩from h);obtain⟨t,rfl⟩:=r;rfl
 kind:=λpU pV vs h=>by
  have key:∀(l:List Value),(∀v∈l,∃a,ape.keyOf v=some a)->∃ss,StrsAre l ss:=λl=>by
   induction l with
   |nil=>exact λ_=>⟨[],.nil⟩
   |cons v l aZ=>
    intro h;obtain⟨ss,az⟩:=aZ λw hw=>h w (akg _ hw)
    obtain⟨a,ao⟩:=h v akh;cases v<;>first|exact⟨_::ss,.cons _ _ az⟩|cases ao
  obtain⟨ss,az⟩:=key _ h;exact keyKind_strs az
section
variable{β:Type}
def si(blt:β->β->Bool)(p:β×D):List (β×D)->List (β×D)
 |[]=>[p]
 |q::r=>if blt q.1 p.1 then q::si blt p r else p::q::r
def jV(blt:β->β->Bool):List (β×D)->List (β×D)
 |[]=>[]
 |p::r=>si blt p (jV blt r)
theorem Co(blt:β->β->Bool)(p:β×D):∀l,(si blt p l).Perm (p::l)
 |[]=>.refl _|q::r=>by
  unfold si;split
  .exact((Co blt p r).cons q).trans (.swap p q r)
  .exact .refl _
theorem zw(blt:β->β->Bool):∀l,(jV blt l).Perm l
 |[]=>.refl _|p::r=>(Co blt p _).trans ((zw blt r).cons p)
end
theorem JA(O:alH)(p:O.α×D):∀l:List (O.α×D),l.Pairwise (λa b=>O.blt a.1 b.1=true)->(∀q∈l,q.1≠p.1)->(si O.blt p l).Pairwise (λa b=>O.blt a.1 b.1=true)
 |[],_,_=>List.pairwise_singleton _ _|q::r,h,aF=>by
  rw[alZ]at h;unfold si
  cases e:O.blt q.1 p.1 with
  |true=>
   rw[if_pos rfl,alZ];refine⟨λx ai=>?_,JA O p r h.2 λx ai=>aF x (akg _ ai)⟩;rcases aj5.mp ((Co O.blt p r).mem_iff.mp ai)with rfl|ai
   .exact e
   .exact h.1 x ai
  |false=>
   rw[if_neg aj7,alZ,alZ];have Jl:O.blt p.1 q.1=true:=by
    cases aG:O.blt p.1 q.1 with
    |true=>rfl|false=>exact absurd (O.total _ _ e aG) (aF q akh)
   refine⟨λx ai=>?_,h.1,h.2⟩;rcases aj5.mp ai with rfl|ai
   .exact Jl
   .exact O.trans _ _ _ Jl (h.1 x ai)
theorem Ek(O:alH):∀l:List (O.α×D),(l.map (·.1)).Nodup->(jV O.blt l).Pairwise (λa b=>O.blt a.1 b.1=true)
 |[],_=>.nil|p::r,h=>by
  rw[akb,alw]at h;refine JA O p _ (Ek O r h.2) λq a6 e=>h.1 ?_
  rw[<-e];exact amS ((zw O.blt r).mem_iff.mp a6)
theorem Md{Ff:Type}{lt:Ff->Ff->Prop}(JD:∀a,¬lt a a)(i3:∀a b c,lt a b->lt b c->lt a c):∀{pj l₂:List Ff},pj.Perm l₂->pj.Pairwise lt->l₂.Pairwise lt->pj=l₂
 |[],l₂,p,_,_=>(List.nil_perm.mp p).symm|a::pj,[],p,_,_=>(List.nil_perm.mp p.symm)
 |a::pj,b::l₂,p,ae,ag=>by
  rw[alZ]at ae ag;have e:a=b:=by
   rcases aj5.mp (p.mem_iff.mp akh)with h|h
   .exact h
   .rcases aj5.mp (p.mem_iff.mpr akh)with h'|h'
    .exact h'.symm
    .exact(JD _ (i3 _ _ _ (ae.1 b h') (ag.1 a h))).elim
  subst e;rw[Md JD i3 (List.Perm.cons_inv p) ae.2 ag.2]
def NL(O:alH){l ps:List (O.α×D)}(aF:(l.map (·.1)).Nodup)(aL:ps.Perm l)(az:ps.Pairwise (λa b=>O.blt a.1 b.1=true)):ps=jV O.blt l:=
 Md (lt:=λa b=>O.blt a.1 b.1=true) (λa=>by rw[O.irrefl];exact aj7) (λa b c=>O.trans _ _ _) (aL.trans (zw O.blt l).symm) az (Ek O l aF)
def aen(O:alH){ps:List (O.α×D)}(aF:(ps.map (·.1)).Nodup)(h:ps.Pairwise (λa b=>O.blt b.1 a.1=false)):ps.Pairwise (λa b=>O.blt a.1 b.1=true):=by
 induction ps with
 |nil=>exact .nil|cons p r aZ=>
  rw[akb,alw]at aF;rw[alZ]at h ⊢;refine⟨λq a6=>?_,aZ aF.2 h.2⟩
  cases e:O.blt p.1 q.1 with
  |true=>rfl| false=>exact absurd (amS (f:=λx:O.α×D=>x.1) a6) (by rw[<-O.total _ _ e (h.1 q a6)];exact aF.1)
end aE
namespace aE
open PySem PySem.Spec ax PyProof.Rows
variable[ax.aX]
def nd(X:aJ)(k:Nat)(f:Addr)(G:ah->Prop)(mf:bq):Prop:=
 (∀H H',dy H H'->G H->G H')/\(∀H p zs o,H p=some (.lst zs)->G H->G (upd H p o))/\∀(A:akm)(s:aj0)(H:ah)(u:Value)(v:V)(Q:cD),cg k A->j2 X.prog X.w X.K X.mg X.base A X.stack s H->G H->RelV v u->bL X.K X.mg mf [v] H Q hU->
  amd (model X.prog X.w) A (.call (.ref f) ⟨[u],[]⟩) (Fm eh X.stack X.prog X.w H s Q hU) s
def lstP(a:Addr)(e:Nat):Heap->Prop:=λh=>h.get? a=some (ak1 "list" #[] e)
structure p2(X:aJ)(zn:cC)(Y:ax.St)(G:ah->Prop)(O:a0)(H:ah)(a dx:Addr)(aw:Nat)(ks:List D)(s':aj0):Prop where
 ex:∃ak H' ys,Inv X zn Y H' s'/\Go O ak H H'/\c5 ak H'/\G H'/\H' a=some (.ext (lstP a aw))/\H' dx=some (.lst ys)/\a8 X.K X.mg ak H' ks ys/\ak dx=.dB
 na:a∉O.bI
section
variable{X:aJ}{zn:cC}{Y:ax.St}{H:ah}{s:aj0}{G:ah->Prop}{mf:bq}{f a dx:Addr}{k:Nat}{O:a0}{aw:Nat}
def ZN{H:ah}{h:Heap}(e:h.get? a=some (ak1 "list" #[] aw)):fL prog w H h a (.ext (lstP a aw)):=
 ⟨e,⟨_,e⟩,λae ag p q=>q _ p⟩
def H6{H':ah}(I:Inv X zn Y H' s')(ao:H' a=some (.ext (lstP a aw)))(q:Str):H' a≠some (.ext (qa a q)):=λz=>by
 obtain⟨p,_⟩:=I.bA a _ ao;obtain⟨cy,_⟩:=I.bA a _ z;obtain⟨c,o,vs,t,aw,aG,c3,_⟩:=cy;cases aw;have p:s'.heap.get? a=_:=p;rw[p]at aG;cases aG;cases c3
def Ze{ks:List D}{v:V}(ec:nd X k f G mf)(aD:cg k X.A.in1.in1)(lb:H a=none)(lg:H dx=none)(nF:dx≠a)(cR:Rep X.K X.mg O H d v)(ed:RelV v u)(hd:(mf [d]).run []=.ok (.v iu) [])(kj:ks.length<64)(S:p2 X zn Y G O H a dx aw ks s') :
  wpAny (model X.prog X.w) X.A.in1.in1 (call (.ref f) [u]) (λu' s2=>∃(ak:a0)(H':ah)(ys:List V)(fg:V),Inv X zn Y H' s2/\Go O ak H H'/\c5 ak H'/\G H'/\H' a=some (.ext (lstP a aw))/\H' dx=some (.lst ys)/\a8 X.K X.mg ak H' ks ys/\Rep X.K X.mg ak H' iu fg/\RelV fg u'/\ak dx=.dB) (λ_ _=>False) s':=by
 obtain⟨aH,H1,ys,aV,g1,kR,oC,ao,aB,bx,vR⟩:=S.ex;refine aop (amg (ec.2.2 X.A.in1.in1 s' H1 u v (λfg H'=>∃ak,Go aH ak H1 H'/\c5 ak H'/\Rep X.K X.mg ak H' iu fg) aD aV.rZ.in1.in1 oC ed ?_) λr s2 a6=>?_)
 .refine⟨aH,[d],.v iu,[],kR,fP.nil,⟨v,[],rfl,?_,rfl⟩,hd,λak fg H' g cM ba _=>⟨ak,g,cM,ba⟩⟩
  have D9:=cR.go g1;cases d<;>first|exact D9|exact akv D9|skip
  obtain⟨x,zs,q,l,r⟩:=D9;exact⟨x,zs,q,l.dv,r⟩
 .cases r with
  |error e=>exact akv a6|ok aW=>
   cases aW with
   |ret u'=>
    obtain⟨fg,aK,bS,bG,a_,g2,dT,b5⟩:=aV.after a6;exact⟨a_,aK,ys,fg,bS,g1.trans g2,dT,ec.1 _ _ g2.same oC,g2.same.at' _ _ ao,g2.same.at' _ _ aB,bx.go g2,b5,bG,(g2.own dx (by rw[aB];intro z;cases z)).trans vR⟩
   |next=>exact akv a6
   |brk=>exact akv a6|cont=>exact akv a6
def aee{Z:hV}(jh:Z.Ok){ds:List D}{cN:List Z.κ.α}{xs:List V}{us:List Value}{P:Fin->aj0->Prop}{E:b'}(ec:nd X k f G mf)(aD:cg k X.A.in1.in1)(lb:H a=none)(lg:H dx=none)(nF:dx≠a)
  (bx:a8 X.K X.mg O H ds xs) (bG:Vals xs us) (kj:∀(i:Nat)(d:D),ds[i]? = some d->∃κ,cN[i]? = some κ/\(mf [d]).run []=.ok (.v (Z.dH κ)) []) (hlen:cN.length=ds.length) (k6:ds.length<64) (S:p2 X zn Y G O H a dx aw [] s)
  (fin:∀(s':aj0)(keys:Array Value),p2 X zn Y G O H a dx aw (cN.map Z.dH) s'->keys.toList.map Z.κ.keyOf=cN.map some->wpAny (model X.prog X.w) X.A.in1.in1 (ksk_end a false us.toArray aw (.ref dx) keys) P E s') :
  wpAny (model X.prog X.w) X.A.in1.in1 (ksk_rest a (.ref f) false us.toArray aw (.ref dx)) P E s:=by
 have ZQ:=bx.len;have C0:=bG.length;unfold ksk_rest;refine ajX (aor ?_)
 first
  |rw[List.forIn_toArray]
  |(rw[<-Array.forIn_toList];simp only[List.toList_toArray])
  |rw[<-Array.forIn_toList]
 refine ajX (ksk_fold (λi s'=>p2 X zn Y G O H a dx aw ((cN.take i).map Z.dH) s') us 0 s (by rw[ao7];exact S) ?step ?done)
 case step=>
  intro j u s' cp ar;simp only[Nat.zero_add]at ar ⊢;have aR:j<us.length:=(aj1.mp cp).1;obtain⟨v,bu,ed⟩:∃v,xs[j]? = some v/\RelV v u:=by
   have bu:xs[j]? = some xs[j]:=akR (by omega);obtain⟨u',sg,r⟩:=bG.get bu;rw[cp]at sg;cases sg;exact⟨_,bu,r⟩
  obtain⟨d,hd,cR⟩:=bx.Iu bu;obtain⟨κ,Yh,hm⟩:=kj j d hd;have hz:((cN.take j).map Z.dH).length<64:=by rw[aj2,amh];omega
  refine ajX (aoe (akB (Ze ec aD lb lg nF cR ed hm hz ar) (λu' s2 he=>?_) λ_ _ c0=>c0.elim));obtain⟨a_,aK,ys,fg,bS,g2,dT,z',uJ,jM,s7,ack,v8,sQ⟩:=he
  try dsimp only
  obtain⟨hsz,its,n,vals,h2⟩:=bS.bA dx _ jM;have XG:its.length=(cN.take j).length:=by rw[<-vals.length,s7.len,aj2]
  have ajg:its.length<64:=by rw[XG,amh];omega
  have s1:=alf s2.heap dx (akC (·.push u'));obtain⟨av,hb⟩:∃av,(s2.heap.update dx (akC (·.push u'))).get? dx=some (ak1 "list" (its.toArray.push u') av):=⟨_,amv h2 (·.push u')⟩;refine ajX (aof h2 rfl ?_ (by rw[akd,akK];omega) (akS (amF (Array.size_push ..)) (by rw[akd,akK];omega)));refine aj4 ⟨rfl,⟨⟨a_,upd aK dx (.lst (ys++[fg])),ys++[fg],?_,⟨tn lg g2.same jM _,g2.own,g2.bI⟩,dT.ef jM,ec.2.1 _ _ _ _ jM z',by rw[cG nF.symm];exact uJ,dn,?_,sQ⟩,ar.na⟩⟩
  .refine bS.write (x:=dx) (e:=dx) (t':=s2.toks) (by rw[jM];trivial) (.inl rfl) (λb o aa e=>(s1.2 b aa).trans e) ⟨_,hb⟩ ⟨?_,its++[u'],av,vals.append (.cons v8 .nil),?_⟩
   .rw[aj9,vals.length];rw[akK];simp;omega
   .rw[hb];simp[ak1]
  .have gT:cN.take (j+1)=cN.take j++[κ]:=by rw[List.take_add_one,Yh];rfl
   rw[gT,aln];exact(s7.append (.one ack)).ef (by rw[sQ];intro z;cases z) jM
 case done=>
  intro s' ar;have c3:cN.take (0+us.length)=cN:=amA (by omega);rw[c3]at ar;obtain⟨a_,aK,ys,bS,g2,dT,z',uJ,jM,s7,sQ⟩:=id ar.ex;obtain⟨hsz,its,n,vals,h2⟩:=bS.bA dx _ jM;refine ajX (listItems_at h2 rfl ?_);refine fin s' its.toArray ar ?_;have key:∀(cN:List Z.κ.α)(ys:List V)(its:List Value),a8 X.K X.mg a_ aK (cN.map Z.dH) ys->Vals ys its->its.map Z.κ.keyOf=cN.map some:=by
   intro cN
   induction cN with
   |nil=>intro ys its h r;cases h;cases r;rfl
   |cons κ cN aZ=>
    intro ys its h r;obtain⟨y,t,rfl,ae,ag⟩:=h
    cases r with
    |cons bF b5=>
     rw[akb,akb,aZ _ _ ag b5,jh.key κ _ _ _ _ _ _ ae bF]
  exact key _ _ _ s7 vals
end
end aE
namespace aE
open PySem PySem.Spec ax PyProof.Rows
def abC{α β:Type}(f:α->β):∀{L M:List β},L.Perm M->∀{Q:List α},M=Q.map f->∃fM:List α,fM.Perm Q/\L=fM.map f:=by
 intro L M h
 induction h with
 |nil=>
  intro Q e
  cases Q with
  |nil=>exact⟨[],.refl _,rfl⟩|cons q Q=>cases e
 |cons x _ aZ=>
  intro Q e
  cases Q with
  |nil=>cases e
  |cons q Q=>
   rw[akb]at e;injection e with aw aG
   obtain⟨fM,p,c3⟩:=aZ aG;exact⟨q::fM,p.cons q,by rw[aw,c3];rfl⟩
 |swap x y l=>
  intro Q e
  cases Q with
  |nil=>cases e
  |cons q Q=>
   cases Q with
   |nil=>rw[akb]at e;injection e with _ aG;cases aG
   |cons r Q=>
    rw[akb,akb]at e;injection e with aw aG
    injection aG with aG c3
    exact⟨r::q::Q,.swap _ _ _,by rw[aw,aG,c3];rfl⟩
 |trans _ _ u2 u3=>
  intro Q e;obtain⟨ahY,p1,aw⟩:=u3 e;obtain⟨Pb,cy,aG⟩:=u2 aw;exact⟨Pb,cy.trans p1,aG⟩
variable[ax.aX]
abbrev w3(Z:hV):=(Value×Value)×(Z.κ.α×(D×V))
section
variable{K:aM}{mg:a9}{O:a0}{H:ah}{Z:hV}
def ab3{ds:List D}:∀{xs:List V}{us keys:List Value}{cN:List Z.κ.α},a8 K mg O H ds xs->Vals xs us->keys.map Z.κ.keyOf=cN.map some->cN.length=ds.length->
  ∃Q:List (w3 Z),Q.map (·.1)=keys.zip us/\Q.map (λq=>(q.2.1,q.2.2.1))=cN.zip ds/\∀q∈Q,Z.κ.keyOf q.1.1=some q.2.1/\Rep K mg O H q.2.2.1 q.2.2.2/\RelV q.2.2.2 q.1.2:=by
 induction ds with
 |nil=>
  intro xs us keys cN h r e l;cases h;cases r;rw[aoP.mp l]at e ⊢;have:keys=[]:=by cases keys with|nil=>rfl|cons=>cases e
  subst this;exact⟨[],rfl,rfl,λ_ h=>(nomatch h)⟩
 |cons d ds aZ=>
  intro xs us keys cN h r e l;obtain⟨x,t,rfl,ae,ag⟩:=h
  cases r with
  |@cons _ u _ us bF b5=>
   cases cN with
   |nil=>cases l
   |cons κ cN=>
    cases keys with
    |nil=>cases e
    |cons kv keys=>
     rw[akb,akb]at e;injection e with aw aG
     obtain⟨Q,bp,b2,gG⟩:=aZ ag b5 aG (by simpa using l);refine⟨((kv,u),(κ,(d,x)))::Q,?_,?_,λq a6=>?_⟩
     .rw[akb,bp];rfl
     .rw[akb,b2];rfl
     .rcases aj5.mp a6 with rfl|a6
      .exact⟨aw,ae,bF⟩
      .exact gG q a6
theorem L9{α:Type}(f:α->D)(g:α->V):∀l:List α,(∀q∈l,Rep K mg O H (f q) (g q))->a8 K mg O H (l.map f) (l.map g)
 |[],_=>rfl|q::l,h=>⟨_,_,rfl,h q akh,L9 f g l λx ai=>h x (akg _ ai)⟩
omit [ax.aX]in
theorem Ol{α:Type}(f:α->V)(g:α->Value):∀l:List α,(∀q∈l,RelV (f q) (g q))->Vals (l.map f) (l.map g)
 |[],_=>.nil|q::l,h=>.cons (h q akh) (Ol f g l λx ai=>h x (akg _ ai))
def sorted_out{ds:List D}{xs:List V}{us:List Value}{keys:Array Value}{cN:List Z.κ.α}(bx:a8 K mg O H ds xs)(bG:Vals xs us)(aB:keys.toList.map Z.κ.keyOf=cN.map some)(hl:cN.length=ds.length)(aF:cN.Nodup)
  {eb:Array Keyed}(aL:eb.Perm (keys.zip us.toArray)) (az:SortedToK Z.κ eb eb.size) :
  ∃ys,Vals ys (eb.map (·.2)).toList/\ys.length=ds.length/\a8 K mg O H ((jV Z.κ.blt (cN.zip ds)).map (·.2)) ys:=by
 obtain⟨Q,bp,b2,gG⟩:=ab3 bx bG aB hl;have nO:eb.toList.Perm (Q.map (·.1)):=by
  rw[bp,<-ksk_zip];exact Array.perm_iff_toList_perm.mp aL
 obtain⟨fM,jS,bZ⟩:=abC (λq:w3 Z=>q.1) nO rfl;have D6:∀q∈fM,Z.κ.keyOf q.1.1=some q.2.1/\Rep K mg O H q.2.2.1 q.2.2.2/\RelV q.2.2.2 q.1.2:=λq a6=>gG q (jS.mem_iff.mp a6)
 have m_:(cN.zip ds).map (·.1)=cN:=by rw[List.map_fst_zip];omega
 have perm:(fM.map λq=>(q.2.1,q.2.2.1)).Perm (cN.zip ds):=by rw[<-b2];exact jS.map _
 have fT:((fM.map λq:w3 Z=>(q.2.1,q.2.2.1)).map (·.1)).Nodup:=by
  have:=perm.map (λp:Z.κ.α×D=>p.1);rw[m_]at this;exact this.nodup_iff.mpr aF
 have aei:(fM.map λq:w3 Z=>(q.2.1,q.2.2.1)).Pairwise (λa b=>Z.κ.blt b.1 a.1=false):=by
  rw[List.pairwise_map,List.pairwise_iff_getElem];intro i j aA aR Jd;have J':eb.toList.length=fM.length:=by rw[bZ,aj2]
  have jL:i<eb.size:=by rw[akN]at J';omega
  have Je:j<eb.size:=by rw[akN]at J';omega
  have:=az i j (akZ Jd) Je;have at':∀(m:Nat)(hm:m<fM.length)(XP:m<eb.size),KK Z.κ eb m=fM[m].2.1:=λm hm XP=>by
   have aw:eb[m]? = some fM[m].1:=by
    have:eb.toList[m]? = some fM[m].1:=by rw[bZ,akD,akR hm];rfl
    rwa[ao9]at this
   unfold KK;rw[aw];show(Z.κ.keyOf fM[m].1.1).getD Z.κ.dflt=_;rw[(D6 _ (aoE hm)).1];rfl
  rw[at' i aA jL,at' j aR Je]at this;exact this
 have one:=NL Z.κ.toKeyOrd (by rw[m_];exact aF) perm (aen Z.κ.toKeyOrd fT aei);refine⟨fM.map λq=>q.2.2.2,?_,?_,?_⟩
 .have:(eb.map (·.2)).toList=fM.map λq=>q.1.2:=by
   rw[Array.toList_map,bZ,anF];rfl
  rw[this];exact Ol _ _ _ λq a6=>(D6 q a6).2.2
 .rw[aj2,jS.length_eq]
  have:=congrArg alA b2;rw[aj2,aoW,hl,Nat.min_self]at this;exact this
 .rw[<-one,anF]
  exact L9 _ _ _ λq a6=>(D6 q a6).2.1
end
section
variable{X:aJ}{zn:cC}{Y:ax.St}{H:ah}{s:aj0}{G:ah->Prop}{a dx:Addr}{O:a0}{aw:Nat}{Z:hV}{ds:List D}{cN:List Z.κ.α}{xs:List V}{us:List Value}{E:b'}{keys:Array Value}
def Ah(X:aJ)(zn:cC)(Y:ax.St)(O:a0)(H:ah)(a:Addr)(out:List D)(s':aj0):Prop:=
 ∃ak H' ys,Inv X zn Y H' s'/\Go O ak H H'/\c5 ak H'/\H' a=some (.lst ys)/\ak a=.dB/\a8 X.K X.mg ak H' out ys
def NM{A:akm}{st:SortSt}(lb:H a=none)(lg:H dx=none)(nF:dx≠a)(bx:a8 X.K X.mg O H ds xs)(bG:Vals xs us)(aB:keys.toList.map Z.κ.keyOf=cN.map some)(hl:cN.length=ds.length)(aF:cN.Nodup)(k6:ds.length<64)
  (S:p2 X zn Y G O H a dx aw (cN.map Z.dH) s) (aL:(arrOf st).Perm (keys.zip us.toArray)) (az:SortedToK Z.κ (arrOf st) (arrOf st).size) (Xz:failedOf st=none) :
  wpAny (model X.prog X.w) A (ksk_tail a false aw (.ref dx) st) (λr s'=>r=.done (.ret .none)/\Ah X zn Y O H a ((jV Z.κ.blt (cN.zip ds)).map (·.2)) s') E s:=by
 obtain⟨a_,aK,ajV,bS,g2,dT,z',uJ,jM,s7,sQ⟩:=S.ex;obtain⟨_,its,n,vals,h2⟩:=bS.bA dx _ jM;have XC:s.heap.get? a=some (ak1 "list" #[] aw):=(bS.bA a _ uJ).1;obtain⟨zs,ON,m_,ahO⟩:=sorted_out bx bG aB hl aF aL az;have hsz:(arrOf st).size=ds.length:=by
  have ae:=ON.length;have ag:((arrOf st).map (·.2)).toList.length=(arrOf st).size:=by rw[akN,Array.size_map]
  omega
 have ajo:its.length=ds.length:=by rw[<-vals.length,s7.len,aj2,hl]
 have s1:=alf s.heap dx (akC λ_=>(#[]:Array Value));obtain⟨bE,I4⟩:∃bE,(s.heap.update dx (akC λ_=>(#[]:Array Value))).get? dx=some (ak1 "list" #[] bE):=⟨_,amv h2 λ_=>#[]⟩;have Di:(s.heap.update dx (akC λ_=>(#[]:Array Value))).get? a=some (ak1 "list" #[] aw):=(s1.2 a nF.symm).trans XC;have dr:Inv X zn Y (upd aK dx (.lst [])) { s with heap:=s.heap.update dx (akC λ_=>(#[]:Array Value)) }:=
  bS.write (x:=dx) (e:=dx) (t':=s.toks) (by rw[jM];trivial) (.inl rfl) (λb o aa e=>(s1.2 b aa).trans e) ⟨_,I4⟩ ⟨akA _,[],bE,.nil,I4⟩
 have s2:=alf (s.heap.update dx (akC λ_=>(#[]:Array Value))) a (akC λ_=>(arrOf st).map (·.2));obtain⟨av,hb⟩:∃av,((s.heap.update dx (akC λ_=>(#[]:Array Value))).update a (akC λ_=>(arrOf st).map (·.2))).get? a=some (ak1 "list" ((arrOf st).map (·.2)) av):=⟨_,amv Di λ_=>(arrOf st).map (·.2)⟩;have qk:upd aK dx (.lst []) a=some (.ext (lstP a aw)):=by rw[cG nF.symm];exact uJ
 unfold ksk_tail
 try dsimp only
 simp only[an3,if_false];refine ajX (aof h2 rfl ?_ (by rw[akd,akK];omega) (akA _));refine ajX (amB ?_);refine ajX (seqEpoch_at Di rfl ?_);refine ajX (aof Di rfl ?_ (akA _) (akS (amF (Array.size_map ..)) (by rw[hsz,akK];omega)));rw[Xz];simp only[bne_self_eq_false,an3,if_false];have same:dy H (upd (upd aK dx (.lst [])) a (.lst zs)):=by
  have ey:=tn lg g2.same jM (.lst []);refine⟨λb o e n=>by rw[cG (jq e lb)];exact ey.at' b o e n,λb ps e=>by rw[cG (jq e lb)];exact ey.cS b ps e,λg=>?_⟩;exact(ey.b4 g).put _ (λps=>by rw[qk];intro z;cases z) (H6 dr qk)
 have go:Go O (gn a_ a .dB) H (upd (upd aK dx (.lst [])) a (.lst zs)):=⟨same,λb aa=>by
  rw[og (by rintro rfl;exact aa lb)];exact g2.own b aa,g2.bI⟩
 refine aj4 ⟨rfl,gn a_ a .dB,_,zs,?_,go,⟨λb aa=>?_,?_,dT.b9.1,λb m=>by rw[og (by rintro rfl;exact S.na (g2.bI▸m))];exact dT.b9.2 b m⟩,dn,pS,ahO.go go⟩
 .refine dr.write (x:=a) (e:=a) (t':=s.toks) (by rw[qk];trivial) (.inl rfl) (λb o aa e=>(s2.2 b aa).trans e) ⟨_,hb⟩ ⟨?_,_,av,ON,?_⟩
  .rw[m_,akK];omega
  .rw[hb,Array.toArray_toList]
 .by_cases e:b=a
  .rw[e,dn];intro z;cases z
  .rw[cG e]
   rw[og e]at aa
   by_cases bZ:b=dx
   .rw[bZ,dn];intro z;cases z
   .rw[cG bZ];exact dT.has b aa
 .exact(dT.tabs.lst jM _).put _ (λps=>by rw[qk];intro z;cases z) (H6 dr qk)
def aed{A:akm}(jh:Z.Ok)(lb:H a=none)(lg:H dx=none)(nF:dx≠a)(bx:a8 X.K X.mg O H ds xs)(bG:Vals xs us)(aB:keys.toList.map Z.κ.keyOf=cN.map some)(hl:cN.length=ds.length)(aF:cN.Nodup)(k6:ds.length<64)
    (S:p2 X zn Y G O H a dx aw (cN.map Z.dH) s) :
    wpAny (model X.prog X.w) A (ksk_end a false us.toArray aw (.ref dx) keys) (λr s'=>r=.done (.ret .none)/\Ah X zn Y O H a ((jV Z.κ.blt (cN.zip ds)).map (·.2)) s') E s:=by
  have C0:us.length=ds.length:=by rw[<-bG.length,bx.len]
  have lk:keys.size=ds.length:=by
    have:=congrArg alA aB;rw[aj2,aj2,akN]at this;omega
  have Ci:(keys.zip us.toArray).size=ds.length:=by rw[Array.size_zip,lk,akd,C0,Nat.min_self]
  have yc:∀v∈keys.toList,∃κ,Z.κ.keyOf v=some κ:=λv bu=>by
    have:Z.κ.keyOf v∈cN.map some:=by rw[<-aB];exact amS bu
    obtain⟨κ,_,e⟩:=alj.mp this;exact⟨κ,e.symm⟩
  unfold ksk_end
  try dsimp only
  simp only[an3,if_false]
  by_cases ag:us.toArray.size<2
  · rw[if_pos ag,if_pos ag]
    refine ajX (aj4 ?_);rw[StateT.run_pure];refine ajX (aj4 ?_)
    try dsimp only
    refine NM (st:=SortSt.mk' general' (keys.zip us.toArray) #[] 7 none) lb lg nF bx bG aB hl aF k6 S (Array.Perm.refl _) ?_ rfl;intro i j Jd aR;have XH:j<(keys.zip us.toArray).size:=aR;rw[Ci]at XH;rw[akd]at ag;have:i=j:=by omega
    subst this;exact PyProof.Rows.KeyOrd.kle_refl _
  · rw[if_neg ag,if_neg ag]
    rw[akd]at ag;have Yf:2<=(keys.zip us.toArray).size:=by
      have bO:2<=us.length:=Nat.le_of_not_lt ag;rw[Ci];omega
    have ff:keyKind' keys=pure oneType':=by
      cases e:keys.toList with
      |nil=>
               have dV:keys.size=0:=by rw[<-akN,e];rfl
               omega
      |cons pU r=>
        cases r with
        |nil=>
                 have dV:keys.size=1:=by rw[<-akN,e];rfl
                 omega
        |cons pV r=>
          have gT:keys=(pU::pV::r).toArray:=by rw[<-e,Array.toArray_toList]
          rw[gT];exact jh.kind pU pV r λv bu=>yc v (by rw[e];exact bu)
    rw[ff];refine ajX (aj4 ?_);refine ajX (akB (wpS_sortRunsK (κ:=Z.κ) jh.one (a₀:=keys.zip us.toArray) (st:=SortSt.mk' oneType' (keys.zip us.toArray) #[] 7 none)
      (Q:=λ_ bW=>(arrOf bW).Perm (keys.zip us.toArray)/\failedOf bW=none/\SortedToK Z.κ (arrOf bW) (keys.zip us.toArray).size)
      (λp aL=>?_) ⟨Array.Perm.refl _,rfl,rfl,rfl⟩ Yf (by rw[Ci];exact k6) λbW a1 a2 eu=>⟨a1,a2,eu⟩) ?_ λ_ _ e=>e)
    · rw[ksk_zip]at aL
      exact yc _ (amV aL).1
    rintro⟨⟨⟩,bW⟩ s' ⟨rfl,aL,hf,az⟩
    try dsimp only
    exact NM lb lg nF bx bG aB hl aF k6 S aL (by rw[aL.size_eq];exact az) hf
end
end aE
namespace aE
open PySem PySem.Spec ax PyProof.Rows
variable[ax.aX]
section
variable{X:aJ}{zn:cC}{Y:ax.St}{H:ah}{s:aj0}{G:ah->Prop}{mf:bq}{f l:Addr}{k:Nat}{O:a0}{Z:hV}{ds:List D}{cN:List Z.κ.α}{xs:List V}{E:b'}
def aec(jh:Z.Ok)(I:Inv X zn Y H s)(cM:c5 O H)(bx:a8 X.K X.mg O H ds xs)(fc:du X.K H l xs)(ec:nd X k f G mf)(qh:G H)(aD:cg (k+2) X.A)
  (kj:∀(i:Nat)(d:D),ds[i]? = some d->∃κ,cN[i]? = some κ/\(mf [d]).run []=.ok (.v (Z.dH κ)) []) (hlen:cN.length=ds.length) (aF:cN.Nodup) (k6:ds.length<64) :
  wpAny (model X.prog X.w) X.A (call (.builtin "sorted") [.ref l] [(akj "key",.ref f)]) (λu s'=>∃a,u=.ref a/\H a=none/\Ah X zn Y O H a ((jV Z.κ.blt (cN.zip ds)).map (·.2)) s') E s:=by
 obtain⟨us,bG,pl,_⟩:=I.list fc;have hl:s.heap.IsList l us.toArray:=pl.isList;have C0:us.length=ds.length:=by rw[<-bG.length,bx.len]
 have qf:H (s.heap.objs.size+1)=none:=I.bA.fresh (Nat.le_succ _);refine call_function_entry_kw kind_sorted plain_sorted entry_sorted (ksk_s1 _ _) ?_;unfold anb.«sorted»;refine ajX (m:=checkCount "sorted" 1 1 _) (aj4 ?_);refine ajX (collect_list hl ?_ (by rw[akK];omega));refine ajX (wpAny_newList ?_ (by rw[akK];omega));have hsz:((s.heap.push (ak1 "list" #[] 0)).update s.heap.objs.size (akC (·++us.toArray))).objs.size=s.heap.objs.size+1:=by
  rw[Heap.size_update,size_push']
 have mD:(((s.heap.push (ak1 "list" #[] 0)).update s.heap.objs.size (akC (·++us.toArray))).push (ak1 "list" us.toArray 0)).get? (s.heap.objs.size+1)=some (ak1 "list" us.toArray 0):=by
  rw[<-hsz];exact akc _ rfl
 have keep:∀b o,s.heap.get? b=some o->(((s.heap.push (ak1 "list" #[] 0)).update s.heap.objs.size (akC (·++us.toArray))).push (ak1 "list" us.toArray 0)).get? b=some o:=λb o q=>by
  have fC:b<s.heap.objs.size:=ake q;rw[Heap.get?_push_ne _ _ _ (by rw[hsz];exact aku (Nat.lt_succ_of_lt fC)),Heap.get?_update_ne _ _ _ _ (aku fC),Heap.get?_push_ne _ _ _ (aku fC)];exact q
 have aV:Inv X zn Y (upd H (s.heap.objs.size+1) (.lst xs)) { s with heap:=((s.heap.push (ak1 "list" #[] 0)).update s.heap.objs.size (akC (·++us.toArray))).push (ak1 "list" us.toArray 0) }:=
  I.laid (t':=s.toks) keep (Nat.le_succ _) ⟨by rw[bx.len,akK];omega,us,0,bG,mD⟩
 have Vu:Go O O H (upd H (s.heap.objs.size+1) (.lst xs)):=Go.fU qf;have ah4:c5 O (upd H (s.heap.objs.size+1) (.lst xs)):=cM.same Vu.same;show wpAny _ _ _ _ _ { s with heap:=((s.heap.push (ak1 "list" #[] 0)).update s.heap.objs.size (akC (·++us.toArray))).push (ak1 "list" us.toArray 0) };rw[hsz];refine ajX (al5 (wpAny_call_entry_kw slot_list_sort ⟨_,mD,rfl⟩ entry_list_sort ?body (ksk_l1 _ _)))
 case body=>
  show wpAny (model X.prog X.w) X.A.in1.in1 (anb.«list.sort» ⟨[.ref (s.heap.objs.size+1)],[(akj "key",.ref f)]⟩) _ _ _;rw[ksk_t1];generalize r8:s.heap.objs.size+1=a at *;generalize((s.heap.push (ak1 "list" #[] 0)).update s.heap.objs.size (akC (·++us.toArray))).push (ak1 "list" us.toArray 0)=ae at *;have s1:=alf ae a (akC λ_=>(#[]:Array Value));obtain⟨aw,B9⟩:∃aw,(ae.update a (akC λ_=>(#[]:Array Value))).get? a=some (ak1 "list" #[] aw):=⟨_,amv mD λ_=>#[]⟩;have bS:Inv X zn Y (upd (upd H a (.lst xs)) a (.ext (lstP a aw))) { s with heap:=ae.update a (akC λ_=>(#[]:Array Value)) }:=
   aV.write (x:=a) (e:=a) (t':=s.toks) (by rw[dn];trivial) (.inl rfl) (λb o aa e=>(s1.2 b aa).trans e) ⟨_,B9⟩ (ZN B9)
  rw[afG]at bS;unfold ksk_tree;refine ajX (listItems_at mD rfl ?_);refine ajX (aof mD rfl ?_ (by rw[akd,akK];omega) (akA _));refine ajX (seqEpoch_at B9 rfl ?_);refine ajX (wpAny_newTuple ?_ (by show us.length<=_;rw[akK];omega));refine ajX (wpAny_newList ?_ (akA _));refine al5 ?_;have dr:Inv X zn Y (upd H a (.ext (lstP a aw))) { s with heap:=(ae.update a (akC λ_=>(#[]:Array Value))).push (ak1 "tuple" us.toArray 0) }:=
   bS.kept (t':=s.toks) λb o e=>ajZ _ e
  generalize ajf:(ae.update a (akC λ_=>(#[]:Array Value))).push (ak1 "tuple" us.toArray 0)=ag at *;have r3:upd H a (.ext (lstP a aw)) ag.objs.size=none:=dr.bA.fresh (aj8 _);have y1:ag.objs.size≠a:=by
   intro z;rw[z,dn]at r3;cases r3
  have lg:H ag.objs.size=none:=by rw[cG y1]at r3;exact r3
  have gv:Inv X zn Y (upd (upd H a (.ext (lstP a aw))) ag.objs.size (.lst [])) { s with heap:=ag.push (ak1 "list" #[] 0) }:=
   dr.laid (t':=s.toks) (λb o e=>ajZ _ e) (aj8 _) ⟨akA _,[],0,.nil,akc _ rfl⟩
  have Iz:Go O (gn O ag.objs.size .dB) H (upd (upd H a (.ext (lstP a aw))) ag.objs.size (.lst [])):=(Go.fU qf).trans (Go.new r3);have UG:c5 (gn O ag.objs.size .dB) (upd (upd H a (.ext (lstP a aw))) ag.objs.size (.lst [])):=(cM.same (Go.fU (O:=O) qf).same).new r3;have Pc:p2 X zn Y G O H a ag.objs.size aw [] { s with heap:=ag.push (ak1 "list" #[] 0) }:=
   ⟨⟨gn O ag.objs.size .dB,_,[],gv,Iz,UG,ec.1 _ _ Iz.same qh,by rw[cG y1.symm];exact dn,dn,rfl,pS⟩,λm=>cM.has a (by rw[cM.b9.2 a m];intro z;cases z) qf⟩
  refine akB (aee (E:=E) jh ec (aD.in1.in1) qf lg y1 bx bG kj hlen k6 Pc λs' keys ar yd=>aed jh qf lg y1 bx bG yd hlen aF k6 ar) (λr s' a6=>?_) λ_ _ e=>e
  obtain⟨rfl,a6⟩:=a6;exact⟨_,rfl,aj4 ⟨_,rfl,a,rfl,qf,a6⟩⟩
end
structure l'(K:aM)(c P:Addr)(q:Str):Prop where
 hd:∀h,K.In h->W.CodeHd h c P
 fu:aX.fu P
 sZ:aX.sZ P=q
structure jy(base:Heap)(mg:a9):Prop where
 ex:∃bm o,mg (akj "__builtins__")=some (akl bm)/\bm≠aon/\bm≠akx/\base.get? bm=some o/\o.cls=anA "module"/\o.dict=some aon/\o.data=Data.plain
def Dz(f:Addr)(bh:Obj):Heap->Prop:=λh=>h.get? f=some bh
def l_(f c:Addr)(q:Str)(bh:Obj):ah->Prop:=λH=>H f=some (.ext (Dz f bh))/\H c=some (.ext (qa c q))
def l_.mono(H H':ah)(s:dy H H')(g:l_ f c q bh H):l_ f c q bh H':=⟨s.at' _ _ g.1,s.at' _ _ g.2⟩
def l_.upd(H:ah)(p:Addr)(zs:List V)(o:f')(h:H p=some (.lst zs))(g:l_ f c q bh H):l_ f c q bh (upd H p o):=
 ⟨by rw[cG (by rintro rfl;have:=g.1;rw[h]at this;cases this)];exact g.1,by rw[cG (by rintro rfl;have:=g.2;rw[h]at this;cases this)];exact g.2⟩
def U8{K:aM}{mg:a9}{N ps:List Str}{m:bf}{vs:List V}{H:ah}{Q:cD}(h:bL K mg (fnOf ps.length N.length (bg m)) vs H Q hU):e8 K mg m (ax.start N vs) H Q:=by
 obtain⟨O,ds,r,S,cM,d3,eb,h,q⟩:=h;have hl:=uv h;unfold fnOf at h;rw[if_pos hl]at h;obtain⟨aW,S1,ae,h⟩:=M.inv h;have q5:=Eo (N:=N) cM d3 eb hl;obtain⟨LS,a7,ag,bO⟩:=M.inv ae;refine⟨eT O,_,S,LS,a7,q5,ag,λak v H' g bW ba nn=>?_⟩
 let a_:a0:=⟨λb=>match H b with|some _=>O b|none=>ak b,O.bI⟩
 have qL:∀b,H b≠none->a_ b=O b:=λb aa=>by
  show(match H b with|some _=>O b|none=>ak b)=O b
  cases e:H b with
  |none=>exact absurd e aa|some o=>rfl
 have pE:∀b,H b=none->a_ b=ak b:=λb aa=>by
  show(match H b with|some _=>O b|none=>ak b)=ak b;rw[aa]
 have dc:l6 ak a_:=⟨λb aa=>by
  by_cases aF:H b=none
  .rw[pE b aF];exact aa
  .rw[qL b aF];exact oQ.mp ((g.own b aF).symm.trans aa),g.bI.symm⟩
 have go:Go O a_ H H':=⟨g.same,λb aa=>qL b aa,rfl⟩;have b_:c5 a_ H':=⟨λb aa=>by
  by_cases aF:H b=none
  .rw[pE b aF]at aa;exact bW.b_.has b aa
  .exact g.same.some aF,bW.b_.tabs,cM.b9.1,λb m=>(qL b (cM.has b (by rw[cM.b9.2 b m];intro z;cases z))).trans (cM.b9.2 b m)⟩
 cases LS with
 |v d=>
  cases bO;cases h;exact q a_ v H' go b_ (Rep.dc dc ba) trivial
 |fr zs=>
  cases bO;cases h;obtain⟨a,ys,rfl,l,t,bx⟩:=ba;have aF:=nn a rfl;exact q a_ _ H' go b_ ⟨a,ys,rfl,l,(pE a aF).trans t,bx.dc dc⟩ nn
 |b8 zs=>cases bO
 |mv zs=>cases bO
section
variable{X:aJ}{k:Nat}{f c:Addr}{name q:Str}{params:am2}{body:Expr}{scope:Scope}{pm gy:Value}{N ps:List Str}{m:bf}
theorem J_{p1:Str}(Sc:bP N [p1] scope)(k_:∀(u:Value),amf (W.kla_fn name q params body scope [] pm (.ref c) gy) ⟨[u],[]⟩=pure [(p1,u)])
  (aa:∀(A:akm)(s:aj0)(H:ah),cg k (A.deeper (amG q scope s.heap.objs.size f (.ref c)))->g7 (fl eh X.prog X.w X.K X.mg X.base N q scope f (.ref c) A X.stack s H hU).fZ body m) :
  nd X (k+1) f (l_ f c q (W.kla_obj name q params body scope [] pm c gy)) (fnOf 1 N.length (bg m)):=by
 refine⟨l_.mono,l_.upd,λA s H u v Q aD dk g ed gA=>?_⟩;obtain⟨g1,_⟩:=dk.bA f _ g.1;obtain⟨g2,_⟩:=dk.bA c _ g.2;have lim:s.heap.NoLimit:=dk.mod.nolimit.keeps λb o e=>(dk.bs b o e).1
 have B7:∀y∈[p1].zip [u],scope.names.lookup y.1=some .local\/(scope.names.lookup y.1=some .cell/\((cellsFrom (s.heap.objs.size+1) scope.names []).lookup y.1).isSome=true):=λaO a'=>by
  obtain⟨n,v⟩:=aO;rcases Sc.par n (amV a').1 with q|q
  .exact .inl q
  .exact .inr ⟨q,aoB _ _ _ (.inl q)⟩
 refine W.kla_callFunE aD.depth g1 rfl Sc.co Sc.gen rfl g2 ?_;rw[k_];refine aj4 ?_;refine wpAny_newFunctionEnv_cells Sc.kind B7 λenv he s1 x=>?_
 subst he;refine⟨lim.keeps x.toInCall.keep,W.kla_codeExpr ?_⟩;have I:Inv (fl eh X.prog X.w X.K X.mg X.base N q scope f (.ref c) A X.stack s H hU) [] (ax.start N [v]) H s1:=JC Sc aD.hd dk rfl (.cons ed .nil) x;refine akB ((bM.fZ (aa A s H (aD.deeper _))) [] s1 (ax.start N [v]) H _ I (U8 (ps:=[p1]) gA)) (λu' s' az=>?_) λe s' az=>az
 obtain⟨fg,H',bJ,bG,g5⟩:=az;exact⟨fg,H',bJ.os,bJ.bare,bJ.base,bJ.bA,bG,g5⟩
end
end aE
namespace aE
open PySem PySem.Spec ax PyProof.Rows
theorem N1{a b:Int}:∀l:List Value,aoT l->aoT (l++[alo a,alo b,c])
 |[],_=>trivial|.int _ _::.int _ _::_::rest,h=>N1 rest h
theorem FH{pos pos':Pos}:∀l:List Value,aoT l->anq pos' (l++[alo pos.line,alo pos.col,c])=some hK->anq pos' l=some hK\/hK=c
 |[],_,h=>by
  right;have h:(if((pos.line:Int)==pos'.line&&(pos.col:Int)==pos'.col)=true then some c else none)=some hK:=h;split at h
  .cases h;rfl
  .cases h
 |.int a _::.int b _::d::rest,t,h=>by
  have h:(if(a==pos'.line&&b==pos'.col)=true then some d else anq pos' (rest++[alo pos.line,alo pos.col,c]))=some hK:=h;show(if(a==pos'.line&&b==pos'.col)=true then some d else anq pos' rest)=some hK\/_;split at h
  .rename_i hc;rw[if_pos hc];exact .inl h
  .rename_i hc;rw[if_neg hc];exact FH rest t h
variable[ax.aX]
section
variable{X:aJ}{zn:cC}{Y:ax.St}{H:ah}{s:aj0}{O:a0}{c P:Addr}{q:Str}{params:am2}{body:Expr}{scope:Scope}{pos:Pos}
def J9(I:Inv X zn Y H s)(cM:c5 O H)(L:l' X.K c P q)(B:jy X.base X.mg)(mC:X.env.code=.ref c)(a6:X.env.qual++akj "<lambda>"=q)(nL:aos params X.env=([],[]))(mB:amu scope X.env=pure []) :
  wpAny (model X.prog X.w) X.A (eval (.Lambda params body scope pos) X.env) (λu s'=>∃(f c':Addr)(pm gy:Value)(H':ah),u=.ref f/\Inv X zn Y H' s'/\Go O O H H'/\c5 O H'/\l_ f c' q (W.kla_obj (akj "<lambda>") q params body scope [] pm c' gy) H') X.cL s:=by
 obtain⟨ps,d1,i3,A6⟩:=cM.tabs P L.fu;rw[L.sZ]at A6;have Io:s.heap.get? P=some (W.tabObj ps):=I.bA P _ d1;have G6:∀b o,X.base.get? b=some o->b≠P:=λb o e z=>by
  subst z;have:=(I.bs b o e).2;rw[d1]at this;cases this
 have o2:s.heap.Ns akx X.mg:=I.mod.glob.keeps I.d4;have XB:akx≠P:=by
  obtain⟨o,ay,cn,e,_⟩:=I.mod.glob;exact G6 _ _ e
 have r9:s.heap.BuiltinsAt X.mg P:=by
  obtain⟨bm,o,b3,bY,fa,g9,hY⟩:=B.ex;exact⟨bm,o,b3,bY,fa,G6 _ _ g9,I.d4 _ _ g9,hY⟩
 have C:=L.hd _ I.dW;refine W.kla_eval nL ?_;rw[a6]
 cases nB:anq pos ps.toList with
 |some hK=>
  obtain⟨c',rfl,x8⟩:=A6 pos hK nB;refine W.kla_makeFunctionHit mB I.ok.glob o2 mC C Io i3 nB r9 λgy h' tk aB hsz=>?_
  have aF:H h'.objs.size=none:=I.bA.fresh hsz;have go:Go O O H (upd H h'.objs.size (.ext (Dz h'.objs.size (W.kla_obj (akj "<lambda>") q params body scope [] ((X.mg (akj "__name__")).getD .none) c' gy)))):=Go.fU aF;refine⟨h'.objs.size,c',_,gy,_,rfl,I.laid (t':=tk) (λb o e=>ajZ _ (aB b o e)) hsz ?_,go,cM.same go.same,dn,go.same.at' _ _ x8⟩;exact⟨akc _ rfl,⟨_,akc _ rfl⟩,λae ag p r=>r _ p⟩
 |none=>
  refine W.kla_makeFunction mB I.ok.glob o2 mC C Io i3 nB XB r9 λc' gy h' tk ai Jb fC Cb Jr=>?_
  have Jj:H c'=none:=I.bA.fresh Jb;have aaj:c'≠P:=(jq d1 Jj).symm
  let kr:=ps++#[alo pos.line,alo pos.col,.ref c']
  let H1:=upd (upd H P (.ft kr)) c' (.ext (qa c' q))
  have ka:∀{b:Addr},b≠P->b≠c'->H1 b=H b:=λae ag=>by show upd _ _ _ _=_;rw[cG ag,cG ae]
  have xd:H1 P=some (.ft kr):=by show upd _ _ _ _=_;rw[cG aaj.symm];exact dn
  have Ap:H1 c'=some (.ext (qa c' q)):=dn;have aao:∀{b:Addr}{o:Obj},s.heap.get? b=some o->b≠c':=λe=>aku (akr (ake e) Jb)
  have mT:∀{b:Addr}{o:f'},H b=some o->b≠c':=λe=>jq e Jj
  have un:fA X.fs [] H H1 s.heap h':=by
   refine⟨λb o e n _ _=>ai b o (by rintro rfl;rw[d1]at n;cases n) e,λb o e n _ _=>⟨o.slots,ai b o (by rintro rfl;rw[d1]at n;cases n) e⟩,
    λb o e n _=>by rw[ka (by rintro rfl;rw[d1]at n;cases n) (aao e)];exact n,λb o e _=>?_,λb xs e=>?_,λb o u e=>?_,λb zs e=>?_⟩
   .by_cases aa:b=P
    .rw[aa];exact⟨_,Jr⟩
    .exact⟨o,ai b o aa e⟩
   .rw[ka (by rintro rfl;rw[d1]at e;cases e) (mT e)];exact e
   .rw[ka (by rintro rfl;rw[d1]at e;cases e) (mT e)];exact e
   .by_cases aa:b=P
    .subst aa
     rw[d1]at e;cases e;exact⟨_,xd⟩
    .exact⟨#[],by rw[ka aa (mT e),e];simp⟩
  have bA:et X.prog X.w H1 h':=λb u e=>by
   by_cases ae:b=c'
   .subst ae
    rw[Ap]at e;cases e;obtain⟨av,cw,vs,t,eH,d7,m9,l1⟩:=Cb;cases eH;exact⟨⟨_,cw,vs,t,rfl,d7,m9,l1⟩,⟨_,d7⟩,λae ag aO r=>by obtain⟨hZ,aaD,afI,t3,wC,wD,OJ,OK⟩:=aO;cases wC;exact⟨_,aaD,afI,t3,rfl,r _ wD,OJ,OK⟩⟩
   .by_cases ag:b=P
    .subst ag
     rw[xd]at e;cases e;exact Jr
    .rw[ka ag ae]at e
     refine(I.bA b u e).m2 (λd o hd Bh=>ai d o (λz=>?_) Bh) (λd dm=>?_) λd xs dm=>?_
     .rcases hd with rfl|hd
      .exact ag z
      .rw[z,d1]at hd;cases hd
     .rw[ka (by rintro rfl;rw[d1]at dm;cases dm) (mT dm)];exact dm
     .rw[ka (by rintro rfl;rw[d1]at dm;cases dm) (mT dm)];exact dm
  have aV:Inv X zn Y H1 { s with heap:=h',toks:=tk }:=I.un (t':=tk) un bA;have aF:H1 h'.objs.size=none:=bA.fresh (aj8 _);have acK:dy H H1:=by
   refine⟨λb o e n=>by rw[ka (by rintro rfl;rw[d1]at e;cases e;exact n) (mT e)];exact e,λb zs e=>?_,λg p6 VP=>?_⟩
   .by_cases aa:b=P
    .exact⟨kr,by rw[aa];exact xd⟩
    .exact⟨zs,by rw[ka aa (mT e)];exact e⟩
   .obtain⟨zs,aw,aG,c3⟩:=g p6 VP
    by_cases aa:p6=P
    .subst aa
     refine⟨kr,xd,?_,λpos' hK r_=>?_⟩
     .show aoT (ps++#[alo pos.line,alo pos.col,.ref c']).toList
      rw[Array.toList_append];exact N1 _ i3
     .have r_:anq pos' (ps++#[alo pos.line,alo pos.col,.ref c']).toList=some hK:=r_
      rw[Array.toList_append]at r_;rw[L.sZ];rcases FH _ i3 r_ with h|h
      .obtain⟨av,rfl,ag⟩:=A6 pos' hK h
       exact⟨av,rfl,by rw[ka (by rintro rfl;rw[d1]at ag;cases ag) (mT ag)];exact ag⟩
      .exact⟨c',h,Ap⟩
    .refine⟨zs,by rw[ka aa (mT aw)];exact aw,aG,λpos' hK r_=>?_⟩
     obtain⟨av,ae,ag⟩:=c3 pos' hK r_;exact⟨av,ae,by rw[ka (by rintro rfl;rw[d1]at ag;cases ag) (mT ag)];exact ag⟩
  have go:Go O O H (upd H1 h'.objs.size (.ext (Dz h'.objs.size (W.kla_obj (akj "<lambda>") q params body scope [] ((X.mg (akj "__name__")).getD .none) c' gy)))):=(⟨acK,λ_ _=>rfl,rfl⟩:Go O O H H1).trans (Go.fU aF);refine⟨h'.objs.size,c',_,gy,_,rfl,aV.laid (t':=tk) (λb o e=>ajZ _ e) (aj8 _) ?_,go,cM.same go.same,dn,(i2 aF _).at' _ _ Ap⟩;exact⟨akc _ rfl,⟨_,akc _ rfl⟩,λae ag p r=>r _ p⟩
end
end aE
namespace aE
open PySem PySem.Spec ax PyProof.Rows
def Si:akJ "sorted"=some (.builtin "sorted"):=by decide +kernel
def yA(Z:hV)(mf:bq)(d:D):Option Z.κ.α:=match(mf [d]).run []with
 |.ok (.v x) []=>Z.un x|_=>none
def keysOf(Z:hV)(mf:bq):List D->Option (List Z.κ.α)
 |[]=>some []|d::ds=>match yA Z mf d,keysOf Z mf ds with
  |some a,some as=>some (a::as)|_,_=>none
def oN{α:Type}(blt:α->α->Bool):List α->Bool
 |[]=>true|a::r=>r.all (λb=>blt a b||blt b a)&&oN blt r
def r2(Z:hV)(mf:bq)(x:R):M R:=match x.fG with
 |some ds=>match keysOf Z mf ds with
  |some cN=>if oN Z.κ.blt cN=true/\ds.length<64 then pure (.fr ((jV Z.κ.blt (cN.zip ds)).map (·.2)))else bad|none=>bad
 |none=>bad
@[simp] def p'(Z:hV)(mf:bq)(cA:bf)(Y:aQ):M R:=do
 let x <-cA Y
 r2 Z mf x
theorem JX{Z:hV}{mf:bq}(tl:∀d a,Z.un d=some a->d=Z.dH a):∀{ds:List D}{cN:List Z.κ.α},keysOf Z mf ds=some cN->cN.length=ds.length/\∀(i:Nat)(d:D),ds[i]? = some d->∃κ,cN[i]? = some κ/\(mf [d]).run []=.ok (.v (Z.dH κ)) []
 |[],cN,h=>by cases h;exact⟨rfl,λi d h=>by simp at h⟩
 |d::ds,cN,h=>by
  unfold keysOf at h;split at h
  .rename_i a as ae ag
   cases h;obtain⟨l,r⟩:=JX tl ag;refine⟨by rw[akn,akn,l],λi e he=>?_⟩
   cases i with
   |zero=>
    cases(show some d=some e from he);refine⟨a,rfl,?_⟩;unfold yA at ae;split at ae
    .rename_i x ai
     rw[ai,tl x a ae]
    .cases ae
   |succ i=>
    obtain⟨κ,aw,aG⟩:=r i e (by simpa using he);exact⟨κ,by simpa using aw,aG⟩
  .cases h
theorem FI(Q:alH):∀{l:List Q.α},oN Q.blt l=true->l.Nodup
 |[],_=>.nil|a::r,h=>by
  unfold oN at h;rw[akw,alp]at h;rw[alw];refine⟨λhm=>?_,FI Q h.2⟩;have:=h.1 a hm;rw[Q.irrefl]at this;cases this
variable[ax.aX]
section
variable{X:aJ}{k:Nat}{e:Expr}{cA:bf}{Z:hV}{p pos kp:Pos}{iu:Expr}{mf:bq}{G:Addr->ah->Prop}
def SE(jh:Z.Ok)(a3:dD X "sorted")(hm:X.mg "sorted"=none)(aD:cg (k+2) X.A)(ao:g7 X e cA)
  (bl:∀(zn:cC)(s:aj0)(Y:ax.St)(O:a0)(H:ah),Inv X zn Y H s->c5 O H->
   wpAny (model X.prog X.w) X.A (eval iu X.env) (λu s'=>∃(f:Addr)(H':ah)(G:ah->Prop),u=.ref f/\Inv X zn Y H' s'/\Go O O H H'/\c5 O H'/\G H'/\nd X k f G mf) X.cL s)
  (he:ako pos (ajY [e] X.env)=(false,eval e X.env)::ako pos (ajY [] X.env):=by rfl)
  (az:ajY [e] X.env=(false,eval e X.env)::ajY [] X.env:=by rfl)
  (gW:(ako pos (ajY [e] X.env)).any (·.1)=false:=by rfl) :
  g7 X (.Call (.Name "sorted" p) [e] [⟨some (akj "key"),iu,kp⟩] pos) (p' Z mf cA):=by
 rintro zn s Y H Q I ⟨O,wI,S,r,ar,st,h,q⟩;obtain⟨x,S1,ae,h⟩:=M.inv h;obtain⟨ds,cN,nM,XI,VY,k6,rfl,rfl⟩:∃ds cN,x.fG=some ds/\keysOf Z mf ds=some cN/\oN Z.κ.blt cN=true/\ds.length<64/\r=.fr ((jV Z.κ.blt (cN.zip ds)).map (·.2))/\S1=ar:=by
  unfold r2 at h;split at h
  .rename_i ds aw
   split at h
   .rename_i cN aG
    by_cases c:oN Z.κ.blt cN=true/\ds.length<64
    .rw[if_pos c]at h
     cases h;exact⟨ds,cN,aw,aG,c.1,c.2,rfl,rfl⟩
    .rw[if_neg c]at h;cases h
   .cases h
  .cases h
 obtain⟨hlen,kj⟩:=JX jh.tl XI;refine alx (qB I a3 hm Si ?_);refine callWith_kw ?_ he gW rfl rfl;refine bN ((lH ao qU az) pos zn s Y H (λvs H1=>∃v aH,vs=[v]/\Go O aH H H1/\ct X.K X.mg aH wI S1 Y H1/\ei X.K X.mg aH H1 x v) I ⟨O,wI,S,x,S1,st,ae,λaH v H1 g1 aP ba nn=>⟨v,aH,rfl,g1,aP,ba⟩⟩) λus s1 aO=>?_
 obtain⟨vs,H1,aV,bF,v,aH,ev,g1,aP,ba⟩:=aO;subst ev;obtain⟨l,ys,rfl,hl,bx⟩:=R.ph ba nM;obtain⟨u,rfl,ed⟩:=vals1 bF;cases ed;refine wpAny_evalAll_cons (ajX (bN (bl zn s1 Y aH H1 aV aP.b_) λu s2 aB=>ajX (aod (aj4 ?_))));obtain⟨f,aK,G,rfl,bS,g2,dT,BD,ec⟩:=aB;refine wpAny_evalAll_nil ?_;show wpAny _ _ (call (.builtin "sorted") [.ref l] [(akj "key",.ref f)]) _ _ _;refine bN (aec jh bS dT (bx.go g2) (g2.same.seq hl) ec BD aD kj hlen (FI Z.κ.toKeyOrd VY) k6) λu s3 aO=>?_
 obtain⟨a,jI,lb,d_,cI,zs,dr,g3,oU,qk,mW,aca⟩:=aO;subst jI;refine⟨.ref a,cI,dr,rfl,q d_ _ cI (g1.trans (g2.trans g3)) (aP.go (g2.trans g3) oU) ⟨a,zs,rfl,qk,mW,aca⟩ λb dh=>?_⟩;cases dh;exact(g1.trans g2).same.free lb
def SF{c P:Addr}{q p1:Str}{params:am2}{body:Expr}{scope:Scope}{ly:Pos}{N:List Str}{m:bf}(jh:Z.Ok)(a3:dD X "sorted")(hm:X.mg "sorted"=none)(aD:cg (k+3) X.A)(L:l' X.K c P q)(B:jy X.base X.mg)(mC:X.env.code=.ref c)
  (a6:X.env.qual++akj "<lambda>"=q) (Sc:bP N [p1] scope)
  (k_:∀(c:Addr)(pm gy u:Value),amf (W.kla_fn (akj "<lambda>") q params body scope [] pm (.ref c) gy) ⟨[u],[]⟩=pure [(p1,u)])
  (aa:∀(f c:Addr)(A:akm)(s:aj0)(H:ah),cg k (A.deeper (amG q scope s.heap.objs.size f (.ref c)))->g7 (fl eh X.prog X.w X.K X.mg X.base N q scope f (.ref c) A X.stack s H hU).fZ body m)
  (ao:g7 X e cA) (nL:aos params X.env=([],[]):=by rfl) (mB:amu scope X.env=pure []:=by rfl)
  (he:ako pos (ajY [e] X.env)=(false,eval e X.env)::ako pos (ajY [] X.env):=by rfl)
  (az:ajY [e] X.env=(false,eval e X.env)::ajY [] X.env:=by rfl)
  (gW:(ako pos (ajY [e] X.env)).any (·.1)=false:=by rfl) :
  g7 X (.Call (.Name "sorted" p) [e] [⟨some (akj "key"),.Lambda params body scope ly,kp⟩] pos) (p' Z (fnOf 1 N.length (bg m)) cA):=
 SE (k:=k+1) jh a3 hm aD ao (λzn s Y O H I cM=>bN (J9 I cM L B mC a6 nL mB) λu s' ⟨f,c',pm,gy,H',jI,gb,g',d',nc⟩=>
  ⟨f,H',_,jI,gb,g',d',nc,J_ Sc (k_ c' pm gy) (aa f c')⟩) he az gW
end
def BW{P:aki}{w:World}{K:aM}{mg:a9}{base:Heap}{x:Str}{st:Stmt}{ps N:List Str}{k:Nat}{cE:aI}{n nl:Nat}{c:Addr}(b1:b1 K mg x st ps)(hc:∀(f:Addr)(cw:Value)(cT:Option Addr)(cv doc pm:Value)(an:Option Addr)(bc cb:Value)(eP:Array (Option Value)),mg x=some (.ref f)->K.lookup f=some ⟨cw,cT,.func (alM x x (hv st) (eU st) (bk st) .none cv doc pm an bc cb),eP⟩->bc=.ref c)
  (Sc:bP N ps (bk st)) (aF:ps.length=n) (hl:N.length=nl)
  (aa:∀(f:Addr)(A:akm)(outer:List Env)(s:aj0)(H:ah)(E:eS),cg k (A.deeper (akW x (bk st) s.heap.objs.size f (.ref c)))->
   rq (fl eh P w K mg base N x (bk st) f (.ref c) A outer s H E).fZ (eU st) cE):bT P w K mg base x ps (k+1) (bL K mg (fnOf n nl cE)):=by
 obtain⟨f,fd,F,b,m⟩:=b1.ex;refine⟨f,fd,?_,b,F.kp,m⟩;obtain⟨cw,cT,cv,doc,pm,an,bc,cb,eP,rfl,lk,ew⟩:=F.ex;have e:=hc f cw cT cv doc pm an bc cb eP m lk;subst e;subst aF hl;refine xO lk ew Sc (λvs H Q E ⟨O,ds,r,ar,cM,d3,eb,h,q⟩=>eb.len.trans (uv h)) λA outer s H vs Q E aD gA=>⟨_,(aa f A outer s H E aD).fZ,AS gA⟩
end aE
namespace ax
open PySem PySem.Spec PyProof.Rows
def mO(r:Int->Int->Bool)(z:Nat->Nat->Bool):List Int->List Int->Bool
 |x::xs,y::ys=>if x=y then mO r z xs ys else r x y|xs,ys=>z xs.length ys.length
def qC(r:Int->Int->Bool)(z:Nat->Nat->Bool)(x y:Int)(xs ys:List Int):mO r z (x::xs) (y::ys)=if x=y then mO r z xs ys else r x y:=rfl
def CV(r:Int->Int->Bool)(z:Nat->Nat->Bool)(ys:List Int):mO r z [] ys=z 0 ys.length:=by cases ys<;>rfl
def CW(r:Int->Int->Bool)(z:Nat->Nat->Bool)(xs:List Int):mO r z xs []=z xs.length 0:=by cases xs<;>rfl
abbrev lexLt:List Int->List Int->Bool:=mO (λi j=>decide (i<j)) (λi j=>decide (i<j))
section
open PySem.SeqAt
open PySem.AutoSeq1 (wpAny_loadPart')
open PySem.MeetsSeq PySem.MeetsSeq2 PySem.MeetsSeq3
def afq(l b:Addr)(items eO:Array Value)(n dG:Nat)(dd kT:Option Addr)(cq jv:Array (Option Value))(ns ms:List Int)(aA:ali items.toList ns)(aR:ali eO.toList ms) :
  Meets (anb.«tuple.__lt__» ⟨[.ref l,.ref b],[]⟩)
   (λ_ R s=>s.heap.get? l=some { cls:=.type "tuple",dict:=dd,data:=.seq items n,slots:=cq }/\s.heap.get? b=some { cls:=.type "tuple",dict:=kT,data:=.seq eO dG,slots:=jv }/\
    R (.ok (.ret (.bool (lexLt ns ms)))) s):=
 .of_wp λprog w A R s h=>by
  obtain⟨aL,g,d,tk,os⟩:=s;obtain⟨hl,aa,h⟩:=h;have f2:=am4;have eH:items.size=ns.length:=by rw[<-aA.length];simp
  have d7:eO.size=ms.length:=by rw[<-aR.length];simp
  wp_walk using wpAny_loadPart' hl,wpAny_loadPart' aa,aoH _ (λrest b s'=>b.1=none/\s'=⟨aL,g,d,tk,os⟩/\∃(vs ws:List Value)(hi hh:List Int),rest=vs.zip ws/\
   ali vs hi/\ali ws hh/\hi.length+eO.size=hh.length+items.size/\R (.ok (.ret (.bool (lexLt hi hh)))) ⟨aL,g,d,tk,os⟩) _
  case turn=>
   rintro⟨y,x⟩ rest b s' ⟨k7,rfl,vs,ws,hi,hh,hz,lh,lj,hlen,dQ⟩
   cases lh with
   |nil=>rw[aom]at hz;cases hz
   |cons a t uX=>
    cases lj with
    |nil=>rw[an4]at hz;cases hz
    |cons c u uY=>
     rw[alN]at hz;injection hz with u0 uU
     injection u0 with a' ai
     subst a' ai;unfold lexLt at dQ;rw[qC]at dQ;simp only[akn]at hlen;obtain⟨e,he,o6⟩:=da.Bj A.in1 ⟨aL,g,d,tk,os⟩ a t c u;refine ajX (he prog w _ _ ?_)
     cases e with
     |true=>
      rw[if_pos (o6.mp rfl)]at dQ
      wp_walk
      exact⟨rfl,rfl,_,_,_,_,uU,uX,uY,by omega,dQ⟩
     |false=>
      rw[if_neg (λq=>absurd (o6.mpr q) aj7)]at dQ;have uV:∀(E:b')(Q:b'),Q (.bool (decide (a<c))) ⟨aL,g,d,tk,os⟩->wpAny (model prog w) A.in1 (ao4 .Lt (.int a t) (.int c u)) Q E ⟨aL,g,d,tk,os⟩:=λE Q h=>(PyProof.Rows.lt_int h:wpAny (model prog w) A.in1 (akG .Lt (.int a t) (.int c u)) Q E _)
      wp_walk using uV
      exact⟨_,rfl,by simpa using dQ⟩
  case fin=>
   rintro⟨b3,bY⟩ s' ⟨k7,rfl,vs,ws,hi,hh,hz,lh,lj,hlen,dQ⟩;simp only at k7;subst k7;have bu:lexLt hi hh=decide (items.size<eO.size):=by
    cases lh with
    |nil=>
     unfold lexLt;rw[CV];simp only[alc]at hlen;exact decide_eq_decide.mpr (by omega)
    |cons a t bu=>
     cases lj with
     |nil=>
      unfold lexLt;rw[CW];simp only[alc]at hlen;exact decide_eq_decide.mpr (by omega)
     |cons c u hw=>
      rw[alN]at hz;cases hz
   rw[bu]at dQ
   wp_walk
   exact⟨_,rfl,by simpa[amq]using dQ⟩
  case h=>
   exact⟨rfl,rfl,items.toList,eO.toList,ns,ms,rfl,aA,aR,by omega,h⟩
end
def ZP{prog:aki}{w:World}{A:akm}{E:b'}{s:aj0}{l b:Addr}{items eO:Array Value}{ns ms:List Int}{Q:b'}(hl:IsTup s.heap l items)(aa:IsTup s.heap b eO)(aA:ali items.toList ns)(aR:ali eO.toList ms)
  (cp:A.units<cLine) (h:Q (.bool (lexLt ns ms)) s):wpAny (model prog w) A (akG .Lt (.ref l) (.ref b)) Q E s:=by
 obtain⟨⟨cls,dd,data,cq⟩,aT,hc,n,hd⟩:=id hl;obtain⟨⟨Hx,kT,data2,jv⟩,o8,hb,dG,hd2⟩:=id aa;simp only at hc hd hb hd2;subst hc hd hb hd2;exact ani (op:=.Lt) ⟨_,aT,rfl⟩ ⟨_,o8,rfl⟩ PySem.F.slot_tuple_lt PySem.F.entry_tuple_lt (PySem.F.args_tuple_lt_2 _ _) (afq l b items eO n dG dd kT cq jv ns ms aA aR)
  ⟨aT,o8,show amL (lexLt ns ms)≠anG/\Q (.bool (lexLt ns ms)) s from⟨(λx=>nomatch x),h⟩⟩ cp
def ajE(cp:X.A.units+64<cLine):dN X (akG .Lt) (λx y H Q=>∃a b ns ms,x=.ref a/\y=.ref b/\dj X.K H a (ns.map V.int)/\dj X.K H b (ms.map V.int)/\Q (.au (lexLt ns ms)) H):=by
 intro zn s Y H x y v u Q I aU bz h;obtain⟨a,b,ns,ms,rfl,rfl,ao,aa,q⟩:=h;cases aU;cases bz;obtain⟨its,bF,p1,_⟩:=I.tuple ao;obtain⟨lp,b5,cy,_⟩:=I.tuple aa;exact ZP p1 cy (intsAre_of bF) (intsAre_of b5) (by omega) ⟨.au (lexLt ns ms),H,I,rfl,q⟩
abbrev gD:List Int->List Int->Bool:=mO (λi j=>decide (j<i)) (λi j=>decide (j<i))
section
open PySem.SeqAt
open PySem.AutoSeq1 (wpAny_loadPart')
open PySem.MeetsSeq PySem.MeetsSeq2 PySem.MeetsSeq3
def afp(l b:Addr)(items eO:Array Value)(n dG:Nat)(dd kT:Option Addr)(cq jv:Array (Option Value))(ns ms:List Int)(aA:ali items.toList ns)(aR:ali eO.toList ms) :
  Meets (anb.«tuple.__gt__» ⟨[.ref l,.ref b],[]⟩)
   (λ_ R s=>s.heap.get? l=some { cls:=.type "tuple",dict:=dd,data:=.seq items n,slots:=cq }/\s.heap.get? b=some { cls:=.type "tuple",dict:=kT,data:=.seq eO dG,slots:=jv }/\
    R (.ok (.ret (.bool (gD ns ms)))) s):=
 .of_wp λprog w A R s h=>by
  obtain⟨aL,g,d,tk,os⟩:=s;obtain⟨hl,aa,h⟩:=h;have f2:=am4;have eH:items.size=ns.length:=by rw[<-aA.length];simp
  have d7:eO.size=ms.length:=by rw[<-aR.length];simp
  wp_walk using wpAny_loadPart' hl,wpAny_loadPart' aa,aoH _ (λrest b s'=>b.1=none/\s'=⟨aL,g,d,tk,os⟩/\∃(vs ws:List Value)(hi hh:List Int),rest=vs.zip ws/\
   ali vs hi/\ali ws hh/\hi.length+eO.size=hh.length+items.size/\R (.ok (.ret (.bool (gD hi hh)))) ⟨aL,g,d,tk,os⟩) _
  case turn=>
   rintro⟨y,x⟩ rest b s' ⟨k7,rfl,vs,ws,hi,hh,hz,lh,lj,hlen,dQ⟩
   cases lh with
   |nil=>rw[aom]at hz;cases hz
   |cons a t uX=>
    cases lj with
    |nil=>rw[an4]at hz;cases hz
    |cons c u uY=>
     rw[alN]at hz;injection hz with u0 uU
     injection u0 with a' ai
     subst a' ai;unfold gD at dQ;rw[qC]at dQ;simp only[akn]at hlen;obtain⟨e,he,o6⟩:=da.Bj A.in1 ⟨aL,g,d,tk,os⟩ a t c u;refine ajX (he prog w _ _ ?_)
     cases e with
     |true=>
      rw[if_pos (o6.mp rfl)]at dQ
      wp_walk
      exact⟨rfl,rfl,_,_,_,_,uU,uX,uY,by omega,dQ⟩
     |false=>
      rw[if_neg (λq=>absurd (o6.mpr q) aj7)]at dQ;have uV:∀(E:b')(Q:b'),Q (.bool (decide (c<a))) ⟨aL,g,d,tk,os⟩->wpAny (model prog w) A.in1 (ao4 .Gt (.int a t) (.int c u)) Q E ⟨aL,g,d,tk,os⟩:=λE Q h=>(PyProof.Rows.gt_int h:wpAny (model prog w) A.in1 (akG .Gt (.int a t) (.int c u)) Q E _)
      wp_walk using uV
      exact⟨_,rfl,by simpa using dQ⟩
  case fin=>
   rintro⟨b3,bY⟩ s' ⟨k7,rfl,vs,ws,hi,hh,hz,lh,lj,hlen,dQ⟩;simp only at k7;subst k7;have bu:gD hi hh=decide (eO.size<items.size):=by
    cases lh with
    |nil=>
     unfold gD;rw[CV];simp only[alc]at hlen;exact decide_eq_decide.mpr (by omega)
    |cons a t bu=>
     cases lj with
     |nil=>
      unfold gD;rw[CW];simp only[alc]at hlen;exact decide_eq_decide.mpr (by omega)
     |cons c u hw=>
      rw[alN]at hz;cases hz
   rw[bu]at dQ
   wp_walk
   exact⟨_,rfl,by simpa[amq]using dQ⟩
  case h=>
   exact⟨rfl,rfl,items.toList,eO.toList,ns,ms,rfl,aA,aR,by omega,h⟩
end
def IE{prog:aki}{w:World}{A:akm}{E:b'}{s:aj0}{l b:Addr}{items eO:Array Value}{ns ms:List Int}{Q:b'}(hl:IsTup s.heap l items)(aa:IsTup s.heap b eO)(aA:ali items.toList ns)(aR:ali eO.toList ms)
  (cp:A.units<cLine) (h:Q (.bool (gD ns ms)) s):wpAny (model prog w) A (akG .Gt (.ref l) (.ref b)) Q E s:=by
 obtain⟨⟨cls,dd,data,cq⟩,aT,hc,n,hd⟩:=id hl;obtain⟨⟨Hx,kT,data2,jv⟩,o8,hb,dG,hd2⟩:=id aa;simp only at hc hd hb hd2;subst hc hd hb hd2;exact ani (op:=.Gt) ⟨_,aT,rfl⟩ ⟨_,o8,rfl⟩ PySem.F.slot_tuple_gt PySem.F.entry_tuple_gt (PySem.F.args_tuple_gt_2 _ _) (afp l b items eO n dG dd kT cq jv ns ms aA aR)
  ⟨aT,o8,show amL (gD ns ms)≠anG/\Q (.bool (gD ns ms)) s from⟨(λx=>nomatch x),h⟩⟩ cp
def aaS(cp:X.A.units+64<cLine):dN X (akG .Gt) (λx y H Q=>∃a b ns ms,x=.ref a/\y=.ref b/\dj X.K H a (ns.map V.int)/\dj X.K H b (ms.map V.int)/\Q (.au (gD ns ms)) H):=by
 intro zn s Y H x y v u Q I aU bz h;obtain⟨a,b,ns,ms,rfl,rfl,ao,aa,q⟩:=h;cases aU;cases bz;obtain⟨its,bF,p1,_⟩:=I.tuple ao;obtain⟨lp,b5,cy,_⟩:=I.tuple aa;exact IE p1 cy (intsAre_of bF) (intsAre_of b5) (by omega) ⟨.au (gD ns ms),H,I,rfl,q⟩
abbrev h7:List Int->List Int->Bool:=mO (λi j=>decide (j<=i)) (λi j=>decide (j<=i))
section
open PySem.SeqAt
open PySem.AutoSeq1 (wpAny_loadPart')
open PySem.MeetsSeq PySem.MeetsSeq2 PySem.MeetsSeq3
def afo(l b:Addr)(items eO:Array Value)(n dG:Nat)(dd kT:Option Addr)(cq jv:Array (Option Value))(ns ms:List Int)(aA:ali items.toList ns)(aR:ali eO.toList ms) :
  Meets (anb.«tuple.__ge__» ⟨[.ref l,.ref b],[]⟩)
   (λ_ R s=>s.heap.get? l=some { cls:=.type "tuple",dict:=dd,data:=.seq items n,slots:=cq }/\s.heap.get? b=some { cls:=.type "tuple",dict:=kT,data:=.seq eO dG,slots:=jv }/\
    R (.ok (.ret (.bool (h7 ns ms)))) s):=
 .of_wp λprog w A R s h=>by
  obtain⟨aL,g,d,tk,os⟩:=s;obtain⟨hl,aa,h⟩:=h;have f2:=am4;have eH:items.size=ns.length:=by rw[<-aA.length];simp
  have d7:eO.size=ms.length:=by rw[<-aR.length];simp
  wp_walk using wpAny_loadPart' hl,wpAny_loadPart' aa,aoH _ (λrest b s'=>b.1=none/\s'=⟨aL,g,d,tk,os⟩/\∃(vs ws:List Value)(hi hh:List Int),rest=vs.zip ws/\
   ali vs hi/\ali ws hh/\hi.length+eO.size=hh.length+items.size/\R (.ok (.ret (.bool (h7 hi hh)))) ⟨aL,g,d,tk,os⟩) _
  case turn=>
   rintro⟨y,x⟩ rest b s' ⟨k7,rfl,vs,ws,hi,hh,hz,lh,lj,hlen,dQ⟩
   cases lh with
   |nil=>rw[aom]at hz;cases hz
   |cons a t uX=>
    cases lj with
    |nil=>rw[an4]at hz;cases hz
    |cons c u uY=>
     rw[alN]at hz;injection hz with u0 uU
     injection u0 with a' ai
     subst a' ai;unfold h7 at dQ;rw[qC]at dQ;simp only[akn]at hlen;obtain⟨e,he,o6⟩:=da.Bj A.in1 ⟨aL,g,d,tk,os⟩ a t c u;refine ajX (he prog w _ _ ?_)
     cases e with
     |true=>
      rw[if_pos (o6.mp rfl)]at dQ
      wp_walk
      exact⟨rfl,rfl,_,_,_,_,uU,uX,uY,by omega,dQ⟩
     |false=>
      rw[if_neg (λq=>absurd (o6.mpr q) aj7)]at dQ;have uV:∀(E:b')(Q:b'),Q (.bool (decide (c<=a))) ⟨aL,g,d,tk,os⟩->wpAny (model prog w) A.in1 (ao4 .GtE (.int a t) (.int c u)) Q E ⟨aL,g,d,tk,os⟩:=λE Q h=>(PyProof.Rows.ge_int h:wpAny (model prog w) A.in1 (akG .GtE (.int a t) (.int c u)) Q E _)
      wp_walk using uV
      exact⟨_,rfl,by simpa using dQ⟩
  case fin=>
   rintro⟨b3,bY⟩ s' ⟨k7,rfl,vs,ws,hi,hh,hz,lh,lj,hlen,dQ⟩;simp only at k7;subst k7;have bu:h7 hi hh=decide (eO.size<=items.size):=by
    cases lh with
    |nil=>
     unfold h7;rw[CV];simp only[alc]at hlen;exact decide_eq_decide.mpr (by omega)
    |cons a t bu=>
     cases lj with
     |nil=>
      unfold h7;rw[CW];simp only[alc]at hlen;exact decide_eq_decide.mpr (by omega)
     |cons c u hw=>
      rw[alN]at hz;cases hz
   rw[bu]at dQ
   wp_walk
   exact⟨_,rfl,by simpa[amq]using dQ⟩
  case h=>
   exact⟨rfl,rfl,items.toList,eO.toList,ns,ms,rfl,aA,aR,by omega,h⟩
end
def Vm{prog:aki}{w:World}{A:akm}{E:b'}{s:aj0}{l b:Addr}{items eO:Array Value}{ns ms:List Int}{Q:b'}(hl:IsTup s.heap l items)(aa:IsTup s.heap b eO)(aA:ali items.toList ns)(aR:ali eO.toList ms)
  (cp:A.units<cLine) (h:Q (.bool (h7 ns ms)) s):wpAny (model prog w) A (akG .GtE (.ref l) (.ref b)) Q E s:=by
 obtain⟨⟨cls,dd,data,cq⟩,aT,hc,n,hd⟩:=id hl;obtain⟨⟨Hx,kT,data2,jv⟩,o8,hb,dG,hd2⟩:=id aa;simp only at hc hd hb hd2;subst hc hd hb hd2;exact ani (op:=.GtE) ⟨_,aT,rfl⟩ ⟨_,o8,rfl⟩ PySem.F.slot_tuple_ge PySem.F.entry_tuple_ge (PySem.F.args_tuple_ge_2 _ _) (afo l b items eO n dG dd kT cq jv ns ms aA aR)
  ⟨aT,o8,show amL (h7 ns ms)≠anG/\Q (.bool (h7 ns ms)) s from⟨(λx=>nomatch x),h⟩⟩ cp
def aaR(cp:X.A.units+64<cLine):dN X (akG .GtE) (λx y H Q=>∃a b ns ms,x=.ref a/\y=.ref b/\dj X.K H a (ns.map V.int)/\dj X.K H b (ms.map V.int)/\Q (.au (h7 ns ms)) H):=by
 intro zn s Y H x y v u Q I aU bz h;obtain⟨a,b,ns,ms,rfl,rfl,ao,aa,q⟩:=h;cases aU;cases bz;obtain⟨its,bF,p1,_⟩:=I.tuple ao;obtain⟨lp,b5,cy,_⟩:=I.tuple aa;exact Vm p1 cy (intsAre_of bF) (intsAre_of b5) (by omega) ⟨.au (h7 ns ms),H,I,rfl,q⟩
end ax
namespace aE
open PySem PySem.Spec ax
def pF(g:List Int->List Int->Bool):R->R->M R
 |.v (.tup xs),.v (.tup ys)=>match nums xs,nums ys with
  |some ns,some ms=>pure (.v (.au (g ns ms)))|_,_=>bad
 |_,_=>bad
variable[ax.aX]
def FQ{g:List Int->List Int->Bool}:dS K mg (λx y H Q=>∃a b ns ms,x=.ref a/\y=.ref b/\dj K H a (ns.map V.int)/\dj K H b (ms.map V.int)/\Q (.au (g ns ms)) H) (pF g):=λO Y S aq H x y aU bz bH ar Q st ai a' h q=>by
 unfold pF at h;split at h
 .rename_i xs ys
  split at h
  .rename_i ns ms aw aG
   cases h;obtain⟨a,as,rfl,qA,bx⟩:=ai;obtain⟨b,bs,rfl,Kb,lK⟩:=a';rw[y7 bx aw]at qA;rw[y7 lK aG]at Kb;exact⟨a,b,ns,ms,rfl,rfl,qA,Kb,q O _ H (Go.refl _ _) st rfl trivial⟩
  .cases h
 .cases h
end aE
namespace aE
open PySem PySem.Spec ax PyProof.Rows
def pg(x:Str):Str:=x++akj ".<locals>."++akj "<lambda>"
def nR(K:aM)(P:Addr)(x:Str):Bool:=match W.tabIn K x with
 |some (_,p6)=>p6==P|none=>false
abbrev tg(K:aM)(ln:List Str):aX:=⟨λP=>∃x∈ln,∃c,W.tabIn K x=some (c,P),λP=>match ln.find? (nR K P)with
 |some x=>pg x| none=>""⟩
def ab2{K:aM}{ln:List Str}{x:Str}{c P:Addr}(ai:x∈ln)(bC:W.tabIn K x=some (c,P))(inj:∀y∈ln,nR K P y=true->y=x):(tg K ln).sZ P=pg x:=by
 show(match ln.find? (nR K P)with|some x=>pg x|none=>"")=_;have Yd:nR K P x=true:=by unfold nR;rw[bC];exact beq_self_eq_true P
 cases e:ln.find? (nR K P)with
 |none=>exact absurd Yd (List.find?_eq_none.mp e x ai)|some y=>
  dsimp only;rw[inj y (aot e) (List.find?_some e)]
def q8{K:aM}{x:Str}{f c P:Addr}{cw za:Value}{cT DA:Option Addr}{fd:ak4}{cq n':Array (Option Value)}{vs:Array Value}(a:anh K akx x=some (some (.ref f)))(l:K.lookup f=some ⟨cw,cT,.func fd,cq⟩)(hc:fd.code=.ref c)
  (d:K.lookup c=some ⟨za,DA,.fields vs,n'⟩) (e:vs[11]? = some (.ref P)):W.tabIn K x=some (c,P):=by
 unfold W.tabIn;rw[a];simp only[l,hc,d,e]
def Xi{K:aM}{c P:Addr}{cT:Option Addr}{cq:Array (Option Value)}{vs:Array Value}{file:Str}{zG b7 tt:Tok}{flags text:Int}{yq:Bool}(d:K.lookup c=some ⟨.type "code",cT,.fields vs,cq⟩)(rV:vs[11]? = some (.ref P))(Bp:vs.getD 11 .none=.ref P)
  (Bq:vs.getD 18 .none=.str file zG) (Br:vs.getD 7 .none=.int flags b7) (Bs:vs.getD 9 .none=.bool yq) (Bo:vs.getD 10 .none=.int text tt) (ne:c≠P):∀h,K.In h->W.CodeHd h c P:=λh X=>
 ⟨_,vs,file,zG,flags,b7,yq,text,tt,X _ _ d,rfl,rfl,rV,Bp,Bq,Br,Bs,Bo,ne⟩
def SR{K:aM}{st:Stmt}{H8:ak4}(X:K.In h)(G:h.Ns akx mg)(a:anh K akx x=some (some (.ref Vj)))(l:K.lookup Vj=some ⟨ajC,ajD,.func H8,ajO⟩)(hc:H8.code=.ref c) :
  ∀(f:Addr)(cw:Value)(cT:Option Addr)(cv doc pm:Value)(an:Option Addr)(bc cb:Value)(eP:Array (Option Value)),mg x=some (.ref f)->K.lookup f=some ⟨cw,cT,.func (alM x x (hv st) (eU st) (bk st) .none cv doc pm an bc cb),eP⟩->bc=.ref c:=by
 intro f cw cT cv doc pm an bc cb eP hm hl;have e:=anS X G a;rw[hm]at e;cases e;rw[l]at hl;cases hl;exact hc
def Pr{l:W.OpenLaw}{w:World}{K:aM}{mg:a9}{dU:Addr}{k:Nat}{st:Stmt}[ax.aX](Xx:mg "law"=some (.ref dU))(OV:b1 K mg "law" st ["script"])
  (aa:∀(cv doc pm:Value)(an:Option Addr)(bc cb v:Value),amf (alM "law" "law" (hv st) (eU st) (bk st) .none cv doc pm an bc cb) ⟨[v],[]⟩=pure [(("script":Str),v)])
  (ok:∀(base:Heap),jy base mg->∀(f:Addr)(fd:ak4),j3 K "law" "law" st f fd->ez l.prog w K mg base eh k f fd ["script"] (wc K)) :
  ∃fd:ak4,(∀(s:aj0)(v:Value),BindsTo s fd ⟨[v],[]⟩ [("script",v)])/\∀base:Heap,K.In base->base.Ns akx mg->jy base mg->ez l.prog w K mg base eh k dU fd ["script"] (wc K):=by
 obtain⟨f,fd,F,b,m⟩:=OV.ex;have e:akl dU=akl f:=aky (Xx.symm.trans m);cases e;refine⟨fd,λs v=>?_,λbase _ _ bm=>ok base bm dU fd F⟩;obtain⟨cw,cT,cv,doc,pm,an,bc,cb,eP,rfl,lk,ew⟩:=F.ex;exact .of_eq (aa cv doc pm an bc cb v)
def Zw{P:aki}{w:World}{K:aM}{mg cE:a9}{k:Nat}{dU a:Addr}{fd:ak4}{c_:aj0}{vs:List Value}{ns:List Int}[ax.aX]
  (bl:K.In c_.heap) (yh:c_.heap.Ns akx mg) (aa:c_.heap.Ns aon cE) (Xe:∀x:Str,x≠"__name__"->cE x=akJ x) (XM:c_.heap.NoLimit) (a3:c_.gens=#[])
  (ao:c_.heap.get? a=some { cls:=.type "list",data:=.seq vs.toArray }) (aA:ali vs ns) (hl:ns.length<=63) (aD:cg k aox)
  (BX:jy c_.heap mg) (F:∀base:Heap,K.In base->base.Ns akx mg->jy base mg->ez P w K mg base eh k dU fd ["script"] (wc K)) (k_:∀(s:aj0)(u:Value),BindsTo s fd ⟨[u],[]⟩ [("script",u)])
  (eA:∀p,aX.fu p->c_.heap.get? p=some (W.tabObj #[])/\isCodeTable c_.heap p/\K.lookup p=none) :
  amd (model P w) aox (.call (.ref dU) ⟨[.ref a],[]⟩) (λr s'=>r=.ok (.ret (.bool true))/\OldK c_.heap s'.heap/\s'.os=c_.os/\amR s'.gens) c_:=by
 have bG:=Oj aA;have ZF:=aA.length;have Jg:ns.length<=aj6:=by rw[akK];omega
 have aae:¬aX.fu a:=λz=>by have:=(eA a z).1;rw[ao]at this;cases this
 have core:∀H:ah,(∀b,H b=none\/(∃o xs,H b=some (.cc o (.lst xs)))\/(aX.fu b/\H b=some (.ft #[])))->du K H a (ns.map V.int)->TabsOk H->et P w H c_.heap->(∀b,H b≠none->b=a\/aX.fu b)->(∀b,H b≠none->K.lookup b=none)->
   amd (model P w) aox (.call (.ref dU) ⟨[.ref a],[]⟩) (λr s'=>r=.ok (.ret (.bool true))/\OldK c_.heap s'.heap/\s'.os=c_.os/\amR s'.gens) c_:=by
  intro H VO fc VR bA r8 gU;have vK:∀{b:Addr}{o:Obj}{ay:Array ant}{cn:Nat},c_.heap.get? b=some o->o.data=.dict ay cn->H b=none:=λ{b o ay cn} e d=>by
   cases q:H b with
   |none=>rfl|some u=>
    rcases r8 b (by rw[q];simp)with bZ|bZ
    .subst bZ
     rw[ao]at e;cases e;cases d
    .rw[(eA b bZ).1]at e;cases e
     cases d
  have y5:∀{b:Addr}{m:a9},c_.heap.Ns b m->(nN c_.heap H).Ns b m:=λ{b m} ⟨o,ay,cn,e,d,r⟩=>⟨o,ay,cn,B5 e (vK e d),d,r⟩
  have IJ:K.In (nN c_.heap H):=λb o e=>B5 (bl b o e) (by
   cases q:H b with
   |none=>rfl| some u=>rw[gU b (by rw[q];simp)]at e;cases e)
  have VN:Mod K mg (nN c_.heap H):=⟨IJ,y5 yh,⟨cE,y5 aa,Xe⟩,let⟨eD,ae,ag⟩:=XM;⟨eD,y5 ae,ag⟩⟩;have dk:j2 P w K mg (nN c_.heap H) aox [] c_ H:=⟨rfl,VN,λb o e=>aaF e,amF (XD _ _),trivial,λb aa=>absurd (show b∈([]:List Addr)from aa) (by simp),bA,.of_eq a3⟩;have VI:jy (nN c_.heap H) mg:=by
   obtain⟨bm,o,b3,bY,fa,g9,hY,p8,tZ⟩:=BX.ex;refine⟨bm,o,b3,bY,fa,B5 g9 ?_,hY,p8,tZ⟩
   cases q:H bm with
   |none=>rfl|some u=>
    rcases r8 bm (by rw[q];simp)with bZ|bZ
    .subst bZ
     rw[ao]at g9;cases g9;cases tZ
    .rw[(eA bm bZ).1]at g9;cases g9
     cases tZ
  refine amg ((F _ IJ (y5 yh) VI).run aox [] c_ H ⟨[.ref a],[]⟩ [.ref a] [.ref a] (λv _=>v=.au true) hU aD dk (k_ c_ (.ref a)) (.cons rfl .nil) ⟨a,ns,rfl,fc,hl,VR,λ_=>rfl⟩) λr s' h=>?_
  cases r with
  |error e=>exact akv h|ok aW=>
   cases aW with
   |next=>exact akv h
   |brk=>exact akv h|cont=>exact akv h|ret u=>
    obtain⟨v,H',os,bare,un,Jk,bH,q⟩:=h;have g5:v=.au true:=q;subst g5;obtain rfl:u=amL true:=bH;have each:∀b o,c_.heap.get? b=some o->asItWas c_.heap s'.heap b o/\∃c7,s'.heap.get? b=some c7:=λb o e=>by
     rcases VO b with z|⟨bh,xs,z⟩|⟨t,z⟩
     .have:=un.keep b o e z (by intro w;exact absurd (show b∈([]:List Addr)from w) (by simp)) (by simp)
      exact⟨.inl this,o,this⟩
     .have d7:=un.ke b bh _ z
      obtain⟨aw,_⟩:=bA b _ z;obtain⟨aG,_⟩:=Jk b _ d7;rw[e]at aw;cases aw;exact⟨.inl aG,_,aG⟩
     .obtain⟨more,d7⟩:=un.kz b #[] z
      have aG:s'.heap.get? b=_:=Jk b _ d7;rw[(eA b t).1]at e;cases e;exact⟨.inr (.inl ⟨(eA b t).2.1,rfl,#[],more,rfl,aG⟩),_,aG⟩
    exact⟨rfl,⟨λb o e=>(each b o e).1,λb o e=>(each b o e).2⟩,os,bare⟩
 classical
 have N0:∀(H:ah),(∀p,aX.fu p->H p=some (.ft #[]))->TabsOk H:=λH h p aL=>⟨#[],h p aL,trivial,λpos hK z=>by cases z⟩
 cases aB:K.lookup a with
 |some o=>
  have e:=bl a o aB;rw[ao]at e;cases e;refine core (λb=>if aX.fu b then some (.ft #[])else none) (λb=>?_) (.inr ⟨_,vs.toArray,_,aB,rfl,rfl,rfl,by rw[akd,ZF];exact Jg,by simpa using bG⟩) (N0 _ λp aL=>if_pos aL) (λb u z=>?_) (λb z=>?_) λb z=>?_
  .by_cases t:aX.fu b
   .exact .inr (.inr ⟨t,if_pos t⟩)
   .exact .inl (if_neg t)
  .by_cases t:aX.fu b
   .have iC:=(if_pos t).symm.trans z
    cases iC;exact(eA b t).1
   .have iC:=(if_neg t).symm.trans z
    cases iC
  .by_cases t:aX.fu b
   .exact .inr t
   .exact absurd (if_neg t) z
  .by_cases t:aX.fu b
   .exact(eA b t).2.2
   .exact absurd (if_neg t) z
 |none=>
  refine core (λb=>if b=a then some (.cc { cls:=.type "list",data:=.seq vs.toArray } (.lst (ns.map V.int)))else if aX.fu b then some (.ft #[])else none) (λb=>?_) (.inl (.inr ⟨{ cls:=.type "list",data:=.seq vs.toArray },if_pos rfl⟩)) (N0 _ λp aL=>?_) (λb u z=>?_) (λb z=>?_) λb z=>?_
  .by_cases aa:b=a
   .exact .inr (.inl ⟨_,_,if_pos aa⟩)
   .by_cases t:aX.fu b
    .exact .inr (.inr ⟨t,by rw[if_neg aa,if_pos t]⟩)
    .exact .inl (by rw[if_neg aa,if_neg t])
  .rw[if_neg (by rintro rfl;exact aae aL),if_pos aL]
  .by_cases aa:b=a
   .have iC:=(if_pos aa).symm.trans z
    cases iC;subst aa;exact⟨ao,by rw[aj2];exact Jg,vs,_,bG,ao⟩
   .try dsimp only at z
    rw[if_neg aa]at z
    by_cases t:aX.fu b
    .rw[if_pos t]at z;cases z
     exact(eA b t).1
    .rw[if_neg t]at z;cases z
  .by_cases aa:b=a
   .exact .inl aa
   .try dsimp only at z
    rw[if_neg aa]at z
    by_cases t:aX.fu b
    .exact .inr t
    .rw[if_neg t]at z;exact absurd rfl z
  .by_cases aa:b=a
   .rw[aa];exact aB
   .try dsimp only at z
    rw[if_neg aa]at z
    by_cases t:aX.fu b
    .exact(eA b t).2.2
    .rw[if_neg t]at z;exact absurd rfl z
def afN{l:W.OpenLaw}{q:aki}{k:Nat}{loose:List Str}{w9:(Str->Option Value)->Heap->Prop}{tX:World->Heap->Prop}{d:DefRec}{K:Params->aM}(ln:List Str)(aF:l.most=some 63)(B0:d.params.defaults=[])(aD:cg k aox)
  (Cb:∀x∈ln,∃d,(recsOf q).find? (λe=>e.name==x)=some d) (XU:∀p,W.noTabs (K p)=true)
  (VU:∀(w:World)(h:Heap),tX w h->(K w.params).In h)
  (F:∀(w:World)(mg:a9)(dU:Addr)(h:Heap),(K w.params).In h->h.Ns akx mg->mg d.name=some (.ref dU)->
   ∃fd:ak4,(∀(s:aj0)(u:Value),BindsTo s fd ⟨[u],[]⟩ [("script",u)])/\∀base:Heap,(K w.params).In base->base.Ns akx mg->jy base mg->@ez l.prog w (K w.params) mg base eh k dU fd ["script"] (@wc (tg (K w.params) ln) (K w.params))) :
  W.WalkO q loose w9 tX l.row.toRowW d [] (λf vs=>PySem.call f vs):=by
 refine Fi.PC aF B0 λw gk c_ mg cE dU o pm cd doc a vs ns G σ aT hd ew uR B_ hints hlen a3=>?_
 have bl:=VU w _ σ;obtain⟨fd,aa,c0⟩:=F w mg dU _ bl G.T.g uR
 letI:=tg (K w.params) ln
 have BX:jy c_.heap mg:=by
  obtain⟨bm,bh,b3,bY,fa,g9,hY,p8⟩:=G.T.bmain;refine⟨bm,bh,b3,bY,λq=>?_,fa,g9,hY,p8⟩;obtain⟨o,ay,cn,e,hd,_⟩:=G.T.g;rw[q,e]at fa;cases fa;rw[hd]at p8;cases p8
 refine Zw bl G.T.g G.T.b G.T.builtins G.T.nolimit a3 B_ hints hlen aD BX c0 aa λp aO=>?_
 obtain⟨x,ai,c,bC⟩:=aO;obtain⟨d,hd⟩:=Cb x ai;obtain⟨ae,ag⟩:=W.tab_of G.T bl hd bC;refine⟨ag,(ae.tab ag).isCodeTable,?_⟩
 cases e:(K w.params).lookup p with
 |none=>rfl|some o=>
  have aG:=bl p o e;rw[ag]at aG;cases aG;have bO:=alp.mp (XU w.params) (p,_) (W.mem_of_lookupK e);exact absurd (show false=true from bO) aj7
def CX{K:aM}{h:Heap}{mg:a9}{x:Str}{st:Stmt}{ln:List Str}{f c P:Addr}{cw za:Value}{cT DA:Option Addr}{fd:ak4}{cq n':Array (Option Value)}{vs:Array Value}{file:Str}{zG b7 tt:Tok}{flags text:Int}{yq:Bool}(X:K.In h)(G:h.Ns akx mg)(ai:x∈ln)
  (a:anh K akx x=some (some (.ref f))) (l:K.lookup f=some ⟨cw,cT,.func fd,cq⟩) (hc:fd.code=.ref c) (d:K.lookup c=some ⟨za,DA,.fields vs,n'⟩) (se:za=.type "code") (rV:vs[11]? = some (.ref P)) (Bp:vs.getD 11 .none=.ref P)
  (Bq:vs.getD 18 .none=.str file zG) (Br:vs.getD 7 .none=.int flags b7) (Bs:vs.getD 9 .none=.bool yq) (Bo:vs.getD 10 .none=.int text tt) (ne:c≠P) (inj:∀y∈ln,nR K P y=true->y=x) :
  ∃c P,@l' (tg K ln) K c P (pg x)/\∀(f:Addr)(cw:Value)(cT:Option Addr)(cv doc pm:Value)(an:Option Addr)(bc cb:Value)(eP:Array (Option Value)),mg x=some (.ref f)->K.lookup f=some ⟨cw,cT,.func (alM x x (hv st) (eU st) (bk st) .none cv doc pm an bc cb),eP⟩->bc=.ref c:=by
 subst se;have bC:=q8 a l hc d rV;exact⟨c,P,@l'.mk (tg K ln) K c P (pg x) (Xi d rV Bp Bq Br Bs Bo ne) ⟨x,ai,c,bC⟩ (ab2 ai bC inj),SR X G a l hc⟩
end aE
namespace aE
open PySem PySem.Spec ax PyProof.Rows
variable[ax.aX]
section
variable{X:aJ}{k:Nat}{e:Expr}{cA:bf}{Z:hV}{p pos kp:Pos}
def Oo{c P:Addr}{q p1:Str}{params:am2}{body:Expr}{scope:Scope}{ly:Pos}{N:List Str}{m:bf}(jh:Z.Ok)(a3:dD X "sorted")(hm:X.mg "sorted"=none)(aD:cg (k+3) X.A)(L:l' X.K c P q)(B:jy X.base X.mg)(mC:X.env.code=.ref c)
  (a6:X.env.qual++akj "<lambda>"=q) (Sc:bP N [p1] scope)
  (k_:∀(c:Addr)(pm gy u:Value),amf (W.kla_fn (akj "<lambda>") q params body scope [] pm (.ref c) gy) ⟨[u],[]⟩=pure [(p1,u)])
  (aa:∀(f c:Addr)(A:akm)(s:aj0)(H:ah),cg k (A.deeper (amG q scope s.heap.objs.size f (.ref c)))->a5 (fl eh X.prog X.w X.K X.mg X.base N q scope f (.ref c) A X.stack s H hU).fZ body m)
  (ao:a5 X e cA) (nL:aos params X.env=([],[]):=by rfl) (mB:amu scope X.env=pure []:=by rfl)
  (he:ako pos (ajY [e] X.env)=(false,eval e X.env)::ako pos (ajY [] X.env):=by rfl)
  (az:ajY [e] X.env=(false,eval e X.env)::ajY [] X.env:=by rfl)
  (gW:(ako pos (ajY [e] X.env)).any (·.1)=false:=by rfl) :
  a5 X (.Call (.Name "sorted" p) [e] [⟨some (akj "key"),.Lambda params body scope ly,kp⟩] pos) (p' Z (fnOf 1 N.length (bg m)) cA):=
 ⟨SF jh a3 hm aD L B mC a6 Sc k_ (λf c A s H aD=>(aa f c A s H aD).un) ao.un nL mB he az gW⟩
end
end aE
namespace aE
open PySem PySem.Spec ax PyProof.Rows
def rU(z:Str)(lo aA:Option Int):Str:=⟨(cutD z.cps.toList lo aA).toArray⟩
def Dx:R->Option Int->Option Int->M R
 |.v (.str z),lo,aA=>if z.length<=aj6 then pure (.v (.str (rU z lo aA)))else bad|_,_,_=>bad
def AV(a:bf)(lo aA:ma):bf:=λY=>do
 let x <-a Y
 let l <-lo Y
 let h <-aA Y
 Dx x l h
def part_of{v:Value}{o:Option Int}(h:anf v o):∃l:Option (Int×Tok),v=partValue l/\l.map (·.1)=o:=by
 cases h with
 |none=>exact⟨none,rfl,rfl⟩|int i t=>exact⟨some (i,t),rfl,rfl⟩
def Mi(n d:Nat)(hd:d<=n)(o:Option Int):da.ck n d o<=n:=by
 unfold da.ck
 cases o with
 |none=>exact hd|some i=>simp only[];split<;>omega
def abK(z:Str)(lo aA:Option Int):(al0 lo aA 1 z.length).filterMap (λx=>z.cps[x]?)=cutD z.cps.toList lo aA/\(al0 lo aA 1 z.length).length=da.ck z.length z.length aA-da.ck z.length 0 lo:=by
 obtain⟨ae,ag,bO⟩:=NI lo aA z.length;have e:al0 lo aA 1 z.length=sliceRange (alJ lo aA none z.length).1 (alJ lo aA none z.length).2.1 1:=rfl;rw[e,ae,ag,sliceRange_one];refine⟨?_,by rw[aj2,List.length_range]⟩;rw[pick_run];unfold cutD;rw[show z.cps.toList.length=z.length from akN]
def S2{z:Str}{lo aA:Option Int}(h:da.ck z.length z.length aA-da.ck z.length 0 lo=z.length):rU z lo aA=z:=by
 have ae:=Mi z.length 0 (akA _) lo;have ag:=Mi z.length z.length (aj8 _) aA;have m_:z.cps.toList.length=z.length:=akN;unfold rU cutD;rw[m_];have ao:da.ck z.length 0 lo=0\/z.length=0:=by omega
 have:(z.cps.toList.drop (da.ck z.length 0 lo)).take (da.ck z.length z.length aA-da.ck z.length 0 lo)=z.cps.toList:=by
  rcases ao with ao|ao
  .rw[ao,List.drop_zero,amA (by omega)]
  .have:z.cps.toList=[]:=anN (by omega)
   rw[this];simp
 rw[this]
def S0(z:Str)(lo aA:Option Int):(rU z lo aA).length<=z.length:=by
 show(cutD z.cps.toList lo aA).toArray.size<=z.cps.size;rw[akd];unfold cutD;rw[amh,akY,akN];omega
def ad5:nj X (λx lo aA H Q=>∃z,x=.str z/\z.length<=aj6/\Q (.str (rU z lo aA)) H):=by
 rintro zn s Y H x v fh f7 lo aA cq Q I aU az pl pu ⟨z,ex,hz,q⟩;subst ex;obtain⟨t,rfl⟩:=aU;obtain⟨l,rfl,el⟩:=part_of pl;obtain⟨u,rfl,jI⟩:=part_of pu;refine⟨"str",_,slot_str_getitem.lookup,typeIs_str s z t,?_⟩;refine wpAny_getItem_str_slice (l:=l) (u:=u) (st:=none) az rfl ?_;obtain⟨p1,cy⟩:=abK z lo aA;have cn:slicePicked z l u none=al0 lo aA 1 z.length:=by
  unfold slicePicked;rw[el,jI];rfl
 unfold sliceMade;rw[cn,cy]
 by_cases c:da.ck z.length z.length aA-da.ck z.length 0 lo=z.length
 .rw[if_pos (by simp[c])]
  rw[S2 c]at q;exact⟨.str z,H,I,⟨t,rfl⟩,q⟩
 .rw[if_neg (by simp[c])]
  show _<=aj6/\_;rw[p1];refine⟨akS (S0 z lo aA) hz,.str (rU z lo aA),H,?_,⟨s.toks,rfl⟩,q⟩;exact I.kept (t':=s.toks+1) λb o e=>e
variable[ax.aX]
section
variable{X:aJ}{e:Expr}{m:bf}{lo aA:Option Expr}{pz vr:ma}{pos cy:Pos}
def agc(he:a5 X e m)(hl:oM X lo pz)(cp:oM X aA vr):a5 X (.Subscript e (.Slice lo aA none cy) pos) (AV m pz vr):=⟨dK (LB ad5 he.un hl.un cp.un) λaq H Q aO=>by
 obtain⟨O,Y,S,r,ar,st,h,q⟩:=aO;obtain⟨x,S1,ae,ao⟩:=M.inv h;clear h;obtain⟨l,a7,ag,aa⟩:=M.inv ao;clear ao;obtain⟨u,gw,bO,h⟩:=M.inv aa;clear aa;refine⟨O,Y,S,x,S1,st,ae,λaH es H1 g1 aP aU bw=>?_⟩;refine⟨aH,Y,S1,l,a7,aP,ag,λa_ aK g2 cf=>?_⟩;refine⟨a_,Y,a7,u,gw,cf,bO,λd_ cI g3 f6=>?_⟩;have g:=(g1.trans g2).trans g3;unfold Dx at h;split at h
 .rename_i z
  by_cases c:z.length<=aj6
  .rw[if_pos c]at h
   cases h;cases(show es=.str z from aU);exact⟨z,rfl,c,q d_ _ cI g f6 rfl trivial⟩
  .rw[if_neg c]at h;cases h
 .cases h⟩
end
end aE
namespace aE
open PySem PySem.Spec ax PyProof.Rows
structure tL(P:aki)(w:World)(K:aM)(mg:a9)(x:Str)(ps:List (Str×Str)):Prop where
 ex:∃(a:Addr)(ay:Array ant)(n:Nat),mg x=some (.ref a)/\alI a K=some { cls:=.type "dict",data:=.dict ay n }/\KeysOf (anm P w) ay/\
  ∀k fn,ps.lookup k=some fn->∃f,anZ akX ay k=some (.ref f)/\mg fn=some (.ref f)
@[simp] def AX(ps:List (Str×Str))(mk:bf)(Y:aQ):M R:=do
 let k <-mk Y
 match k with
 |.v (.str z)=>match ps.lookup z with
  |some fn=>pure (.v (.fn fn))|none=>bad
 |_=>bad
@[simp] def AU(i:Nat)(fs:List (Str×bq))(ms:cU)(Y:aQ):M R:=match Y[i]? with
 |some (.v (.fn f))=>match fs.lookup f with
  |some mf=>bj mf ms Y|none=>bad
 |_=>bad
def aeT(mg:a9)(ps:List (Str×Str))(ty:TE):TE:=λY H Q=>ty Y H λy H1=>∃z fn f,y=.str z/\ps.lookup z=some fn/\mg fn=some (.ref f)/\Q (.ref f) H1
variable[ax.aX]
section
variable{X:aJ}{x:Str}{ps:List (Str×Str)}{i:Expr}{pos p:Pos}{ty:TE}{mk:bf}{j k:Nat}{e:Expr}{ay:List Expr}{ms:cU}{pp:List Str}{fs:List (Str×bq)}
omit [ax.aX]in
theorem abA(T:tL X.prog X.w X.K X.mg x ps)(a3:dD X x)(aA:bM X i ty)(az:tS i)(dA:(x==("__debug__":Str))=false:=by decide):bM X (.Subscript (.Name x p) i pos) (aeT X.mg ps ty):=by
 intro zn s Y H Q I h;obtain⟨a,ds,n,hm,hl,aB,hf⟩:=T.ex;refine NS aoq.lookup az (mM I a3 hm ?_ dA);refine bN (aA zn s Y H _ I h) λpe s2 aO=>?_
 obtain⟨y,aK,bS,bz,z,fn,f,fb,el,em,b2⟩:=aO;subst fb;obtain⟨t,rfl⟩:=bz;have ao:=bS.dW a _ hl;obtain⟨qc,aw,aG⟩:=hf z fn el;rw[em]at aG;cases aG;refine⟨⟨_,ao,rfl⟩,?_⟩;refine wpAny_getItem_of (knd:=anm X.prog X.w) (k:=z) (f:=anZ akX ds) (v:=.ref f) ?_ ?_ aw ?_
 .show(z==z)=true
  simp
 .exact⟨_,ds,n,ao,⟨rfl,rfl,rfl⟩,rfl,aB,λ_=>rfl⟩
 .exact⟨.ref f,aK,bS.tok _,rfl,b2⟩
omit [ax.aX]in
theorem abj(hN:X.N[j]? = some x)(bu:j9 X.env.scope x)(aD:cg k X.A){t:fj}(ao:gd X (e::ay) t)(dA:(x==("__debug__":Str))=false:=by decide)(ew:(x==("__classdict__":Str))=false:=by decide)
  (he:ajY (e::ay) X.env=(false,eval e X.env)::ajY ay X.env:=by rfl) (dJ:(ako pos (ajY ay X.env)).any (·.1)=false:=by rfl) :
  bM X (.Call (.Name x p) (e::ay) [] pos) (λY H Q=>∃(f:Addr)(fd:ak4)(sp:dP),Y[j]? = some (some (.ref f))/\ez X.prog X.w X.K X.mg X.base eh k f fd pp sp/\Binds X.K fd pp []/\alW X.K (.ref f)=true/\t Y H λvs H1=>sp vs H1 Q hU):=by
 rintro zn s Y H Q I ⟨f,fd,sp,ev,F,b,kp,h⟩;refine alx (bN (pI hN bu dA ew zn s Y H (λv H'=>v=.ref f/\H'=H) I ⟨.ref f,ev,rfl,rfl⟩) λu s1 aO=>?_);obtain⟨v,H1,aV,bF,aw,aG⟩:=aO;subst aw aG;obtain rfl:u=akl f:=bF;refine anD (h₀:=X.base) I.ok.mod.pf kp (bN (ao pos zn s1 Y H1 _ aV h) λus s2 ⟨vs,aK,bS,r,q⟩=>⟨bS.dW,?_⟩) he dJ;exact v7 (dvs:=[]) (ds:=[]) F aD b .nil sT bS r (by simpa only[ak3]using q)
def Oq(T:tL X.prog X.w X.K X.mg x ps)(a3:dD X x)(aA:a5 X i mk)(az:tS i:=by exact λ_ _=>rfl)(dA:(x==("__debug__":Str))=false:=by decide):a5 X (.Subscript (.Name x p) i pos) (AX ps mk):=⟨dK (abA T a3 aA.un az dA) λaq H Q aO=>by
 obtain⟨O,Y,S,r,ar,st,h,q⟩:=aO;obtain⟨y,S1,ae,h⟩:=M.inv h;split at h
 .rename_i z
  split at h
  .rename_i fn el
   cases h;obtain⟨_,_,_,_,_,_,hall⟩:=T.ex;obtain⟨f,_,em⟩:=hall z fn el;refine⟨O,Y,S,_,_,st,ae,λaH v H1 g1 aP ba nn=>?_⟩;exact⟨z,fn,f,ba,el,em,q aH _ H1 g1 aP ⟨f,rfl,em⟩ trivial⟩
  .cases h
 .cases h⟩
def af0(XA:∀f mf,fs.lookup f=some mf->bT X.prog X.w X.K X.mg X.base f pp k (bL X.K X.mg mf))(hN:X.N[j]? = some x)(bu:j9 X.env.scope x)(aD:cg k X.A)(ao:fQ X (e::ay) ms)(dA:(x==("__debug__":Str))=false:=by decide)(ew:(x==("__classdict__":Str))=false:=by decide)
  (he:ajY (e::ay) X.env=(false,eval e X.env)::ajY ay X.env:=by rfl) (dJ:(ako pos (ajY ay X.env)).any (·.1)=false:=by rfl):a5 X (.Call (.Name x p) (e::ay) [] pos) (AU j fs ms):=⟨dK (abj (pp:=pp) hN bu aD ao.un dA ew he dJ) λaq H Q aO=>by
  obtain⟨O,Y,S,r,ar,st,h,q⟩:=aO;unfold AU at h;split at h
  .rename_i f Bg
   split at h
   .rename_i mf el
    obtain⟨dU,fd,F,b,kp,m⟩:=(XA f mf el).ex;obtain⟨v,ev,a,rfl,em⟩:=st.loc j _ Bg;have:a=dU:=by
     rw[m]at em;cases em;rfl
    subst this;have U4:aq[j]? = some (some (.ref a)):=by
     cases w:aq[j]? with
     |none=>rw[w]at ev;cases ev
     |some y=>rw[w]at ev;exact congrArg some ev
    exact⟨a,fd,_,U4,F,b,kp,AZ aq H Q ⟨O,Y,S,r,ar,st,h,q⟩⟩
   .cases h
  .cases h⟩
end
omit [ax.aX]in
theorem lookup_all{α β:Type}[BEq α][LawfulBEq α]{P:α->β->Prop}:∀{l:List (α×β)},(∀x∈l,P x.1 x.2)->∀a b,l.lookup a=some b->P a b
 |[],_,_,_,h=>by cases h
 |(c,d)::l,aL,a,b,h=>by
  rw[akH]at h;split at h
  .rename_i e
   cases h;rw[eq_of_beq e];exact aL _ akh
  .exact lookup_all (λx ai=>aL x (akg _ ai)) a b h
omit [ax.aX]in
theorem U'{P:aki}{w:World}{K:aM}{h:Heap}{mg:a9}{x:Str}{d:Addr}{ay:Array ant}{n:Nat}{ps:List (Str×Str)}(X:K.In h)(G:h.Ns akx mg)
  (a:anh K akx x=some (some (.ref d))) (l:alI d K=some { cls:=.type "dict",data:=.dict ay n }) (k:∀e∈ay.toList,∃s,akX s e.key=true/\e.hash=hashStr w s)
  (f:∀p∈ps,∃f,anh K d p.1=some (some (.ref f))/\anh K akx p.2=some (some (.ref f))):tL P w K mg x ps:=by
 refine⟨d,ay,n,anS X G a,l,λe he=>?_,lookup_all (P:=λk fn=>∃f,anZ akX ay k=some (.ref f)/\mg fn=some (.ref f)) λp aL=>?_⟩
 .obtain⟨s,ae,ag⟩:=k e (by simpa using he)
  exact⟨s,ae,ag⟩
 .obtain⟨f,ae,ag⟩:=f p aL
  exact⟨f,W.find_K l ae,anS X G ag⟩
omit [ax.aX]in
theorem sH{K:aM}{P p6 c:Addr}{x y:Str}(bC:W.tabIn K y=some (c,p6))(ne:p6≠P)(h:nR K P y=true):y=x:=by
 unfold nR at h;rw[bC]at h;exact absurd (eq_of_beq h) ne
end aE
namespace aE
open PySem PySem.Spec ax
def fO(b:Bool)(h:Heap)(i l:Addr)(k:Nat):Prop:=match b with
 |true=>h.IsTupleIter i l k|false=>h.IsListIter i l k
def ih(b:Bool)(h:Heap)(l:Addr)(xs:Array Value):Prop:=match b with
 |true=>h.IsTuple l xs|false=>h.IsList l xs
def fO.extBut(x:fO b h a l i)(az:Heap.ExtBut c h h')(uK:a≠c):fO b h' a l i:=by
 cases b with
 |true=>exact Heap.IsTupleIter.extBut x az uK|false=>exact Heap.IsListIter.extBut x az uK
def ih.extBut(x:ih b h a xs)(az:Heap.ExtBut c h h')(uK:a≠c):ih b h' a xs:=by
 cases b with
 |true=>exact Heap.IsTuple.extBut x az uK|false=>exact Heap.IsList.extBut x az uK
def fO.obj{h:Heap}(x:fO b h a l i):∃o vs,h.get? a=some o/\o.data=.fields vs:=by
 cases b with
 |true=>obtain⟨o,e,_,d⟩:=x;exact⟨o,_,e,d⟩
 |false=>obtain⟨o,e,_,d⟩:=x;exact⟨o,_,e,d⟩
def fO.at'{h h':Heap}(x:fO b h a l i)(k:∀o,h.get? a=some o->h'.get? a=some o):fO b h' a l i:=by
 cases b with
 |true=>obtain⟨o,e,r⟩:=x;exact⟨o,k o e,r⟩
 |false=>obtain⟨o,e,r⟩:=x;exact⟨o,k o e,r⟩
def ih.obj{h:Heap}(x:ih b h a xs):∃o n,h.get? a=some o/\o.data=.seq xs n:=by
 cases b with
 |true=>obtain⟨o,e,_,n,d⟩:=x;exact⟨o,n,e,d⟩
 |false=>obtain⟨o,e,_,n,d⟩:=x;exact⟨o,n,e,d⟩
section
variable{prog:aki}{w:World}{A:akm}{E:b'}{s:aj0}
def Dl{b:Bool}{it l:Addr}{i:Nat}{items:Array Value}{x:Value}{Q:b'}(hit:fO b s.heap it l i)(hl:ih b s.heap l items)(ai:items[i]? = some x)
  (iQ:∀h',fO b h' it l (i+1)->amZ it s.heap h'->Q x { s with heap:=h' }):wpAny (model prog w) A (ak2 (.ref it)) Q E s:=by
 cases b with
 |false=>exact wpAny_nextOf_list_item hit hl ai iQ|true=>
  have hit:s.heap.IsTupleIter it l i:=hit;obtain⟨o,aT,hc,hd⟩:=id hit;obtain⟨ol,B',_,nl,uN⟩:=hl;unfold ak2;refine ajX (alD (name:=akj "__next__") hit.typeIs al7 (ami al7 hit.typeIs an5 ?_ (anT _)));show wpAny _ _ (field (.ref it) 0 >>= _) _ _ s;refine ajX (akV aT hd (x:=.ref l) rfl ?_);show wpAny _ _ (if(akl l==ak5)=true then _ else _) _ _ s;rw[if_neg (show ¬((akl l==ak5)=true)from aj7)];show wpAny _ _ (field (.ref it) 1 >>= _) _ _ s;refine ajX (akV aT hd (x:=.int i 0) rfl ?_);show wpAny _ _ (anu (.ref l) >>= _) _ _ s;refine ajX (alr B' uN ?_);simp only[aoj,ai];refine ajX (anc aT hd (by simp) (aj4 ⟨x,rfl,aj4 (iQ _ ?_ (alf ..))⟩));exact⟨_,anv _ aT (anw (amw hd _)),(Obj.cls_mapFields ..).trans hc,by rw[amw hd];simp[alo]⟩
def K8{b:Bool}{it l:Addr}{i:Nat}{items:Array Value}{Q:b'}(c6:A.handled=none)(hit:fO b s.heap it l i)(hl:ih b s.heap l items)(ai:items[i]? = none)
  (o1:∀h' e,Heap.ExtBut it s.heap h'->(∃o,h'.get? e=some o/\o.cls=.type "StopIteration")->E (.ref e) { s with heap:=h' }):wpAny (model prog w) A (ak2 (.ref it)) Q E s:=by
 cases b with
 |false=>exact wpAny_nextOf_list_end c6 hit hl ai o1|true=>
  have hit:s.heap.IsTupleIter it l i:=hit;obtain⟨o,aT,hc,hd⟩:=id hit;obtain⟨ol,B',_,nl,uN⟩:=hl;unfold ak2;refine ajX (alD (name:=akj "__next__") hit.typeIs al7 (ami al7 hit.typeIs an5 ?_ (anT _)));show wpAny _ _ (field (.ref it) 0 >>= _) _ _ s;refine ajX (akV aT hd (x:=.ref l) rfl ?_);show wpAny _ _ (if(akl l==ak5)=true then _ else _) _ _ s;rw[if_neg (show ¬((akl l==ak5)=true)from aj7)];show wpAny _ _ (field (.ref it) 1 >>= _) _ _ s;refine ajX (akV aT hd (x:=.int i 0) rfl ?_);show wpAny _ _ (anu (.ref l) >>= _) _ _ s;refine ajX (alr B' uN ?_);simp only[aoj,ai];refine ajX (aor (ajX (anc aT hd (by simp) ?_)));show wpAny _ _ (newExc (.type "StopIteration") [] >>= _) _ _ _;refine ajX ?_;simp only[newExc,newTuple];refine ajX (alF ?_ (by size_fits));refine ajX (m:=firstArgMember _ _) (wpAny_of_eq (a:=ak5) (by first|rfl|(simp only[firstArgMember];rfl)) ?_);refine alF ?_ (by size_fits);simp only[raiseNew];refine ajX (wpAny_handled ?_)
  first|rw[show A.in1.handled=none from c6]|rw[c6]
  refine ajX (aj4 (wpAny_throw ?_));exact o1 _ _ (((alf ..).extBut.push _).push _) ⟨_,akc _ rfl,rfl⟩
end
section
variable{prog:aki}{w:World}{A:akm}{E:b'}{s:aj0}
def ahM{b3 bY:Bool}{z TI dF eN fe b6 cu:Addr}{k1 k2:Nat}{xs ys:Array Value}{x y a b:Value}{Q:Option Value->aj0->Prop}(D:ZipApart z TI dF eN fe b6 cu)
  (hz:IsZip s.heap z TI dF .none) (jK:amk s.heap TI (.ref eN) (.ref fe)) (ki:amk s.heap dF a b)
  (ae:fO b3 s.heap eN b6 k1) (ag:fO bY s.heap fe cu k2) (ir:ih b3 s.heap b6 xs) (iS:ih bY s.heap cu ys) (ai:xs[k1]? = some x) (a':ys[k2]? = some y)
  (iQ:∀h',IsZip h' z TI dF (alo s.heap.objs.size)->amk h' dF x y->fO b3 h' eN b6 (k1+1)->fO bY h' fe cu (k2+1)->amk h' s.heap.objs.size x y->
   (∀c o,c≠z->c≠dF->c≠eN->c≠fe->s.heap.get? c=some o->h'.get? c=some o)->Q (some (.ref s.heap.objs.size)) { s with heap:=h' }) :
  wpAny (model prog w) A (am0 (.ref z)) Q E s:=by
 have eA:s.TypeIs (.ref z) "zip":=⟨_,hz,rfl⟩;unfold am0;refine ajX (aoe (alD (name:=akj "__next__") eA anH (ami anH eA F.entry_zip_next ?_ (F.args_zip_next_1 _))));show wpAny _ _ (field (.ref z) 2 >>= _) _ _ _;refine ajX (akV hz rfl (x:=.bool false) rfl ?_);show wpAny _ _ (field (.ref z) 3 >>= _) _ _ _;refine ajX (akV hz rfl (x:=.ref TI) rfl ?_);refine ajX (alr jK rfl ?_);show wpAny _ _ (alC (.ref z) >>= _) _ _ _;refine ajX ?_;unfold alC;refine ajX (akV hz rfl (x:=.none) rfl (aj4 ?_));simp only[if_true];refine ajX (aor ?_);refine ajX (akV hz rfl (x:=.ref dF) rfl ?_);refine ajX (al1 hz (by simp) λfD pa gB=>?_)
 replace pa:IsZip fD z TI dF .ellipsis:=pa
 refine ajX ?_;simp only[List.zipIdx_cons,List.zipIdx_nil,aoU,List.forIn_nil];refine ajX (ajX (ano ?_));show wpAny _ _ (ak2 (.ref eN) >>= _) _ _ _;refine ajX (Dl (ae.extBut gB.extBut D.i1z) (ir.extBut gB.extBut D.l1z) ai λll IF iU=>aj4 ?_);have uI:amk ll dF a b:=iU.extBut _ _ D.TOi1 (gB.extBut _ _ D.TOz ki);refine ajX (alr uI rfl ?_);refine ajX (anI uI λnQ x4 ji=>?_)
 replace x4:amk nQ dF x b:=x4
 refine ajX (amB (aj4 ?_));refine ajX (ajX (ano ?_));show wpAny _ _ (ak2 (.ref fe) >>= _) _ _ _;refine ajX (Dl (((ag.extBut gB.extBut D.i2z).extBut iU.extBut D.i12.symm).extBut ji.extBut D.TOi2.symm)
  (((iS.extBut gB.extBut D.l2z).extBut iU.extBut D.l2i1).extBut ji.extBut D.l2TO) a' λu1 VF o9=>aj4 ?_)
 have IM:amk u1 dF x b:=o9.extBut _ _ D.TOi2 x4;refine ajX (alr IM rfl ?_);refine ajX (anI IM λhM x5 o_=>?_)
 replace x5:amk hM dF x y:=x5
 refine ajX (amB (aj4 (aj4 ?_)));refine ajX (alr x5 rfl ?_);refine ajX (wpAny_newTuple ?_);have hsz:hM.objs.size=s.heap.objs.size:=by rw[o_.1,o9.1,ji.1,iU.1,gB.1]
 have Jv:IsZip hM z TI dF .ellipsis:=o_.extBut _ _ D.TOz.symm (o9.extBut _ _ D.i2z.symm (ji.extBut _ _ D.TOz.symm (iU.extBut _ _ D.i1z.symm pa)));have XJ:∀c o,c≠z->c≠dF->c≠eN->c≠fe->s.heap.get? c=some o->hM.get? c=some o:=λc o bE av hZ t6 e=>
  o_.extBut _ _ av (o9.extBut _ _ t6 (ji.extBut _ _ av (iU.extBut _ _ hZ (gB.extBut _ _ bE e))))
 have VE:fO b3 hM eN b6 (k1+1):=((IF.extBut ji.extBut D.TOi1.symm).extBut o9.extBut D.i12).extBut o_.extBut D.TOi1.symm;have VG:fO bY hM fe cu (k2+1):=VF.extBut o_.extBut D.TOi2.symm;have Js:z<hM.objs.size:=ake Jv;show wpAny _ _ (am5 (.ref z) (.ref hM.objs.size) >>= _) _ _ _;refine ajX ?_;unfold am5;have Yg:IsZip (hM.push { cls:=.type "tuple",data:=.seq #[x,y] }) z TI dF .ellipsis:=ajZ _ Jv;refine ajX (al1 Yg (by simp) λYj Cj Jp=>?_)
 replace Cj:IsZip Yj z TI dF (alo hM.objs.size):=Cj
 refine al1 Cj (by simp) λyo yn Jq=>?_
 replace yn:IsZip yo z TI dF (alo hM.objs.size):=yn
 have up:∀c o,c≠z->hM.get? c=some o->yo.get? c=some o:=λc o bE e=>Jq.extBut _ _ bE (Jp.extBut _ _ bE (ajZ _ e))
 have IP:amk yo hM.objs.size x y:=Jq.extBut _ _ (aoA Js) (Jp.extBut _ _ (aoA Js) (akc _ rfl));rw[hsz]at yn IP;refine aj4 ⟨_,rfl,?_⟩;show wpAny _ _ (pure (some (akl hM.objs.size))) _ _ _;rw[hsz];exact aj4 (iQ yo yn (up _ _ D.TOz x5) (VE.at' λo e=>up _ o D.i1z e) (VG.at' λo e=>up _ o D.i2z e) IP λc o bE av hZ t6 e=>up c o bE (XJ c o bE av hZ t6 e))
def ahL{b3 bY:Bool}{z TI dF eN fe b6 cu:Addr}{k1 k2:Nat}{xs ys:Array Value}{a b:Value}{Q:Option Value->aj0->Prop}(c6:A.handled=none)(D:ZipApart z TI dF eN fe b6 cu)
  (hz:IsZip s.heap z TI dF .none) (jK:amk s.heap TI (.ref eN) (.ref fe)) (ki:amk s.heap dF a b)
  (ae:fO b3 s.heap eN b6 k1) (ag:fO bY s.heap fe cu k2) (ir:ih b3 s.heap b6 xs) (iS:ih bY s.heap cu ys) (Xt:xs[k1]? = none\/ys[k2]? = none)
  (iQ:∀h',(∀c o,c≠z->c≠dF->c≠eN->c≠fe->s.heap.get? c=some o->h'.get? c=some o)->Q none { s with heap:=h' }):wpAny (model prog w) A (am0 (.ref z)) Q E s:=by
 have eA:s.TypeIs (.ref z) "zip":=⟨_,hz,rfl⟩;have fin:∀h' e,(∀c o,c≠z->c≠dF->c≠eN->c≠fe->s.heap.get? c=some o->h'.get? c=some o)->(∃o,h'.get? e=some o/\o.cls=.type "StopIteration")->
   wpAny (model prog w) A (do
    if <-isInstance (.ref e) (.type "StopIteration")then pure none else throw (.ref e)) Q E { s with heap:=h' }:=λh' e aB aO=>by
  obtain⟨o,aT,hc⟩:=aO;refine ajX (wpAny_isInstance (T:="StopIteration") (b:=true) ⟨o,aT,hc⟩ isSubtype_stop ?_);exact aj4 (iQ _ aB)
 unfold am0;refine ajX (aoe (alD (name:=akj "__next__") eA anH (ami anH eA F.entry_zip_next ?_ (F.args_zip_next_1 _))));show wpAny _ _ (field (.ref z) 2 >>= _) _ _ _;refine ajX (akV hz rfl (x:=.bool false) rfl ?_);show wpAny _ _ (field (.ref z) 3 >>= _) _ _ _;refine ajX (akV hz rfl (x:=.ref TI) rfl ?_);refine ajX (alr jK rfl ?_);show wpAny _ _ (alC (.ref z) >>= _) _ _ _;refine ajX ?_;unfold alC;refine ajX (akV hz rfl (x:=.none) rfl (aj4 ?_));simp only[if_true];refine ajX (aor ?_);refine ajX (akV hz rfl (x:=.ref dF) rfl ?_);refine ajX (al1 hz (by simp) λfD pa gB=>?_)
 replace pa:IsZip fD z TI dF .ellipsis:=pa
 refine ajX ?_;simp only[List.zipIdx_cons,List.zipIdx_nil,aoU,List.forIn_nil];refine ajX (ajX (ano ?_));show wpAny _ _ (ak2 (.ref eN) >>= _) _ _ _
 cases ai:xs[k1]? with
 |none=>
  refine ajX (K8 c6 (ae.extBut gB.extBut D.i1z) (ir.extBut gB.extBut D.l1z) ai λll e iU he=>?_);obtain⟨gZ,qq,uM⟩:=he;have Jt:IsZip ll z TI dF .ellipsis:=iU _ _ D.i1z.symm pa;have B1:e≠z:=λx=>by subst x;rw[Jt]at qq;cases qq;simp at uM
  exact al1 Jt (by simp) λnQ _ ji=>fin nQ e (λc o bE _ hZ _ x=>ji.extBut _ _ bE (iU _ _ hZ (gB.extBut _ _ bE x))) ⟨gZ,ji.extBut _ _ B1 qq,uM⟩
 |some x=>
  have a':ys[k2]? = none:=by rcases Xt with h|h;rw[ai]at h;cases h;exact h
  refine ajX (Dl (ae.extBut gB.extBut D.i1z) (ir.extBut gB.extBut D.l1z) ai λll IF iU=>aj4 ?_);have uI:amk ll dF a b:=iU.extBut _ _ D.TOi1 (gB.extBut _ _ D.TOz ki);refine ajX (alr uI rfl ?_);refine ajX (anI uI λnQ x4 ji=>?_);refine ajX (amB (aj4 ?_));refine ajX (ajX (ano ?_));show wpAny _ _ (ak2 (.ref fe) >>= _) _ _ _;refine ajX (K8 c6 (((ag.extBut gB.extBut D.i2z).extBut iU.extBut D.i12.symm).extBut ji.extBut D.TOi2.symm)
   (((iS.extBut gB.extBut D.l2z).extBut iU.extBut D.l2i1).extBut ji.extBut D.l2TO) a' λu1 e o9 he=>?_)
  obtain⟨gZ,qq,uM⟩:=he;have Ju:IsZip u1 z TI dF .ellipsis:=o9 _ _ D.i2z.symm (ji.extBut _ _ D.TOz.symm (iU.extBut _ _ D.i1z.symm pa));have B1:e≠z:=λx=>by subst x;rw[Ju]at qq;cases qq;simp at uM
  exact al1 Ju (by simp) λhM _ o_=>fin hM e (λc o bE av hZ t6 x=>o_.extBut _ _ bE (o9 _ _ t6 (ji.extBut _ _ av (iU.extBut _ _ hZ (gB.extBut _ _ bE x))))) ⟨gZ,o_.extBut _ _ B1 qq,uM⟩
end
section
variable{X:aJ}{zn:cC}{Y:St}{H:ah}{s:aj0}{h':Heap}
def Inv.Ob{t':Nat}{ch:List Addr}(I:Inv X zn Y H s)(k:∀b o,b∉ch->s.heap.get? b=some o->h'.get? b=some o)(hf:∀b∈ch,gr X zn H b):Inv X zn Y H { s with heap:=h',toks:=t' }:=by
 have vJ:∀b u,H b=some u->b∉ch:=λb u e z=>by rw[(hf b z).1]at e;cases e
 refine I.step (g':=s.gens) (d':=s.drawn) (ch:=ch) (λb aa=>?_) (λb o _ _ hc e _=>k b o hc e) (λb o _ _ hc e _=>⟨o.slots,k b o hc e⟩) (λ_ _ _ _ n=>n)
  (λb o hc e=>⟨o,k b o hc e⟩) (λ_ _ e=>e) (λ_ _ _ e=>e) (λb ps e=>⟨#[],by rw[e];simp⟩) (λm hm=>?_) (λb u e=>?_) I.bare
 .obtain⟨_,f1,_,fX,f4,gi⟩:=hf b aa
  exact⟨fX,f1,f4,gi⟩
 .obtain⟨o,ay,cn,aT,r⟩:=hm
  exact⟨o,ay,cn,k _ o (λz=>(hf _ z).2.1 rfl) aT,r⟩
 .refine(I.bA b u e).m2 (λc v hc q=>k c v ?_ q) (λ_ q=>q) λ_ _ q=>q
  rcases hc with z|z
  .rw[z];exact vJ b u e
  .exact vJ c _ z
end
def hs(b:Bool)(K:aM)(H:ah)(a:Addr)(xs:List V):Prop:=match b with
 |true=>dj K H a xs|false=>du K H a xs
def Inv.dv{H:ah}{s:aj0}(I:Inv X zn Y H s)(h:hs b X.K H a xs):∃its:List Value,Vals xs its/\ih b s.heap a its.toArray:=by
 cases b with
 |true=>obtain⟨its,r,p,_⟩:=I.tuple h;exact⟨its,r,p⟩
 |false=>obtain⟨its,r,p,_⟩:=I.list h;exact⟨its,r,p.isList⟩
def Inv.NO{H:ah}(I:Inv X zn Y H s)(h:hs b X.K H a xs)(h':hs b X.K H a ys):xs=ys:=by
 cases b with
 |true=>exact I.N' h h'|false=>exact I.Kf h h'
def Fx(K:aM)(b3 bY:Bool)(b6 cu:Addr):hG:=
  ⟨λi H=>(∃xs x,hs b3 K H b6 xs/\xs[i]? = some x)/\∃ys y,hs bY K H cu ys/\ys[i]? = some y,
   λi H x H'=>∃u v T,x=.ref T/\H T=none/\H'=upd H T (.tup [u,v])/\(∀xs,hs b3 K H b6 xs->xs[i]? = some u)/\∀ys,hs bY K H cu ys->ys[i]? = some v,
   λi H=>∃xs ys,hs b3 K H b6 xs/\hs bY K H cu ys/\(xs.length<=i\/ys.length<=i)⟩
def afu{ff:Nat}(b3 bY:Bool){z TI dF eN fe b6 cu:Addr}(D:ZipApart z TI dF eN fe b6 cu):Turn P w K (.Tuple elts ff eG) (Fx K b3 bY b6 cu) [z,TI,dF,eN,fe] z
  (λi h=>IsZip h z TI dF .none/\amk h TI (.ref eN) (.ref fe)/\(∃a b,amk h dF a b)/\fO b3 h eN b6 i/\fO bY h fe cu i) where
 mem:=by simp
 obj:=λi h st b aa=>by
  obtain⟨hz,jK,⟨x,y,ki⟩,ae,ag⟩:=st;rcases aj5.mp aa with rfl|aa
  .exact⟨_,hz,λv z=>by cases z⟩
  rcases aj5.mp aa with rfl|aa
  .exact⟨_,jK,λv z=>by cases z⟩
  rcases aj5.mp aa with rfl|aa
  .exact⟨_,ki,λv z=>by cases z⟩
  rcases aj5.mp aa with rfl|aa
  .obtain⟨o,vs,e,d⟩:=ae.obj;exact⟨o,e,λv z=>by rw[d]at z;cases z⟩
  rcases aj5.mp aa with rfl|aa
  .obtain⟨o,vs,e,d⟩:=ag.obj;exact⟨o,e,λv z=>by rw[d]at z;cases z⟩
  cases aa
 keep:=λi h h' ⟨hz,jK,⟨x,y,ki⟩,ae,ag⟩ k=>⟨k z (by simp) _ hz,k TI (by simp) _ jK,⟨x,y,k dF (by simp) _ ki⟩,ae.at' λo e=>k eN (by simp) o e,ag.at' λo e=>k fe (by simp) o e⟩
 item:=by
  rintro X d1 hw gU hc i zn s Y H E I hf ⟨hz,jK,⟨nr,gh,ki⟩,ae,ag⟩ ⟨⟨xs,x,a6,ai⟩,⟨ys,y,aD,a'⟩⟩;subst d1 hw gU;obtain⟨its,bG,p⟩:=Inv.dv I a6;obtain⟨JK,iw,q⟩:=Inv.dv I aD;obtain⟨u,cp,ed⟩:=bG.get ai;obtain⟨v,bu,acs⟩:=iw.get a';have Xw:∀b∈[z,dF,eN,fe],b∈[z,TI,dF,eN,fe]:=λb aa=>by simp at aa ⊢;rcases aa with h|h|h|h<;>simp[h]
  refine ahM D hz jK ki ae ag p q (x:=u) (y:=v) (by simpa using cp) (by simpa using bu) λh' a1 a2 eu gg iK aB=>⟨_,rfl,wpAny_letOwnedTupleGo_zip a1 λVC Ye uW=>?_⟩
  have aF:=I.bA.fresh (aj8 s.heap.objs.size);have yJ:=ake hz;have yI:=ake ki;have qD:eN<s.heap.objs.size:=by obtain⟨_,_,e,_⟩:=ae.obj;exact ake e
  have qE:fe<s.heap.objs.size:=by obtain⟨_,_,e,_⟩:=ag.obj;exact ake e
  have iS:Vals [x,y] [u,v]:=.cons ed (.cons acs .nil);have aV:Inv X zn Y (upd H s.heap.objs.size (.tup [x,y])) { s with heap:=s.heap.push { cls:=.type "tuple",data:=.seq #[u,v] } }:=
   I.laid (t':=s.toks) (λb u e=>ajZ _ e) (aj8 _) ⟨by rw[akK];show 2<=_;decide,[u,v],iS,⟨_,akc _ rfl,rfl,_,rfl⟩⟩
  have bS:Inv X zn Y (upd H s.heap.objs.size (.tup [x,y])) { s with heap:=VC }:=by
   refine Inv.Ob (s:={ s with heap:=s.heap.push { cls:=.type "tuple",data:=.seq #[u,v] } }) (ch:=[z,dF,eN,fe]) (t':=s.toks) aV (λb o aa e=>?_) λb aa=>?_
   .have Ds:b≠z:=λq=>aa (by simp[q])
    refine uW.extBut _ _ Ds ?_;rcases Heap.get?_push_cases e with⟨rfl,rfl⟩|e
    .exact iK
    .exact aB b o Ds (λq=>aa (by simp[q])) (λq=>aa (by simp[q])) (λq=>aa (by simp[q])) e
   .obtain⟨f0,f⟩:=hf b (Xw b aa)
    refine⟨?_,f⟩;rw[cG]
    .exact f0
    .rintro rfl
     simp at aa;rcases aa with h|h|h|h
     .rw[<-h]at yJ;exact akM _ yJ
     .rw[<-h]at yI;exact akM _ yI
     .rw[<-h]at qD;exact akM _ qD
     .rw[<-h]at qE;exact akM _ qE
  refine⟨.ref s.heap.objs.size,_,bS,rfl,⟨x,y,_,rfl,aF,rfl,λwz h'=>by rw[Inv.NO I h' a6];exact ai,λajU h'=>by rw[Inv.NO I h' aD];exact a'⟩,
   ⟨Ye,uW.extBut _ _ D.TIz (aB _ _ D.TIz D.TITO D.TIi1 D.TIi2 jK),⟨_,_,uW.extBut _ _ D.TOz a2⟩,eu.extBut uW.extBut D.i1z,gg.extBut uW.extBut D.i2z⟩,λb aa=>?_⟩
  rw[cG]
  .exact(hf b aa).1
  .rintro rfl
   have ltI:=ake jK;simp at aa;rcases aa with h|h|h|h|h
   .rw[<-h]at yJ;exact akM _ yJ
   .rw[<-h]at ltI;exact akM _ ltI
   .rw[<-h]at yI;exact akM _ yI
   .rw[<-h]at qD;exact akM _ qD
   .rw[<-h]at qE;exact akM _ qE
 done:=by
  rintro X d1 hw gU hc i zn s Y H E I hf ⟨hz,jK,⟨nr,gh,ki⟩,ae,ag⟩ ⟨xs,ys,a6,aD,hl⟩;subst d1 hw gU;obtain⟨its,bG,p⟩:=Inv.dv I a6;obtain⟨JK,iw,q⟩:=Inv.dv I aD;have aw:=bG.length;have aG:=iw.length;refine ahL (I.ok.hd hc) D hz jK ki ae ag p q ?_ λh' aB=>⟨rfl,?_⟩
  .rcases hl with hl|hl
   .exact .inl (by simp;omega)
   .exact .inr (by simp;omega)
  .refine Inv.Ob (ch:=[z,dF,eN,fe]) (t':=s.toks) I (λb o aa e=>aB b o (λq=>aa (by simp[q])) (λq=>aa (by simp[q])) (λq=>aa (by simp[q])) (λq=>aa (by simp[q])) e) λb aa=>hf b ?_
   simp at aa ⊢;rcases aa with h|h|h|h<;>simp[h]
 self:=λ_ _ _ _ _ ⟨hz,_⟩ h=>wpAny_pyIter_zip hz h
def yu(b:Bool)(l:Addr):Obj:=match b with
 |true=>{ cls:=.type "tuple_iterator",data:=.fields #[.ref l,.int 0 0] }
 |false=>{ cls:=.type "list_iterator",data:=.fields #[.ref l,.int 0 0] }
abbrev z2(b3:Bool)(h:Heap)(b6:Addr):Heap:=h.push (yu b3 b6)
abbrev z3(b3 bY:Bool)(h:Heap)(b6 cu:Addr):Heap:=(z2 b3 h b6).push (yu bY cu)
abbrev z4(b3 bY:Bool)(h:Heap)(b6 cu:Addr):Heap:=(z3 b3 bY h b6 cu).push { cls:=.type "tuple",data:=.seq #[.ref h.objs.size,.ref (z2 b3 h b6).objs.size] }
abbrev z5(b3 bY:Bool)(h:Heap)(b6 cu:Addr):Heap:=(z4 b3 bY h b6 cu).push { cls:=.type "tuple",data:=.seq #[.none,.none] }
abbrev tD(b3 bY:Bool)(h:Heap)(b6 cu:Addr):Heap:=(z5 b3 bY h b6 cu).push { cls:=.type "zip",data:=.fields #[.none,.bool false,.bool false,.ref (z3 b3 bY h b6 cu).objs.size,.ref (z4 b3 bY h b6 cu).objs.size] }
def Z1(b3 bY:Bool)(b6 cu:Addr)(xs ys:Array Value) :
  Meets (anb.«zip.__new__» ⟨[.type "zip",.ref b6,.ref cu],[]⟩) (λ_ R s=>ih b3 s.heap b6 xs/\ih bY s.heap cu ys/\
   R (.ok (.ret (.ref (z5 b3 bY s.heap b6 cu).objs.size))) { s with heap:=tD b3 bY s.heap b6 cu }):=by
 cases b3 with
 |false=>
  cases bY with
  |false=>exact meets_zip_new b6 cu xs ys|true=>
   refine .of_wp λprog w A R s h=>?_
   obtain⟨aL,g,d,tk,os⟩:=s;obtain⟨ir,iS,h⟩:=h;have Jn:=sub_zip;have uE:Heap.IsList (anj ⟨aL,g,d,tk,os⟩) b6 xs:=ir;have uF:aoI (anj ⟨aL.push { cls:=.type "list_iterator",data:=.fields #[.ref b6,.int 0 0] },g,d,tk,os⟩) cu ys:=apr iS _
   wp_walk using al9 uE,amt uF
   exact⟨_,rfl,h⟩
 |true=>
  cases bY with
  |false=>
   refine .of_wp λprog w A R s h=>?_
   obtain⟨aL,g,d,tk,os⟩:=s;obtain⟨ir,iS,h⟩:=h;have Jn:=sub_zip;have uE:aoI (anj ⟨aL,g,d,tk,os⟩) b6 xs:=ir;have uF:Heap.IsList (anj ⟨aL.push { cls:=.type "tuple_iterator",data:=.fields #[.ref b6,.int 0 0] },g,d,tk,os⟩) cu ys:=Heap.IsList.push iS _
   wp_walk using amt uE,al9 uF
   exact⟨_,rfl,h⟩
  |true=>
   refine .of_wp λprog w A R s h=>?_
   obtain⟨aL,g,d,tk,os⟩:=s;obtain⟨ir,iS,h⟩:=h;have Jn:=sub_zip;have uE:aoI (anj ⟨aL,g,d,tk,os⟩) b6 xs:=ir;have uF:aoI (anj ⟨aL.push { cls:=.type "tuple_iterator",data:=.fields #[.ref b6,.int 0 0] },g,d,tk,os⟩) cu ys:=apr iS _
   wp_walk using amt uE,amt uF
   exact⟨_,rfl,h⟩
def fO.new{h:Heap}(e:h.get? a=some (yu b l)):fO b h a l 0:=by
 cases b with
 |true=>exact⟨_,e,rfl,rfl⟩|false=>exact⟨_,e,rfl,rfl⟩
section
variable{prog:aki}{w:World}{A:akm}{E:b'}{s:aj0}
def Sw{b3 bY:Bool}{b6 cu:Addr}{xs ys:Array Value}{Q:b'}(ir:ih b3 s.heap b6 xs)(iS:ih bY s.heap cu ys)
  (h:∀h',IsZip h' (s.heap.objs.size+4) (s.heap.objs.size+2) (s.heap.objs.size+3) .none->amk h' (s.heap.objs.size+2) (.ref s.heap.objs.size) (.ref (s.heap.objs.size+1))->
   amk h' (s.heap.objs.size+3) .none .none->fO b3 h' s.heap.objs.size b6 0->fO bY h' (s.heap.objs.size+1) cu 0->
   (∀c o,s.heap.get? c=some o->h'.get? c=some o)->Q (.ref (s.heap.objs.size+4)) { s with heap:=h' }) :
  wpAny (model prog w) A (call (.type "zip") [.ref b6,.ref cu]) Q E s:=by
 refine callType_new F.called_zip (by decide) (F.typeCall_zip_2 _ _) (F.newCall_zip_2 _ _) (λobj=>F.args_object_init_3 obj _ _) F.entry_zip_new (Z1 b3 bY b6 cu xs ys) ⟨ir,iS,?_⟩;have eH:(z2 b3 s.heap b6).objs.size=s.heap.objs.size+1:=amE ..;have d7:(z3 b3 bY s.heap b6 cu).objs.size=s.heap.objs.size+2:=by rw[amE,eH]
 have m9:(z4 b3 bY s.heap b6 cu).objs.size=s.heap.objs.size+3:=by rw[amE,d7]
 have l1:(z5 b3 bY s.heap b6 cu).objs.size=s.heap.objs.size+4:=by rw[amE,m9]
 have f1:∀b l,(yu b l).isFreed=false:=λb l=>by cases b<;>rfl
 have xU:(tD b3 bY s.heap b6 cu).get? (z5 b3 bY s.heap b6 cu).objs.size=some _:=akc _ rfl;have kY:(tD b3 bY s.heap b6 cu).get? (z4 b3 bY s.heap b6 cu).objs.size=some _:=ajZ _ (akc _ rfl);have g3:(tD b3 bY s.heap b6 cu).get? (z3 b3 bY s.heap b6 cu).objs.size=some _:=ajZ _ (ajZ _ (akc _ rfl));have g2:(tD b3 bY s.heap b6 cu).get? (z2 b3 s.heap b6).objs.size=some _:=ajZ _ (ajZ _ (ajZ _ (akc _ (f1 _ _))));have g1:(tD b3 bY s.heap b6 cu).get? s.heap.objs.size=some _:=ajZ _ (ajZ _ (ajZ _ (ajZ _ (akc _ (f1 _ _)))));show _/\_;rw[d7,m9,l1]at xU;rw[eH,d7]at g3;rw[m9]at kY;rw[eH]at g2;rw[l1];exact⟨⟨_,xU,rfl⟩,h _ xU g3 kY (.new g1) (.new g2) λc o x=>
  ajZ _ (ajZ _ (ajZ _ (ajZ _ (ajZ _ x))))⟩
end
def yp(K:aM)(bR:fj):TI:=λY H R=>bR Y H λvs H1=>∃b3 bY b6 cu,vs=[.ref b6,.ref cu]/\(∃xs,hs b3 K H1 b6 xs)/\(∃ys,hs bY K H1 cu ys)/\R (Fx K b3 bY b6 cu) H1
def LH{X:aJ}{elts:List Expr}{ff:Nat}{eG:Pos}{p pos:Pos}(a3:dD X "zip")(hm:X.mg "zip"=none)(ao:gd X [a,b] bR)(az:ajY [a,b] X.env=[(false,eval a X.env),(false,eval b X.env)]:=by rfl)(jN:ajY [b] X.env=[(false,eval b X.env)]:=by rfl) :
  jC X (.Tuple elts ff eG) (.Call (.Name "zip" p) [a,b] [] pos) (yp X.K bR):=by
 intro zn s Y H R I h;refine PyProof.Rows.Call_ (qB I a3 hm PyProof.Rows.boot_zip (amK (bN (ao pos zn s Y H _ I h) λus s1 ⟨vs,H1,aV,bF,bp⟩=>?_) (by rw[az,jN]) (by rw[jN];rfl)));obtain⟨b3,bY,b6,cu,e,⟨xs,ai⟩,⟨ys,a'⟩,q⟩:=bp;subst e
 cases bF with
 |cons r ba=>
  cases ba with
  |cons bH ba=>
   cases ba;cases r;cases bH;obtain⟨its,bG,p1⟩:=Inv.dv aV ai;obtain⟨JK,iw,cy⟩:=Inv.dv aV a';have qD:b6<s1.heap.objs.size:=by obtain⟨_,_,e,_⟩:=p1.obj;exact ake e
   have qE:cu<s1.heap.objs.size:=by obtain⟨_,_,e,_⟩:=cy.obj;exact ake e
   refine Sw p1 cy λh' a1 a2 eu gg iK aB=>?_
   refine wpAny_pyIter_zip (s:={ s1 with heap:=h' }) a1 ?_;have D:ZipApart (s1.heap.objs.size+4) (s1.heap.objs.size+2) (s1.heap.objs.size+3) s1.heap.objs.size (s1.heap.objs.size+1) b6 cu:=by
    have up:∀{l:Addr}(k:Nat),l<s1.heap.objs.size->l≠s1.heap.objs.size+k:=λk h=>aku (akr h (amN _ _))
    have qz:b6≠s1.heap.objs.size:=aku qD;have J6:cu≠s1.heap.objs.size:=aku qE;have ey:=λk=>up k qD
    have ee:=λk=>up k qE
    generalize s1.heap.objs.size=n at qz J6 ey ee ⊢;constructor<;>first|exact ey 4|exact ey 3|exact qz|exact ey 1|exact ee 4|exact ee 3|exact J6|exact ee 1|(show(_:Nat)≠_;omega)
   refine⟨s1.heap.objs.size+4,[s1.heap.objs.size+4,s1.heap.objs.size+2,s1.heap.objs.size+3,s1.heap.objs.size,s1.heap.objs.size+1],_,_,H1,rfl,aV.kept (t':=s1.toks) aB,afu b3 bY D,⟨a1,a2,⟨_,_,eu⟩,gg,iK⟩,λc hc=>?_,q⟩;have le:s1.heap.objs.size<=c:=by
    simp at hc;rcases hc with rfl|rfl|rfl|rfl|rfl
    .exact amN _ _
    .exact amN _ _
    .exact amN _ _
    .exact aj8 _
    .exact amN _ _
   exact aV.qe le (aV.bA.fresh le)
end aE
namespace aE
open PySem PySem.Spec ax
variable[ax.aX]
def R.walk:R->Option (List D)
 |.v (.tup xs)=>some xs|.v (.lst xs)=>some xs|.fr xs=>some xs|.b8 xs=>some xs|_=>none
def ig(xs ys:List D):List D:=(xs.zip ys).map λp=>.tup [p.1,p.2]
def oJ(b:Bool)(K:aM)(O:a0)(H:ah)(a:Addr)(ys:List V):Prop:=match b with
 |true=>dj K H a ys|false=>hr K O H a ys
def oJ.dv{O:a0}{H:ah}(h:oJ b K O H a ys):hs b K H a ys:=by
 cases b with
 |true=>exact h|false=>exact hr.dv h
def oJ.bQ{O ak:a0}{H H':ah}(g:dZ O ak H H')(h:oJ b K O H a ys):oJ b K ak H' a ys:=by
 cases b with
 |true=>exact g.we h|false=>exact g.Kj h
def zN{O:a0}{H H₀:ah}{r:R}{v:V}(h:ei K mg O H r v)(n:iH H₀ r v)(e:r.walk=some xs):∃b a ys,v=.ref a/\oJ b K (cc H₀ O) H a ys/\a8 K mg (cc H₀ O) H xs ys:=by
 unfold R.walk at e;split at e
 .cases e;obtain⟨a,ys,q,l,r⟩:=h;exact⟨true,a,ys,q,l,r.dc (iO _ _)⟩
 .cases e
  obtain⟨a,ys,q,l,r⟩:=h;exact⟨false,a,ys,q,.inl ⟨.inl l.1,.inl ((iO H₀ O).fr a l.2)⟩,r.dc (iO _ _)⟩
 .cases e
  obtain⟨a,ys,rfl,l,t,r⟩:=h;exact⟨false,a,ys,rfl,.inl ⟨.inl l,.inl (BA (n a rfl) t)⟩,r.dc (iO _ _)⟩
 .cases e
  obtain⟨a,ys,q,l,r⟩:=h;refine⟨false,a,ys,q,?_,r.dc (iO _ _)⟩;rcases l with⟨l,f⟩|l
  .refine .inl ⟨l,?_⟩
   rcases f with f|f
   .exact .inl ((iO H₀ O).fr a f)
   .exact .inr (by rw[qg (by rw[f];intro z;cases z)];exact f)
  .exact .inr l
 .cases e
def pR(is:List Nat)(b:aI):D->aI:=λd Y=>match d with
 |.tup ay=>if ay.length=is.length then b (n9 is ay Y)else bad|_=>bad
def tC:List R->Option (List D)
 |[x,y]=>match x.walk,y.walk with
  |some xs,some ys=>some (ig xs ys)|_,_=>none
 |_=>none
def rM(is:List Nat)(ms:cU)(b:aI):aI:=λY=>do
 let rs <-ms Y
 match tC rs with
 |some ds=>ha (pR is b) ds Y|none=>bad
def ahK(h:tC rs=some ds):∃x y xs ys,rs=[x,y]/\x.walk=some xs/\y.walk=some ys/\ds=ig xs ys:=by
 unfold tC at h;split at h
 .rename_i x y
  split at h
  .rename_i xs ys aw aG
   cases h;exact⟨x,y,xs,ys,rfl,aw,aG,rfl⟩
  .cases h
 .cases h
def Fe{xs ys:List D}{k:Nat}{d:D}{ds:List D}(e:(ig xs ys).drop k=d::ds):∃x y,xs[k]? = some x/\ys[k]? = some y/\d=.tup [x,y]/\(ig xs ys).drop (k+1)=ds:=by
 have aw:(ig xs ys)[k]? = some d:=by
  have:=congrArg (·[0]?) e;simpa using this
 unfold ig at aw;rw[akD]at aw
 cases kW:(xs.zip ys)[k]? with
 |none=>rw[kW]at aw;cases aw
 |some p=>
  rw[kW]at aw;cases aw;obtain⟨a,b⟩:=amX.mp kW;refine⟨p.1,p.2,a,b,rfl,?_⟩;have:=congrArg (aoV 1) e;simpa[ana]using this
def ahI{xs ys:List D}{k:Nat}(e:(ig xs ys).drop k=[]):xs.length<=k\/ys.length<=k:=by
 have:=congrArg alA e;unfold ig at this;simp only[akY,aj2,aoW,alc]at this;omega
def Vc{is:List Nat}:∀D aq H,hS K mg (rM is ms b) D aq H->td (yp K (m6 K mg ms)) (xV K is.length (kZ is)) (hS K mg b) D aq H:=by
 rintro D aq H ⟨O,Y,S,aW,ar,st,h,q⟩;obtain⟨rs,S1,ae,h⟩:=M.inv h
 cases kW:tC rs with
 |none=>rw[kW]at h;cases h
 |some ds=>
  .rw[kW]at h
   obtain⟨x,y,xs,ys,rfl,ex,fb,rfl⟩:=ahK kW;refine⟨O,Y,S,_,S1,st,ae,λaH vs H1 g1 aP ba nn=>?_⟩;obtain⟨v1,bF,rfl,aU,v2,b5,rfl,bz,re⟩:=ba;cases re;obtain⟨b3,b6,us,rfl,s1,a1⟩:=zN (H₀:=H) aU nn.1 ex;obtain⟨bY,cu,ws,rfl,s2,a2⟩:=zN (H₀:=H) bz nn.2.1 fb;have aej:=aP.cc H;refine⟨b3,bY,b6,cu,rfl,⟨us,s1.dv⟩,⟨ws,s2.dv⟩,?_⟩;refine⟨λk m cW H'=>m=(ig xs ys).length-k/\∃ak Y' gQ,ct K mg ak Y' gQ cW H'/\dZ (cc H aH) ak H1 H'/\d9 Y Y' aq cW/\(ha (pR is b) ((ig xs ys).drop k) Y').run gQ=.ok aW ar,⟨_,rfl,_,Y,S1,aej,dZ.refl _ _,d9.refl _ _,h⟩,?_⟩;rintro k m cW H' ⟨rfl,ak,Y',gQ,bW,g',kp,h⟩;have Ed:=oJ.bQ g' s1;have Ee:=oJ.bQ g' s2
   cases e:(ig xs ys).drop k with
   |nil=>
    rw[e]at h;cases h;refine .inl ⟨⟨us,ws,Ed.dv,Ee.dv,?_⟩,q ak cW H' (g1.cc.bQ.trans g') bW kp⟩;rw[a1.len,a2.len];exact ahI e
   |cons d mq=>
    obtain⟨bU,HY,aw,aG,rfl,bZ⟩:=Fe e;obtain⟨u,jI,ed⟩:=(a8.bQ g' a1).get aw;obtain⟨v,ev,bG⟩:=(a8.bQ g' a2).get aG;have fC:k<(ig xs ys).length:=by
     have:=congrArg alA e;rw[akY,akn]at this;omega
    rw[e]at h;obtain⟨f1,a7,ag,h⟩:=M.inv h;unfold pR at ag;dsimp only at ag
    by_cases c:[bU,HY].length=is.length
    .rw[if_pos c]at ag
     refine .inr ⟨⟨⟨us,u,Ed.dv,jI⟩,⟨ws,v,Ee.dv,ev⟩⟩,λgN aK=>∃a_ dp a7,ct K mg a_ dp a7 gN aK/\dZ (cc H aH) a_ H1 aK/\d9 Y dp aq gN/\(ha (pR is b) ((ig xs ys).drop (k+1)) dp).run a7=.ok aW ar,?_,λx aK jY=>?_⟩
     .rintro gN aK ⟨a_,dp,a7,eH,d7,m9,l1⟩
      exact⟨_,by omega,rfl,a_,dp,a7,eH,d7,m9,l1⟩
     .obtain⟨u',fg,T,rfl,eA,rfl,sg,o'⟩:=jY
      have vY:=sg us Ed.dv;rw[jI]at vY;cases vY;have vZ:=o' ws Ee.dv;rw[ev]at vZ;cases vZ;have jg:Go ak ak H' (upd H' T (.tup [u,v])):=Go.fU eA;refine⟨T,[u,v],rfl,dj.of dn,by rw[<-c];rfl,EC (ds:=[bU,HY]) (bW.fU eA) ⟨u,[v],rfl,ed.go jg,v,[],rfl,bG.go jg,rfl⟩ c λjZ oa ks=>?_⟩;refine⟨ak,_,gQ,f1,a7,oa,ag,?_⟩
      cases f1 with
      |bw dp=>exact λa_ gN aK g2 cf k2=>⟨a_,dp,a7,cf,g'.trans (jg.bQ.trans g2),kp.trans (ks.trans k2),by rw[bZ];exact h⟩
      |cb dp=>exact λa_ gN aK g2 cf k2=>⟨a_,dp,a7,cf,g'.trans (jg.bQ.trans g2),kp.trans (ks.trans k2),by rw[bZ];exact h⟩
      |d4 dp=>cases h;exact λa_ gN aK g2 cf k2=>q a_ gN aK (g1.cc.bQ.trans (g'.trans (jg.bQ.trans g2))) cf (kp.trans (ks.trans k2))
      |cP r=>cases h;exact λa_ v aK g2 dT aG b5=>q a_ v aK (g1.cc.bQ.trans (g'.trans (jg.bQ.trans g2))) dT aG b5
    .rw[if_neg c]at ag;cases ag
def SX{X:aJ}{pos eG:Pos}{is:List Nat}{ay:List Expr}{k:Nat}{p cK:Pos}{a eL:Expr}{ms:cU}{body:List Stmt}{b:aI}(aL:aoS (model X.prog X.w) X.A X.env X.cL)(hc:X.calm=true)(qn:dD X "zip")(hm:X.mg "zip"=none)(ao:z8 X [a,eL] ms)(a3:mc X ay (kZ is))(aa:rq X body b)
  (aF:(akI ay X.env).length=is.length:=by rfl) (eB:(akI ay X.env).findIdx? (·.1)=none:=by rfl)
  (az:∀x,ak0 (.Call (.Name "zip" p) [a,eL] [] cK) X.env x=pure x:=by intro _;rfl) (qs:ajY [a,eL] X.env=[(false,eval a X.env),(false,eval eL X.env)]:=by rfl) (jN:ajY [eL] X.env=[(false,eval eL X.env)]:=by rfl) :
  Fn X (.For (.Tuple ay k eG) (.Call (.Name "zip" p) [a,eL] [] cK) body [] pos) (rM is ms b):=
 g4 (DX aL hc (LH qn hm ao qs jN) (DT hc a3 aF eB) aa az) Vc
section
variable{X:aJ}
abbrev so:List String:=["int","bool","tuple","list","str"]
def LZ(K:aM):List V->ah->cD->Prop:=λxs H Q=>∃x a e7 dG t,xs=[x,.ref a]/\dj K H a [.ty e7,.ty dG]/\kO K H x t/\e7∈so/\dG∈so/\Q (.au (h3 t e7||h3 t dG)) H
omit [ax.aX]in
theorem Sr(kt:tQ X.K):iD X (.builtin "isinstance") (LZ X.K):=by
 intro zn s Y H xs us Q I bG h;obtain⟨x,a,e7,dG,t,rfl,dv,ty,XR,sb,q⟩:=h;obtain⟨u,eg,rfl,bF,b5⟩:=vals2 bG;cases(show eg=akl a from b5);obtain⟨its,v8,⟨o,aT,hc,n,hd⟩,_⟩:=I.tuple dv;obtain⟨ey,ee,rfl,bp,b2⟩:=vals2 v8;cases(show ey=anA e7 from bp);cases(show ee=anA dG from b2);obtain⟨cw,cT,aaE,eP⟩:=o;cases hc;cases hd;have e:am6 X.K (.type t) [.type e7,.type dG]=some (h3 t e7||h3 t dG):=by
  have aw:alG X.K (.type t) (.type e7)=some (h3 t e7):=kt.ans t ty.mem e7 XR;have aG:alG X.K (.type t) (.type dG)=some (h3 t dG):=kt.ans t ty.mem dG sb;unfold am6;rw[aw]
  cases h3 t e7 with
  |true=>rfl|false=>
   show am6 X.K (.type t) [.type dG]=_;unfold am6;rw[aG];cases h3 t dG<;>rfl
 have fin:∀tk,gq X zn Y Q (.bool (h3 t e7||h3 t dG)) { s with toks:=tk }:=λtk=>⟨.au _,H,I.tok tk,rfl,q⟩
 cases ty with
 |aN=>cases(show u=ak5 from bF);exact anx W.kitx_none I.dW alB aT e (λz=>nomatch z) fin
 |au y=>cases(show u=amL y from bF);exact anx W.kitx_bool I.dW alB aT e (λz=>nomatch z) fin
 |int i=>obtain⟨t,q⟩:=(show ∃t,u=anU i t from bF);cases q;exact anx W.kitx_int I.dW alB aT e (λz=>nomatch z) fin
 |str y=>obtain⟨t,q⟩:=(show ∃t,u=anV y t from bF);cases q;exact anx W.kitx_str I.dW alB aT e (λz=>nomatch z) fin
 |@lst a xs fm=>
  cases(show u=akl a from bF);obtain⟨its,_,⟨o,jo,ae,ag,_⟩,_⟩:=I.list fm;exact anx W.kitx_list I.dW ⟨o,ae,ag⟩ aT e (λz=>nomatch z) fin
 |@tup a xs fm=>
  cases(show u=akl a from bF);obtain⟨its,_,⟨o,ae,ag,_⟩,_⟩:=I.tuple fm;exact anx W.kitx_tuple I.dW ⟨o,ae,ag⟩ aT e (λz=>nomatch z) fin
end
def uq:List R->M R
 |[x,.v (.tup [.ty e7,.ty dG])]=>match x.kind with
  |some t=>if e7∈so/\dG∈so then pure (.v (.au (h3 t e7||h3 t dG)))else bad|none=>bad
 |_=>bad
def YV:j0 K mg (LZ K) uq:=fun O Y S aq H vs rs bH ar Q st aD h q=>by
 unfold uq at h;split at h
 .rename_i x e7 dG
  obtain⟨v,u,rfl,ai,a'⟩:=Ea aD;obtain⟨a,ys,rfl,dv,wC,bF,rfl,aw,wD,b5,rfl,aG,c3⟩:=a';cases c3;cases(show wC=.ty e7 from aw);cases(show wD=.ty dG from aG);split at h
  .rename_i t e
   by_cases aF:e7∈so/\dG∈so
   .rw[if_pos aF]at h
    cases h;exact⟨v,a,e7,dG,t,rfl,dv,R.J0 ai e,aF.1,aF.2,q O _ H (Go.refl _ _) st rfl trivial⟩
   .rw[if_neg aF]at h;cases h
  .cases h
 .cases h
end aE
namespace aE
open PySem PySem.Spec ax PyProof.Rows
variable[ax.aX]
def kl(t:aQ->M Bool)(el:bf)(Y:aQ):List (D×D)->M (List D)
 |[]=>pure []|d::ds=>do
  let b <-t ((Y.set 0 (.v d.1)).set 1 (.v d.2))
  if b=true then do
   let r <-el ((Y.set 0 (.v d.1)).set 1 (.v d.2))
   let x <-r.dat
   let xs <-kl t el Y ds
   pure (x::xs)
  else kl t el Y ds
def tB:List R->Option (List (D×D))
 |[x,y]=>match x.walk,y.walk with
  |some xs,some ys=>some (xs.zip ys)|_,_=>none
 |_=>none
@[simp] def t7(cap:List Nat)(ms:cU)(t:aQ->M Bool)(el:bf)(Y:aQ):M R:=do
 let rs <-ms Y
 match tB rs with
 |some ds=>do
  ik (ds.length<aj6)
  let xs <-kl t el (mm 2 cap Y) ds
  pure (.fr xs)
 |none=>bad
def ahJ(h:tB rs=some ds):∃x y xs ys,rs=[x,y]/\x.walk=some xs/\y.walk=some ys/\ds=xs.zip ys:=by
 unfold tB at h;split at h
 .rename_i x y
  split at h
  .rename_i xs ys aw aG
   cases h;exact⟨x,y,xs,ys,rfl,aw,aG,rfl⟩
  .cases h
 .cases h
def hs.same{b:Bool}{K:aM}{H H':ah}(s:dy H H'){a:Addr}{ys:List V}(h:hs b K H a ys):hs b K H' a ys:=by
 cases b with
 |true=>exact s.wa h|false=>exact s.seq h
omit [ax.aX]in
theorem JM{t:aQ->M Bool}(Y:aQ):∀ds,kl t el Y ds=mJ (λd=>some ((Y.set 0 (.v d.1)).set 1 (.v d.2))) t el ds
 |[]=>rfl| d::ds=>by unfold kl mJ;rw[JM Y ds]
def SS{K:aM}{mg:a9}{cap:List Nat}{ms:cU}{t:aQ->M Bool}{el:bf}:∀aq H Q,e8 K mg (t7 cap ms t el) aq H Q->wj 2 cap (yp K (m6 K mg ms)) (xV K 2 (kZ [0,1])) (lP K mg t) (e8 K mg el) aq H Q:=by
 rintro aq H Q ⟨O,Y,S,r,ar,st,h,q⟩;obtain⟨rs,S1,ae,h⟩:=M.inv h
 cases kW:tB rs with
 |none=>rw[kW]at h;cases h
 |some ds=>
  rw[kW]at h;obtain⟨_,a7,ag,h⟩:=M.inv h;obtain⟨hlen,rfl⟩:=rS ag;obtain⟨xs,gw,bO,h⟩:=M.inv h;cases h;obtain⟨x,y,ajS,OG,rfl,ex,fb,rfl⟩:=ahJ kW;rw[JM]at bO;refine⟨O,Y,S,_,S1,st,ae,λaH vs H1 g1 aP ba nn=>?_⟩;obtain⟨v1,bF,rfl,aU,v2,b5,rfl,bz,re⟩:=ba;cases re;obtain⟨b3,b6,us,rfl,s1,a1⟩:=zN (H₀:=H) aU nn.1 ex;obtain⟨bY,cu,ws,rfl,s2,a2⟩:=zN (H₀:=H) bz nn.2.1 fb;refine⟨b3,bY,b6,cu,rfl,⟨us,s1.dv⟩,⟨ws,s2.dv⟩,HA (aP.cc H) hlen (λH' s=>⟨us,ws,hs.same s s1.dv,hs.same s s2.dv,?_⟩) (λk d oq ak H' dm cn g' bW=>?_) bO λak v H' g bW ba nn=>q ak v H' (g1.cc.trans g) bW ba (nn.back g1.same)⟩
  .rw[aoW,a1.len,a2.len];omega
  .cases cn
   obtain⟨aw,aG⟩:=amX.mp dm;obtain⟨u,jI,ed⟩:=(a8.go g' (a1.dc (kP _))).get aw;obtain⟨v,ev,bG⟩:=(a8.go g' (a2.dc (kP _))).get aG;have bp:=hs.same g'.same s1.dv;have b2:=hs.same g'.same s2.dv;refine⟨⟨⟨us,u,bp,jI⟩,⟨ws,v,b2,ev⟩⟩,λx aK R jY dQ=>?_⟩;obtain⟨u',fg,T,rfl,eA,rfl,sg,o'⟩:=jY;have vY:=sg us bp;rw[jI]at vY;cases vY;have vZ:=o' ws b2;rw[ev]at vZ;cases vZ;have jg:Go ak ak H' (upd H' T (.tup [u,v])):=Go.fU eA;exact⟨T,[u,v],rfl,dj.of dn,rfl,u,[v],rfl,v,[],rfl,rfl,dQ _ _ jg (((bW.fU eA).val (ed.go jg)).val (bG.go jg)) (((m'.refl _).set rfl).set rfl)⟩
section
variable{X:aJ}{scope esc:Scope}{EN N:List Str}{cap:List Nat}{elt a eL:Expr}{ifs:List Expr}{pos eG p cK p1 cy:Pos}{x y:Str}{t:aQ->M Bool}{el:bf}{ms:cU}{k:Nat}
def Sz(S:l5 esc scope EN N 2 cap)(qn:dD X "zip")(hm:X.mg "zip"=none)(ao:z8 X [a,eL] ms)(ai:N[0]? = some x)(a':N[1]? = some y)
  (kk:∀C aY s H,Loc (cZ X scope N C aY s H).env.scope x/\(cZ X scope N C aY s H).env.scope.names.lookup x=some .local) (ye:∀C aY s H,Loc (cZ X scope N C aY s H).env.scope y/\(cZ X scope N C aY s H).env.scope.names.lookup y=some .local)
  (bC:∀C aY s H,z9 (cZ X scope N C aY s H) ifs t) (iR:∀C aY s H,g7 (cZ X scope N C aY s H) elt el)
  (he:X.env.scope=esc:=by rfl) (hN:X.N=EN:=by rfl) (hc:X.calm=true:=by rfl) (az:∀x,ak0 (.Call (.Name "zip" p) [a,eL] [] cK) X.env x=pure x:=by intro _;rfl)
  (qs:ajY [a,eL] X.env=[(false,eval a X.env),(false,eval eL X.env)]:=by rfl) (jN:ajY [eL] X.env=[(false,eval eL X.env)]:=by rfl)
  (sd:∀C aY s H,(akI [.Name x p1,.Name y cy] (cZ X scope N C aY s H).env).length=2/\(akI [.Name x p1,.Name y cy] (cZ X scope N C aY s H).env).findIdx? (·.1)=none/\
   (akI [.Name x p1,.Name y cy] (cZ X scope N C aY s H).env).map (·.2)=amO (.Name x p1) (cZ X scope N C aY s H).env::(akI [.Name y cy] (cZ X scope N C aY s H).env).map (·.2)/\
   (akI [.Name y cy] (cZ X scope N C aY s H).env).map (·.2)=amO (.Name y cy) (cZ X scope N C aY s H).env::(akI [] (cZ X scope N C aY s H).env).map (·.2):=by intros;exact⟨rfl,rfl,rfl,rfl⟩) :
  g7 X (.ListComp elt [⟨.Tuple [.Name x p1,.Name y cy] k eG,.Call (.Name "zip" p) [a,eL] [] cK,ifs,0⟩] scope pos) (t7 cap ms t el):=
 dK (Lv (wi:=yp X.K (m6 X.K X.mg ms)) (g:=xV X.K 2 (kZ [0,1])) (tt:=lP X.K X.mg t) (te:=e8 X.K X.mg el) S (LH qn hm ao qs jN)
  (λC aY s H=>DT hc (DU S.fT ai (kk C aY s H).1 (DU S.fT a' (ye C aY s H).1 LD (sd C aY s H).2.2.2 (.inr (ye C aY s H).2)) (sd C aY s H).2.2.1 (.inr (kk C aY s H).2)) (sd C aY s H).1 (sd C aY s H).2.1) bC iR he hN hc az) SS
end
end aE
namespace aE
open PySem PySem.Spec ax PyProof.Rows
def Sh:akJ "max"=some (.builtin "max"):=by decide +kernel
def kmk_max_key(a v:Value):argsOk "max" ⟨[a],[(akj "key",v)]⟩:=by unfold argsOk;kernel_rfl
def lr(mf:bq)(d:D):Option (List Int):=match(mf [d]).run []with
 |.ok (.v (.tup ks)) []=>nums ks|_=>none
def jl(mf:bq)(b:D)(fE:List Int):List D->Option D
 |[]=>some b|d::ds=>match lr mf d with
  |some dH=>if gD dH fE=true then jl mf d dH ds else jl mf b fE ds|none=>none
def vp(mf:bq):List D->Option D
 |d::ds=>match lr mf d with
  |some k=>jl mf d k ds|none=>none
 |[]=>none
def xJ(mf:bq)(x:R):M R:=match x.fG with
 |some ds=>match vp mf ds with
  |some r=>if ds.length<64 then pure (.v r)else bad|none=>bad
 |none=>bad
@[simp] def xp(mf:bq)(cA:bf)(Y:aQ):M R:=do
 let x <-cA Y
 xJ mf x
def JU{mf:bq}{k:List Int}(h:lr mf d=some k):∃ks,(mf [d]).run []=.ok (.v (.tup ks)) []/\nums ks=some k:=by
 unfold lr at h;split at h
 .rename_i ks e;exact⟨ks,e,h⟩
 .cases h
variable[ax.aX]
section
variable{X:aJ}{zn:cC}{Y:ax.St}{H:ah}{s:aj0}{G:ah->Prop}{mf:bq}{f S it l:Addr}{k:Nat}{O:a0}
def next_item{xs:List V}{v:V}{E:b'}{A:akm}(I:Inv X zn Y H1 s)(fc:du X.K H1 l xs)(bu:xs[j]? = some v)(aY:gr X zn H1 it)(hit:s.heap.IsListIter it l j)(c6:A.handled=none) :
  wpAny (model X.prog X.w) A (am0 (.ref it)) (λr s1=>∃u,r=some u/\RelV v u/\Inv X zn Y H1 s1/\s1.heap.IsListIter it l (j+1)) E s:=by
 obtain⟨us,bG,pl,_⟩:=I.list fc;have hl:s.heap.IsList l us.toArray:=pl.isList;have hy:l≠it:=by
  rintro rfl;obtain⟨o,e,c,_⟩:=hit;obtain⟨c7,bZ,c',_⟩:=hl;rw[e]at bZ;cases bZ;rw[c]at c';injection c' with z;exact absurd z (by decide)
 obtain⟨u,cp,ed⟩:=bG.get bu;have W:=apc (prog:=X.prog) (w:=X.w) (A:=A) c6 it l hy us.toArray;refine W.item j s _ _ (by have:=(aj1.mp cp).1;simpa using this) ⟨hit,hl⟩ λu' h' Ey d1 X6 sa=>?_
 have e:some u'=some u:=by rw[<-cp];simpa using d1.symm
 cases e;obtain⟨f0,f1,f2,fX,f4,gi⟩:=aY;exact⟨u,rfl,ed,I.turned (t':=Ey) (λb o aa e=>sa b o (by simpa using aa) e) f0 f1 fX f4 gi,X6.1⟩
def aaq{xs:List V}{E:b'}{A:akm}(I:Inv X zn Y H1 s)(fc:du X.K H1 l xs)(bu:j=xs.length)(aY:gr X zn H1 it)(hit:s.heap.IsListIter it l j)(c6:A.handled=none) :
  wpAny (model X.prog X.w) A (am0 (.ref it)) (λr s1=>r=none/\Inv X zn Y H1 s1) E s:=by
 obtain⟨us,bG,pl,_⟩:=I.list fc;have hl:s.heap.IsList l us.toArray:=pl.isList;have hy:l≠it:=by
  rintro rfl;obtain⟨o,e,c,_⟩:=hit;obtain⟨c7,bZ,c',_⟩:=hl;rw[e]at bZ;cases bZ;rw[c]at c';injection c' with z;exact absurd z (by decide)
 have W:=apc (prog:=X.prog) (w:=X.w) (A:=A) c6 it l hy us.toArray;have Bg:j=us.toArray.size:=by rw[akd,bu,bG.length]
 rw[Bg]at hit;refine W.done s _ _ ⟨hit,hl⟩ λh' Ey sa=>?_
 obtain⟨f0,f1,f2,fX,f4,gi⟩:=aY;exact⟨rfl,I.turned (t':=Ey) (λb o aa e=>sa b o (by simpa using aa) e) f0 f1 fX f4 gi⟩
def JW{aH:a0}{v:V}{A:akm}(ec:nd X k f G mf)(aD:cg k A.in1)(dk:j2 X.prog X.w X.K X.mg X.base A.in1 X.stack s H1)(I:Inv X zn Y H1 s)(kR:c5 aH H1)(oC:G H1)(cR:Rep X.K X.mg aH H1 d v)(ed:RelV v u)(hd:(mf [d]).run []=.ok (.v iu) [])(aY:gr X zn H1 it)(hit:s.heap.IsListIter it l j) :
  wpAny (model X.prog X.w) A.in1 (call (.ref f) [u]) (λu' s2=>∃(a_:a0)(aK:ah)(fg:V),Inv X zn Y aK s2/\Go aH a_ H1 aK/\c5 a_ aK/\G aK/\Rep X.K X.mg a_ aK iu fg/\RelV fg u'/\gr X zn aK it/\s2.heap.IsListIter it l j) (λ_ _=>False) s:=by
 obtain⟨vM,xH,ci,xB⟩:=hit;have O6:Inv X (zn++qW [it] s.heap) Y H1 s:=I.pinned (λb aa=>by rw[akE.mp aa];exact aY) λb aa=>by
  rw[akE.mp aa];exact⟨vM,xH,λv z=>by rw[xB]at z;cases z⟩
 refine aop (amg (ec.2.2 A.in1 s H1 u v (λfg H'=>∃ak,Go aH ak H1 H'/\c5 ak H'/\Rep X.K X.mg ak H' iu fg) aD dk oC ed ?_) λr s2 a6=>?_)
 .refine⟨aH,[d],.v iu,[],kR,fP.nil,⟨v,[],rfl,?_,rfl⟩,hd,λak fg H' g cM ba _=>⟨ak,g,cM,ba⟩⟩
  cases d<;>first|exact cR|exact akv cR|skip
  obtain⟨x,zs,q,l,r⟩:=cR;exact⟨x,zs,q,l.dv,r⟩
 .cases r with
  |error e=>exact akv a6|ok aW=>
   cases aW with
   |ret u'=>
    obtain⟨fg,aK,bS,bG,a_,g2,dT,b5⟩:=O6.after a6;have pin:=bS.pin (it,vM) (akz _ (akz _ (by unfold qW;simp[xH])));exact⟨a_,aK,fg,bS.wq,g2,dT,ec.1 _ _ g2.same oC,b5,bG,⟨pin.2.1,aY.2⟩,⟨vM,pin.1,ci,xB⟩⟩
   |next=>exact akv a6
   |brk=>exact akv a6|cont=>exact akv a6
structure OQ(X:aJ)(zn:cC)(Y:ax.St)(G:ah->Prop)(O:a0)(H:ah)(S it l:Addr)(j:Nat)(d:D)(fE:List Int)(s':aj0):Prop where
 ex:∃ak H' v kv,Inv X zn Y H' s'/\Go O ak H H'/\c5 ak H'/\G H'/\H' S=some (.lst [v,kv])/\Rep X.K X.mg ak H' d v/\Rep X.K X.mg ak H' (.tup (fE.map D.int)) kv/\ak S=.dB/\gr X zn H' it/\s'.heap.IsListIter it l j
def Fy(X:aJ)(zn:cC)(Y:ax.St)(O:a0)(H:ah)(res:D)(u:Value)(s':aj0):Prop:=
 ∃ak H' v,Inv X zn Y H' s'/\Go O ak H H'/\c5 ak H'/\Rep X.K X.mg ak H' res v/\RelV v u
def L_{K:aM}{mg:a9}{O:a0}{H:ah}{ks:List D}{fE:List Int}{v:V}(r:Rep K mg O H (.tup ks) v)(e:nums ks=some fE):Rep K mg O H (.tup (fE.map D.int)) v:=by
 obtain⟨a,ys,rfl,dv,bx⟩:=r;have:=y7 bx e;subst this;exact⟨a,_,rfl,dv,L8 fE⟩
def L'{K:aM}{mg:a9}{O:a0}{H:ah}{fE:List Int}{v:V}(r:Rep K mg O H (.tup (fE.map D.int)) v):∃a,v=.ref a/\dj K H a (fE.map V.int):=by
 obtain⟨a,ys,rfl,dv,bx⟩:=r;have:∀(fE:List Int)(ys:List V),a8 K mg O H (fE.map D.int) ys->ys=fE.map V.int:=by
  intro fE
  induction fE with
  |nil=>intro ys h;exact h|cons a t aZ=>
   intro ys h;obtain⟨y,r,rfl,ae,ag⟩:=h;rw[show y=V.int a from ae,aZ _ ag];rfl
 rw[this fE ys bx]at dv;exact⟨a,rfl,dv⟩
def vals2{v kv:V}(h:Vals [v,kv] its):∃u lx,its=[u,lx]/\RelV v u/\RelV kv lx:=by
 cases h with
 |cons bF b5=>cases b5 with
  |cons n6 q0=>cases q0;exact⟨_,_,rfl,bF,n6⟩
def G7{H1:ah}{its:List Value}{v kv:V}(I:Inv X zn Y H1 s)(fc:H1 S=some (.lst zs))(h2:s.heap.get? S=some (ak1 "list" its.toArray p9))(bG:RelV v u)(lM:RelV kv lx) :
  Inv X zn Y (upd H1 S (.lst [v,kv])) { s with heap:=s.heap.update S (akC λ_=>#[u,lx]) }:=by
 have s1:=alf s.heap S (akC λ_=>#[u,lx]);obtain⟨av,hb⟩:∃av,(s.heap.update S (akC λ_=>#[u,lx])).get? S=some (ak1 "list" #[u,lx] av):=⟨_,amv h2 λ_=>#[u,lx]⟩;refine I.write (x:=S) (e:=S) (t':=s.toks) (by rw[fc];trivial) (.inl rfl) (λb o aa e=>(s1.2 b aa).trans e) ⟨_,hb⟩ ⟨by rw[akK];simp,[u,lx],av,.cons bG (.cons lM .nil),hb⟩
def R4{H1:ah}{its:List Value}(I:Inv X zn Y H1 s)(fc:H1 S=some (.lst zs))(h2:s.heap.get? S=some (ak1 "list" its.toArray p9)) :
  Inv X zn Y (upd H1 S (.lst [])) { s with heap:=s.heap.update S (akC λ_=>#[]) }:=by
 have s1:=alf s.heap S (akC λ_=>(#[]:Array Value));obtain⟨av,hb⟩:∃av,(s.heap.update S (akC λ_=>(#[]:Array Value))).get? S=some (ak1 "list" #[] av):=⟨_,amv h2 λ_=>#[]⟩;refine I.write (x:=S) (e:=S) (t':=s.toks) (by rw[fc];trivial) (.inl rfl) (λb o aa e=>(s1.2 b aa).trans e) ⟨_,hb⟩ ⟨akA _,[],av,.nil,hb⟩
def JH{h:Heap}(hy:S≠it)(hit:h.IsListIter it l j):(h.update S g).IsListIter it l j:=by
 obtain⟨vM,xH,ci,xB⟩:=hit;exact⟨vM,((alf h S g).2 it hy.symm).trans xH,ci,xB⟩
def Ih(hy:S≠it)(aY:gr X zn H1 it):gr X zn (upd H1 S o) it:=⟨by rw[cG hy.symm];exact aY.1,aY.2⟩
def Z0{res:D}(ec:nd X k f G mf)(aD:cg (k+1) X.A)(Ji:H S=none)(qi:S≠it)(bx:a8 X.K X.mg O H ds xs)(hl:du X.K H l xs) :
  ∀(r:List D)(j:Nat)(d:D)(fE:List Int)(s':aj0),ds.drop j=r->OQ X zn Y G O H S it l j d fE s'->j<=ds.length->jl mf d fE r=some res->
   amd (model X.prog X.w) X.A (.builtin "max.loop" ⟨[.ref it,.ref f,.ref S],[]⟩) (λr s'=>∃u,r=.ok (.ret u)/\Fy X zn Y O H res u s') s':=by
 have uT:(toString "max"++toString ".loop":String)="max.loop":=by decide
 have c6:X.A.in1.handled=none:=aD.in1.hd;have ZQ:=bx.len;intro r
 induction r with
 |nil=>
  intro j d fE s' x_ B aR a3;cases a3;obtain⟨aH,H1,v,kv,aV,g1,kR,oC,fc,cR,lM,vR,aY,hit⟩:=B.ex;obtain⟨hsz,its,n,vals,h2⟩:=aV.bA S _ fc;obtain⟨u,lx,rfl,ed,Me⟩:=vals2 vals;have yb:j=xs.length:=by
   have:=congrArg alA x_;rw[akY,alc]at this;omega
  refine anJ ank ?_;rw[anK als _];show wpAny _ X.A.in1 (anu (.ref S) >>= _) _ _ _;refine ajX (alr h2 rfl ?_);show wpAny _ X.A.in1 (tryCatch (am0 (.ref it)) _ >>= _) _ _ _;refine ajX (amI (akB (aaq (E:=λ_ _=>False) aV (g1.same.seq hl) yb aY hit c6) (λr s1 a6=>?_) λ_ _ c0=>c0.elim));obtain⟨rfl,bS⟩:=a6;obtain⟨_,lp,dG,afH,Jc⟩:=bS.bA S _ fc;show wpAny _ X.A.in1 (updateSeq S (λ_=>#[]) >>= _) _ _ _;refine ajX ?_;refine aoX Jc rfl (hz:=by rw[akd,<-afH.length,akK];simp) (ajX (amB (aj4 ?_)));exact⟨u,rfl,aH,_,v,R4 bS fc Jc,⟨tn Ji g1.same fc _,g1.own,g1.bI⟩,kR.ef fc,cR.ef (by rw[vR];intro z;cases z) fc,ed⟩
 |cons dT r aZ=>
  intro j d fE s' x_ B aR a3;unfold jl at a3
  cases gT:lr mf dT with
  |none=>rw[gT]at a3;cases a3
  |some dH=>
   rw[gT]at a3
   replace a3:(if gD dH fE=true then jl mf dT dH r else jl mf d fE r)=some res:=a3
   obtain⟨ks,hm,aF⟩:=JU gT;obtain⟨aH,H1,v,kv,aV,g1,kR,oC,fc,cR,lM,vR,aY,hit⟩:=B.ex;obtain⟨hsz,its,n,vals,h2⟩:=aV.bA S _ fc;obtain⟨u,lx,rfl,ed,Me⟩:=vals2 vals;have hd2:ds[j]? = some dT:=by
    have:=congrArg (·[0]?) x_;simpa using this
   have I7:ds.drop (j+1)=r:=by
    have:=congrArg (aoV 1) x_;simpa[ana]using this
   have yb:j+1<=ds.length:=(aj1.mp hd2).1;obtain⟨v2,X_,v3⟩:=bx.get hd2;refine anJ ank ?_;rw[anK als _];show wpAny _ X.A.in1 (anu (.ref S) >>= _) _ _ _;refine ajX (alr h2 rfl ?_);show wpAny _ X.A.in1 (tryCatch (am0 (.ref it)) _ >>= _) _ _ _;refine ajX (amI (akB (next_item (E:=λ_ _=>False) aV (g1.same.seq hl) X_ aY hit c6) (λr s1 a6=>?_) λ_ _ c0=>c0.elim));obtain⟨ee,rfl,v5,bS,B6⟩:=a6;show wpAny _ X.A.in1 (tryCatch (alS [ee] (call (.ref f) [ee])) _ >>= _) _ _ _;refine ajX (amI (al5 (akB (JW ec aD.in1 bS.rZ.in1 bS kR oC (v3.go g1) v5 hm aY B6) (λhp s3 a6=>?_) λ_ _ c0=>c0.elim)));obtain⟨d_,cI,yD,dr,g3,oU,wO,Eb,Ec,xQ,ya⟩:=a6;have iq:=g3.same.at' _ _ fc;have mW:d_ S=.dB:=(g3.own S (by rw[fc];intro z;cases z)).trans vR;obtain⟨_,YH,qI,vals3,uP⟩:=dr.bA S _ iq;have zq:=L_ Eb aF;obtain⟨eu,rfl,aeh⟩:=L' zq;obtain⟨a1,rfl,aeg⟩:=L' (lM.go g3);cases Ec;cases Me;obtain⟨t3,Yk,sR,_⟩:=dr.tuple aeh;obtain⟨t1,eN,p1,_⟩:=dr.tuple aeg;show wpAny _ X.A.in1 (tryCatch (alS [ee,.ref eu] (ao4 .Gt (.ref eu) (.ref a1) >>= _)) _ >>= _) _ _ _;refine ajX (amI (al5 (ajX ((IE sR p1 (intsAre_of Yk) (intsAre_of eN) aD.in1.afz ?_)))));refine ajX (al5 (alg ?_));refine ajX (amB (aj4 ?_))
   by_cases aa:gD dH fE=true
   .rw[if_pos aa]at a3
    simp only[aa,if_true];refine ajX ?_;refine aoX uP rfl (hz:=by rw[akd,<-vals3.length,akK];simp) (ajX (amB ?_));rw[uT];refine aj4 ⟨aog als _,aZ (j+1) dT dH _ I7 ?_ yb a3⟩;exact⟨d_,_,v2,.ref eu,G7 (v:=v2) (kv:=.ref eu) dr iq uP v5 (show RelV (.ref eu) (.ref eu)from rfl),⟨tn Ji (g1.trans g3).same iq _,(g1.trans g3).own,(g1.trans g3).bI⟩,oU.ef iq,ec.2.1 _ _ _ _ iq wO,dn,(v3.go (g1.trans g3)).ef (by rw[mW];intro z;cases z) iq,zq.ef (by rw[mW];intro z;cases z) iq,mW,Ih qi xQ,JH qi ya⟩
   .rw[if_neg aa]at a3
    simp only[aa,if_false];refine ajX (amB ?_);rw[uT];refine aj4 ⟨aog als _,aZ (j+1) d fE _ I7 ?_ yb a3⟩;exact⟨d_,cI,v,.ref a1,dr,g1.trans g3,oU,wO,iq,cR.go g3,lM.go g3,mW,xQ,ya⟩
theorem ZZ{E:b'}(I:Inv X zn Y H s)(cM:c5 O H)(bx:a8 X.K X.mg O H ds xs)(hl:du X.K H l xs)(ec:nd X k f G mf)(qh:G H)(aD:cg (k+1) X.A)(hm:vp mf ds=some res) :
  wpAny (model X.prog X.w) X.A (call (.builtin "max") [.ref l] [(akj "key",.ref f)]) (Fy X zn Y O H res) E s:=by
 have uT:(toString "max"++toString ".loop":String)="max.loop":=by decide
 have c6:X.A.in1.handled=none:=aD.in1.hd
 cases ds with
 |nil=>cases hm
 |cons d ds=>
  replace hm:(match lr mf d with|some k=>jl mf d k ds|none=>none)=some res:=hm
  cases gT:lr mf d with
  |none=>rw[gT]at hm;cases hm
  |some dH=>
   rw[gT]at hm;obtain⟨ks,aB,aF⟩:=JU gT;obtain⟨us,bG,pl,_⟩:=I.list hl;have fo:s.heap.IsList l us.toArray:=pl.isList;refine kmk_tree PySem.F.kind_max PySem.F.plain_max PySem.F.entry_max (kmk_max_key _ _) ?_;show wpAny _ X.A.in1 (an6 "max" ["key","default"] 0 ⟨[],[(akj "key",.ref f)]⟩ >>= _) _ _ s;refine ajX (wpAny_of_eq (show an6 "max" ["key","default"] 0 ⟨[],[(akj "key",.ref f)]⟩=pure [some (.ref f),none]from rfl) ?_);refine ajX (aj4 ?_);refine ajX (al9 fo ?_);refine ajX (wpAny_newList ?_ (akA _));rw[uT];have aV:Inv X zn Y H { s with heap:=s.heap.push { cls:=.type "list_iterator",data:=.fields #[.ref l,.int 0 0] } }:=I.kept (t':=s.toks) λb o e=>ajZ _ e
   have o3:(s.heap.push { cls:=.type "list_iterator",data:=.fields #[.ref l,.int 0 0] }).get? s.heap.objs.size=some { cls:=.type "list_iterator",data:=.fields #[.ref l,.int 0 0] }:=akc _ rfl;have hsz:(s.heap.push { cls:=.type "list_iterator",data:=.fields #[.ref l,.int 0 0] }).objs.size=s.heap.objs.size+1:=size_push' ..;generalize aje:s.heap.push { cls:=.type "list_iterator",data:=.fields #[.ref l,.int 0 0] }=ae at *;have xS:H ae.objs.size=none:=aV.bA.fresh (aj8 _);have qi:ae.objs.size≠s.heap.objs.size:=by rw[hsz];omega
   have bS:Inv X zn Y (upd H ae.objs.size (.lst [])) { s with heap:=ae.push (ak1 "list" #[] 0) }:=
    aV.laid (t':=s.toks) (λb o e=>ajZ _ e) (aj8 _) ⟨akA _,[],0,.nil,akc _ rfl⟩
   have aY:gr X zn (upd H ae.objs.size (.lst [])) s.heap.objs.size:=I.qe (aj8 _) (by rw[cG qi.symm];exact I.bA.fresh (aj8 _));have hit:(ae.push (ak1 "list" #[] 0)).IsListIter s.heap.objs.size l 0:=⟨_,ajZ _ o3,rfl,rfl⟩;have go2:Go O (gn O ae.objs.size .dB) H (upd H ae.objs.size (.lst [])):=Go.new xS;have UE:c5 (gn O ae.objs.size .dB) (upd H ae.objs.size (.lst [])):=cM.new xS;have sQ:gn O ae.objs.size .dB ae.objs.size=.dB:=pS;have IK:upd H ae.objs.size (.lst []) ae.objs.size=some (.lst []):=dn;have h2:(ae.push (ak1 "list" #[] 0)).get? ae.objs.size=some (ak1 "list" #[] 0):=akc _ rfl;refine aj4 ⟨aog als _,?_⟩;generalize ae.push (ak1 "list" #[] 0)=ag at *;generalize ae.objs.size=S at *;generalize s.heap.objs.size=it at *;generalize gn O S .dB=a_ at *;generalize upd H S (.lst [])=aK at *;obtain⟨v,bu,cR⟩:=bx.get (i:=0) (d:=d) rfl;refine anJ ank ?_;rw[anK als _];show wpAny _ X.A.in1 (anu (.ref S) >>= _) _ _ _;refine ajX (alr h2 rfl ?_);show wpAny _ X.A.in1 (tryCatch (am0 (.ref it)) _ >>= _) _ _ _;refine ajX (amI (akB (next_item (E:=λ_ _=>False) bS (go2.same.seq hl) bu aY hit c6) (λr s1 a6=>?_) λ_ _ c0=>c0.elim));obtain⟨ee,rfl,v5,dr,B6⟩:=a6;show wpAny _ X.A.in1 (tryCatch (alS [ee] (call (.ref f) [ee])) _ >>= _) _ _ _;refine ajX (amI (al5 (akB (JW ec aD.in1 dr.rZ.in1 dr UE (ec.1 _ _ go2.same qh) (cR.go go2) v5 aB aY B6) (λhp s3 a6=>?_) λ_ _ c0=>c0.elim)));obtain⟨d_,cI,yD,gv,g3,oU,wO,Eb,Ec,xQ,ya⟩:=a6;have iq:=g3.same.at' _ _ IK;have mW:d_ S=.dB:=(g3.own S (by rw[IK];intro z;cases z)).trans sQ;obtain⟨_,YH,qI,vals3,uP⟩:=gv.bA S _ iq;have zq:=L_ Eb aF;show wpAny _ X.A.in1 (updateSeq S (λ_=>#[ee,hp]) >>= _) _ _ _;refine ajX ?_;refine aoX uP rfl (hz:=by rw[akd,<-vals3.length,akK];simp) ?_;rw[uT];refine aj4 ⟨aog als _,amg (Z0 (zn:=zn) (Y:=Y) ec aD xS qi bx hl ds 1 d dH _ rfl ?_ (by simp) hm) λr s' a6=>?_⟩
   .exact⟨d_,_,v,yD,G7 gv iq uP v5 Ec,⟨tn xS (go2.trans g3).same iq _,(go2.trans g3).own,(go2.trans g3).bI⟩,oU.ef iq,ec.2.1 _ _ _ _ iq wO,dn,(cR.go (go2.trans g3)).ef (by rw[mW];intro z;cases z) iq,zq.ef (by rw[mW];intro z;cases z) iq,mW,Ih qi xQ,JH qi ya⟩
   .obtain⟨u,rfl,a6⟩:=a6
    exact a6
end
section
variable{X:aJ}{k:Nat}{e:Expr}{cA:bf}{p pos kp:Pos}{iu:Expr}{mf:bq}{G:Addr->ah->Prop}
def SA(a3:dD X "max")(hm:X.mg "max"=none)(aD:cg (k+1) X.A)(ao:g7 X e cA)
  (bl:∀(zn:cC)(s:aj0)(Y:ax.St)(O:a0)(H:ah),Inv X zn Y H s->c5 O H->
   wpAny (model X.prog X.w) X.A (eval iu X.env) (λu s'=>∃(f:Addr)(H':ah)(G:ah->Prop),u=.ref f/\Inv X zn Y H' s'/\Go O O H H'/\c5 O H'/\G H'/\nd X k f G mf) X.cL s)
  (he:ako pos (ajY [e] X.env)=(false,eval e X.env)::ako pos (ajY [] X.env):=by rfl)
  (az:ajY [e] X.env=(false,eval e X.env)::ajY [] X.env:=by rfl)
  (gW:(ako pos (ajY [e] X.env)).any (·.1)=false:=by rfl) :
  g7 X (.Call (.Name "max" p) [e] [⟨some (akj "key"),iu,kp⟩] pos) (xp mf cA):=by
 rintro zn s Y H Q I ⟨O,wI,S,r,ar,st,h,q⟩;obtain⟨x,S1,ae,h⟩:=M.inv h;obtain⟨ds,res,nM,XQ,k6,rfl,rfl⟩:∃ds res,x.fG=some ds/\vp mf ds=some res/\ds.length<64/\r=.v res/\S1=ar:=by
  unfold xJ at h;split at h
  .rename_i ds aw
   split at h
   .rename_i res aG
    by_cases c:ds.length<64
    .rw[if_pos c]at h
     cases h;exact⟨ds,res,aw,aG,c,rfl,rfl⟩
    .rw[if_neg c]at h;cases h
   .cases h
  .cases h
 refine alx (qB I a3 hm Sh ?_);refine callWith_kw ?_ he gW rfl rfl;refine bN ((lH ao qU az) pos zn s Y H (λvs H1=>∃v aH,vs=[v]/\Go O aH H H1/\ct X.K X.mg aH wI S1 Y H1/\ei X.K X.mg aH H1 x v) I ⟨O,wI,S,x,S1,st,ae,λaH v H1 g1 aP ba nn=>⟨v,aH,rfl,g1,aP,ba⟩⟩) λus s1 aO=>?_
 obtain⟨vs,H1,aV,bF,v,aH,ev,g1,aP,ba⟩:=aO;subst ev;obtain⟨l,ys,rfl,hl,bx⟩:=R.ph ba nM;obtain⟨u,rfl,ed⟩:=vals1 bF;cases ed;refine wpAny_evalAll_cons (ajX (bN (bl zn s1 Y aH H1 aV aP.b_) λu s2 aB=>ajX (aod (aj4 ?_))));obtain⟨f,aK,G,rfl,bS,g2,dT,BD,ec⟩:=aB;refine wpAny_evalAll_nil ?_;show wpAny _ _ (call (.builtin "max") [.ref l] [(akj "key",.ref f)]) _ _ _;refine bN (ZZ bS dT (bx.go g2) (g2.same.seq hl) ec BD aD XQ) λu s3 aO=>?_
 obtain⟨d_,cI,v,dr,g3,oU,acd,acu⟩:=aO;exact⟨v,cI,dr,acu,q d_ _ cI (g1.trans (g2.trans g3)) (aP.go (g2.trans g3) oU) acd trivial⟩
def SD{c P:Addr}{q p1:Str}{params:am2}{body:Expr}{scope:Scope}{ly:Pos}{N:List Str}{m:bf}(a3:dD X "max")(hm:X.mg "max"=none)(aD:cg (k+3) X.A)(L:l' X.K c P q)(B:jy X.base X.mg)(mC:X.env.code=.ref c)
  (a6:X.env.qual++akj "<lambda>"=q) (Sc:bP N [p1] scope)
  (k_:∀(c:Addr)(pm gy u:Value),amf (W.kla_fn (akj "<lambda>") q params body scope [] pm (.ref c) gy) ⟨[u],[]⟩=pure [(p1,u)])
  (aa:∀(f c:Addr)(A:akm)(s:aj0)(H:ah),cg k (A.deeper (amG q scope s.heap.objs.size f (.ref c)))->g7 (fl eh X.prog X.w X.K X.mg X.base N q scope f (.ref c) A X.stack s H hU).fZ body m)
  (ao:g7 X e cA) (nL:aos params X.env=([],[]):=by rfl) (mB:amu scope X.env=pure []:=by rfl)
  (he:ako pos (ajY [e] X.env)=(false,eval e X.env)::ako pos (ajY [] X.env):=by rfl)
  (az:ajY [e] X.env=(false,eval e X.env)::ajY [] X.env:=by rfl)
  (gW:(ako pos (ajY [e] X.env)).any (·.1)=false:=by rfl) :
  g7 X (.Call (.Name "max" p) [e] [⟨some (akj "key"),.Lambda params body scope ly,kp⟩] pos) (xp (fnOf 1 N.length (bg m)) cA):=
 SA (k:=k+1) a3 hm (aD.mono (by omega)) ao (λzn s Y O H I cM=>bN (J9 I cM L B mC a6 nL mB) λu s' ⟨f,c',pm,gy,H',jI,gb,g',d',nc⟩=>
  ⟨f,H',_,jI,gb,g',d',nc,J_ Sc (k_ c' pm gy) (aa f c')⟩) he az gW
end
end aE
namespace aE
open PySem PySem.Spec ax PyProof.Rows
variable[ax.aX]
section
variable{X:aJ}{scope esc:Scope}{EN N:List Str}{cap:List Nat}{elt a eL:Expr}{ifs:List Expr}{pos eG p cK p1 cy:Pos}{x y:Str}{t:aQ->M Bool}{el:bf}{ms:cU}{k:Nat}
def af3(S:l5 esc scope EN N 2 cap)(qn:dD X "zip")(hm:X.mg "zip"=none)(ao:fQ X [a,eL] ms)(ai:N[0]? = some x)(a':N[1]? = some y)
  (kk:∀C aY s H,Loc (cZ X scope N C aY s H).env.scope x/\(cZ X scope N C aY s H).env.scope.names.lookup x=some .local) (ye:∀C aY s H,Loc (cZ X scope N C aY s H).env.scope y/\(cZ X scope N C aY s H).env.scope.names.lookup y=some .local)
  (bC:∀C aY s H,rE (cZ X scope N C aY s H) ifs t) (iR:∀C aY s H,a5 (cZ X scope N C aY s H) elt el)
  (he:X.env.scope=esc:=by rfl) (hN:X.N=EN:=by rfl) (hc:X.calm=true:=by rfl) (az:∀x,ak0 (.Call (.Name "zip" p) [a,eL] [] cK) X.env x=pure x:=by intro _;rfl)
  (qs:ajY [a,eL] X.env=[(false,eval a X.env),(false,eval eL X.env)]:=by rfl) (jN:ajY [eL] X.env=[(false,eval eL X.env)]:=by rfl)
  (sd:∀C aY s H,(akI [.Name x p1,.Name y cy] (cZ X scope N C aY s H).env).length=2/\(akI [.Name x p1,.Name y cy] (cZ X scope N C aY s H).env).findIdx? (·.1)=none/\
   (akI [.Name x p1,.Name y cy] (cZ X scope N C aY s H).env).map (·.2)=amO (.Name x p1) (cZ X scope N C aY s H).env::(akI [.Name y cy] (cZ X scope N C aY s H).env).map (·.2)/\
   (akI [.Name y cy] (cZ X scope N C aY s H).env).map (·.2)=amO (.Name y cy) (cZ X scope N C aY s H).env::(akI [] (cZ X scope N C aY s H).env).map (·.2):=by intros;exact⟨rfl,rfl,rfl,rfl⟩) :
  a5 X (.ListComp elt [⟨.Tuple [.Name x p1,.Name y cy] k eG,.Call (.Name "zip" p) [a,eL] [] cK,ifs,0⟩] scope pos) (t7 cap ms t el):=
 ⟨Sz S qn hm ao.un ai a' kk ye (λC aY s H=>(bC C aY s H).un) (λC aY s H=>(iR C aY s H).un) he hN hc az qs jN sd⟩
end
def ags{X:aJ}{pos eG:Pos}{is:List Nat}{ay:List Expr}{k:Nat}{p cK:Pos}{a eL:Expr}{ms:cU}{body:List Stmt}{b:aI}(aL:aoS (model X.prog X.w) X.A X.env X.cL)(hc:X.calm=true)(qn:dD X "zip")(hm:X.mg "zip"=none)(ao:fQ X [a,eL] ms)(a3:mc X ay (kZ is))(aa:eX X body b)
  (aF:(akI ay X.env).length=is.length:=by rfl) (eB:(akI ay X.env).findIdx? (·.1)=none:=by rfl)
  (az:∀x,ak0 (.Call (.Name "zip" p) [a,eL] [] cK) X.env x=pure x:=by intro _;rfl) (qs:ajY [a,eL] X.env=[(false,eval a X.env),(false,eval eL X.env)]:=by rfl) (jN:ajY [eL] X.env=[(false,eval eL X.env)]:=by rfl) :
  e4 X (.For (.Tuple ay k eG) (.Call (.Name "zip" p) [a,eL] [] cK) body [] pos) (rM is ms b):=⟨SX aL hc qn hm ao.un a3 aa.un aF eB az qs jN⟩
section
variable{X:aJ}{k:Nat}{e:Expr}{cA:bf}{p pos kp:Pos}
def af5{c P:Addr}{q p1:Str}{params:am2}{body:Expr}{scope:Scope}{ly:Pos}{N:List Str}{m:bf}(a3:dD X "max")(hm:X.mg "max"=none)(aD:cg (k+3) X.A)(L:l' X.K c P q)(B:jy X.base X.mg)(mC:X.env.code=.ref c)
  (a6:X.env.qual++akj "<lambda>"=q) (Sc:bP N [p1] scope)
  (k_:∀(c:Addr)(pm gy u:Value),amf (W.kla_fn (akj "<lambda>") q params body scope [] pm (.ref c) gy) ⟨[u],[]⟩=pure [(p1,u)])
  (aa:∀(f c:Addr)(A:akm)(s:aj0)(H:ah),cg k (A.deeper (amG q scope s.heap.objs.size f (.ref c)))->a5 (fl eh X.prog X.w X.K X.mg X.base N q scope f (.ref c) A X.stack s H hU).fZ body m)
  (ao:a5 X e cA) (nL:aos params X.env=([],[]):=by rfl) (mB:amu scope X.env=pure []:=by rfl)
  (he:ako pos (ajY [e] X.env)=(false,eval e X.env)::ako pos (ajY [] X.env):=by rfl)
  (az:ajY [e] X.env=(false,eval e X.env)::ajY [] X.env:=by rfl)
  (gW:(ako pos (ajY [e] X.env)).any (·.1)=false:=by rfl) :
  a5 X (.Call (.Name "max" p) [e] [⟨some (akj "key"),.Lambda params body scope ly,kp⟩] pos) (xp (fnOf 1 N.length (bg m)) cA):=
 ⟨SD a3 hm aD L B mC a6 Sc k_ (λf c A s H aD=>(aa f c A s H aD).un) ao.un nL mB he az gW⟩
end
omit [ax.aX]in
section
open da
variable{prog:aki}{w:World}{A:akm}{E:b'}{s:aj0}
omit [ax.aX]in
theorem Vo{t cq:Addr}{items:Array Value}{fh f7:Value}{lo aA:Option Int}{Q:b'}(bC:IsTup s.heap t items)(az:s.heap.IsSliceOf cq fh f7 .none)(pl:anf fh lo)(pu:anf f7 aA)
  (hw:ck items.size 0 lo=0/\ck items.size items.size aA=items.size)
  (h:Q (.ref t) s):wpAny (model prog w) A (am8 (.ref t) (.ref cq)) Q E s:=by
 obtain⟨os,qr,x9,nM⟩:=id az;have BS:s.TypeIs (.ref cq) "slice":=⟨os,qr,x9⟩;unfold am8
 try with_reducible refine al5 ?_
 first|refine ajX (aj4 ?_)|skip
 refine ajX (wpAny_sequenceKey bC.typeIs (by decide) ?_);refine ajX (alD (name:=akj "__getitem__") bC.typeIs ak9
  (ami ak9 bC.typeIs entry_tuple_getitem ?_ (args_tuple_getitem _ _)))
 show wpAny _ _ (aoa (.ref t) >>= _) _ _ s;refine ajX (tupleItemsOf_ bC ?_);refine ajX (wpAny_typeOf BS ?_);rw[if_pos (by decide)];refine ajX (NG az pl pu ?_);rw[hw.1,hw.2];show wpAny _ _ (if((((0:Nat):Int))==0&&(1:Int)==1&&(items.size-0)==items.size)=true then _ else _) _ _ s;rw[if_pos (by simp)];refine ajX (m:=Builtin.Tuple.tupleIsExact _) (ajX (wpAny_typeOf bC.typeIs (aj4 ?_)));rw[if_pos (by decide)];refine ajX (aor ?_)
 first
  |exact ajX (aj4 (aj4 ⟨_,rfl,aj4 h⟩))
  |exact ajX (aj4 ⟨_,rfl,aj4 h⟩)
  |exact aj4 ⟨_,rfl,aj4 h⟩
omit [ax.aX]in
omit [ax.aX]in
omit [ax.aX]in
end
def ab9(K:aM):V->Option Int->Option Int->ah->cD->Prop:=λx lo aA H Q=>∃a xs,x=.ref a/\dj K H a xs/\(da.ck xs.length 0 lo=0/\da.ck xs.length xs.length aA=xs.length)/\Q (.ref a) H
omit [ax.aX]in
theorem ad7:nj X (ab9 X.K):=by
 intro zn s Y H x v fh f7 lo aA cq Q I aU az pl pu h;obtain⟨a,xs,rfl,ai,hw,q⟩:=h;cases aU;obtain⟨its,r,bC,hz⟩:=I.tuple ai;have hlen:its.toArray.size=xs.length:=by rw[akd];exact r.length.symm
 refine⟨"tuple",_,ak9.lookup,bC.typeIs,?_⟩;exact Vo bC az pl pu (by rw[hlen];exact hw) ⟨.ref a,H,I,rfl,q⟩
def Dy(x:R)(lo aA:Option Int):M R:=
 match x with
 |.v (.tup xs)=>pure (.v (.tup (cutD xs lo aA)))|_=>bad
@[simp] def AW(a:bf)(lo aA:ma)(Y:aQ):M R:=do
 let x <-a Y
 let l <-lo Y
 let h <-aA Y
 Dy x l h
def SY{α:Type}{xs:List α}{lo aA:Option Int}(h:da.ck xs.length 0 lo=0/\da.ck xs.length xs.length aA=xs.length):cutD xs lo aA=xs:=by
 unfold cutD;rw[h.1,h.2,List.drop_zero,Nat.sub_zero,amA (aj8 _)]
section
variable{X:aJ}{e st:Expr}{m:bf}{lo aA:Option Expr}{pz vr:ma}{pos cy p:Pos}
theorem agd(he:a5 X e m)(hl:oM X lo pz)(cp:oM X aA vr):a5 X (.Subscript e (.Slice lo aA none cy) pos) (AW m pz vr):=⟨dK (LB (ad7.or ad6) he.un hl.un cp.un) λaq H Q aO=>by
 obtain⟨O,Y,S,r,ar,st,h,q⟩:=aO;obtain⟨x,S1,ae,ao⟩:=M.inv h;clear h;obtain⟨l,a7,ag,aa⟩:=M.inv ao;clear ao;obtain⟨u,gw,bO,h⟩:=M.inv aa;clear aa;refine⟨O,Y,S,x,S1,st,ae,λaH es H1 g1 aP aU bw=>?_⟩;refine⟨aH,Y,S1,l,a7,aP,ag,λa_ aK g2 cf=>?_⟩;refine⟨a_,Y,a7,u,gw,cf,bO,λd_ cI g3 f6=>?_⟩;have g:=(g1.trans g2).trans g3;have acv:=aU.go (g2.trans g3);unfold Dy at h;split at h
 .rename_i xs
  cases h;obtain⟨a,ys,rfl,b6,bx⟩:=acv
  by_cases c:da.ck xs.length 0 l=0/\da.ck xs.length xs.length u=xs.length
  .refine .inl ⟨a,ys,rfl,b6,by rw[bx.len];exact c,?_⟩
   rw[SY c]at q;exact q d_ _ _ g f6 ⟨a,ys,rfl,b6,bx⟩ trivial
  .exact .inr ⟨a,ys,rfl,b6,by rw[bx.len];exact c,λp aL=>q d_ _ _ (g.trans (Go.fU aL)) (f6.fU aL) ⟨p,_,rfl,dj.of dn,(bx.cut l u).go (Go.fU aL)⟩ trivial⟩
 .cases h⟩
end
omit [ax.aX]in
@[simp] theorem aiY{l h:Option Int}:Dy (.v (.tup xs)) l h=pure (.v (.tup (cutD xs l h))):=rfl
end aE
namespace aE
open PySem PySem.Spec ax
def wB(m:cX):aQ->N Bool:=λY=>do
 let r <-m Y
 r.ob.up
def wA(a:aQ->N Bool):aQ->N Bool:=λY=>do
 let t <-a Y
 pure (!t)
def z1(a b:aQ->N Bool):aQ->N Bool:=λY=>do
 let t <-a Y
 if t=true then pure true else b Y
variable[ax.aX]
section
variable{X:aJ}{o e i f value a b:Expr}{ay rest:List Expr}{c:Str}{ns:List Str}{mo mk:bf}{ms:cU}{mv l0 rm:cX}{bR cS:aQ->N Bool}{pos pos' apos cK va:Pos}{g:List D->List R->M (R×List D)}{r:V->List V->ah->cD->Prop}{name:Str}{id:String}
theorem ahd(T:oy X.K X.mg c ns){f:Str}(hf:f∈ns)(aT:a5 X o mo)(bu:d0 X value mv)(az:ak6 value (some (.Attribute o f pos')) pos.line X.env=pure false:=by rfl):gx X (.Assign [.Attribute o f pos'] value pos) (ek c f mo mv):=⟨g4 (abS aT.un bu.un az) λD aq H aO=>by
 obtain⟨O,Y,S,aW,ar,st,h,q⟩:=aO;obtain⟨r,S1,ae,ao⟩:=N.inv h;clear h;obtain⟨d,a7,ag,aa⟩:=N.inv ao;clear ao;obtain⟨x,gw,bO,hc⟩:=N.inv aa;clear aa;obtain⟨bh,ni,cO,h⟩:=N.inv hc;clear hc;refine⟨O,Y,S,r,S1,st,ae,λaH v H1 g1 aP ba nn=>?_⟩;obtain⟨cR,rfl⟩:=oW (H₀:=H) ba nn ag;obtain rfl:=(mo Y).d6 _ _ _ bO;refine⟨cc H aH,Y,_,x,_,(aP.cc H).s3,bO,λa_ es aK g2 cf aU bw=>?_⟩;have Es:=(aP.cc H).go g2 cf.b_;obtain⟨n,b,rfl,rfl,aF,sn,gI⟩:=sM cf aU cO;obtain rfl:=(fI (.v (.ref n))).d6 _ _ _ cO;split at h
 .rename_i c' fs
  split at h
  .rename_i nK
   obtain⟨rfl,BP⟩:=nK;cases h;obtain⟨C,bU,iP,dw,ci,hC⟩:=gI;obtain⟨i7,aw,aG,_,fS⟩:=T.ex;cases aw.symm.trans ci.1;refine⟨b,C,bU,iP,rfl,dw,aG,fS f hf,by rw[hC.len];exact BP,?_⟩;obtain⟨oh,lT⟩:=Es.write (u':=.ins C bU (hB f v iP)) (o:=.bh c' (hP f d fs)) aF dw (by rintro(⟨_,z⟩|⟨_,_,z⟩)<;>cases z) (by intro _ z;cases z) (by intro _ z;cases z) λk=>
    ⟨C,bU,_,dn,ci,(LN (f:=f) (v:=v) iP).symm▸dO.hP f (k _ _ (Rep.go g2 cR)) ⟨hC.1,hC.2.imp k⟩⟩
   exact q a_ aq _ ((g1.cc.trans g2.dz).trans oh).ej lT
  .cases h
 .cases h⟩
theorem ajW(cp:X.A.units+64<cLine)(aT:a5 X o mo)(aB:a5 X i mk)(bu:d0 X value mv)(az:ak6 value (some (.Subscript o i pos')) pos.line X.env=pure false:=by rfl):gx X (.Assign [.Subscript o i pos'] value pos) (agK mo mk mv):=⟨g4 (LK (by omega) aT.un aB.un bu.un az) λD aq H aO=>by
 obtain⟨O,Y,S,aW,ar,st,h,q⟩:=aO;obtain⟨r,S1,ae,ao⟩:=N.inv h;clear h;obtain⟨d,a7,ag,aa⟩:=N.inv ao;clear ao;obtain⟨x,gw,bO,hc⟩:=N.inv aa;clear aa;obtain⟨y,p7,dV,hd⟩:=N.inv hc;clear hc;obtain⟨bh,ni,cO,h⟩:=N.inv hd;clear hd;refine⟨O,Y,S,r,S1,st,ae,λaH v H1 g1 aP ba nn=>?_⟩;obtain⟨cR,rfl⟩:=oW (H₀:=H) ba nn ag;obtain rfl:=(mo Y).d6 _ _ _ bO;obtain rfl:=(mk Y).d6 _ _ _ dV;refine⟨cc H aH,Y,_,x,_,(aP.cc H).s3,bO,λa_ es aK g2 cf aU bw=>?_⟩;refine⟨a_,Y,_,y,_,cf,dV,λd_ pT cI g3 f6 bz Dr=>?_⟩;have ux:=g2.trans g3;have aep:=(aP.cc H).go ux f6.b_;obtain⟨n,b,rfl,rfl,aF,sn,gI⟩:=sM f6 (aU.go g3) cO;obtain rfl:=(fI (.v (.ref n))).d6 _ _ _ cO;split at h
 .rename_i aC dH
  split at h
  .rename_i key gT
   split at h
   .rename_i BP
    cases h;obtain⟨de,dw,hC⟩:=gI;obtain rfl:=CF (show Rep X.K X.mg d_ cI dH pT from bz) gT;refine⟨b,_,rfl,oz.k (k:=key) dw (by rw[hC.len];exact f5 (akZ BP)),?_⟩;obtain⟨oh,lT⟩:=aep.write (u':=.hu (putK de key v)) (o:=.nz (hx aC key d)) aF dw (by rintro(⟨_,z⟩|⟨_,_,z⟩)<;>cases z) (by intro _ z;cases z) (by intro _ z;cases z) λk=>
     ⟨_,dn,dO.put key (k _ _ (Rep.go ux cR)) ⟨hC.1,hC.2.imp k⟩⟩
    exact q d_ aq _ ((g1.cc.trans ux.dz).trans oh).ej lT
   .cases h
  .cases h
 .cases h⟩
theorem ahf{jx}(cp:X.A.units+64<cLine)(aT:a5 X o mo)(aB:fQ X ay ms)(bu:d0 X value mv)(az:ak6 value (some (.Subscript o (.Tuple ay jx va) pos')) pos.line X.env=pure false:=by rfl):gx X (.Assign [.Subscript o (.Tuple ay jx va) pos'] value pos) (wx mo ms mv):=⟨g4 (LK (by omega) aT.un (zk aB.un) bu.un az) λD aq H aO=>by
 obtain⟨O,Y,S,aW,ar,st,h,q⟩:=aO;obtain⟨r,S1,ae,ao⟩:=N.inv h;clear h;obtain⟨d,a7,ag,aa⟩:=N.inv ao;clear ao;obtain⟨x,gw,bO,hc⟩:=N.inv aa;clear aa;obtain⟨rs,p7,dV,hd⟩:=N.inv hc;clear hc;obtain⟨bh,ni,cO,h⟩:=N.inv hd;clear hd;refine⟨O,Y,S,r,S1,st,ae,λaH v H1 g1 aP ba nn=>?_⟩;obtain⟨cR,rfl⟩:=oW (H₀:=H) ba nn ag;obtain rfl:=(mo Y).d6 _ _ _ bO;obtain rfl:=(ms Y).d6 _ _ _ dV;refine⟨cc H aH,Y,_,x,_,(aP.cc H).s3,bO,λa_ es aK g2 cf aU bw=>?_⟩;refine⟨a_,Y,_,rs,_,cf,dV,λd_ vs cI g3 f6 lM ajz=>?_⟩;have ux:=g2.trans g3;obtain⟨n,b,rfl,rfl,aF,sn,gI⟩:=sM f6 (aU.go g3) cO;obtain rfl:=(fI (.v (.ref n))).d6 _ _ _ cO;split at h
 .rename_i aC key gT
  split at h
  .rename_i nK
   cases h;have ev:=CG gT lM;refine⟨akZ (f5 (by rw[fN.len lM];exact nK.1)),λp aL=>?_⟩;have kY:=ux.trans (Go.fU (O:=d_) (u:=.tup vs) aL);have aeq:=(aP.cc H).go kY (f6.fU (u:=.tup vs) aL).b_;obtain⟨de,dw,hC⟩:=gI;have II:upd cI p (.tup vs) b=some (.gz de):=by rw[cG (jq dw aL)];exact dw
   have Mc:dO X.K X.mg d_ (upd cI p (.tup vs)) aC de:=⟨hC.1,hC.2.go (Go.fU aL)⟩;refine⟨b,_,rfl,oz.t (k:=key) II (by rw[<-ev];exact dn) (by rw[hC.len];exact f5 (akZ nK.2)),?_⟩;obtain⟨oh,lT⟩:=aeq.write (u':=.gz (putK de key v)) (o:=.e0 (hx aC key d)) aF II (by rintro(⟨_,z⟩|⟨_,_,z⟩)<;>cases z) (by intro _ z;cases z) (by intro _ z;cases z) λk=>
    ⟨_,dn,dO.put key (k _ _ (Rep.go kY cR)) ⟨Mc.1,Mc.2.imp k⟩⟩
   exact q d_ aq _ ((g1.cc.trans kY.dz).trans oh).ej lT
  .cases h
 .cases h⟩
theorem ahi(slot:PySem.Slot "list" name id)(qt:typeOf (.builtin id)=pure (.type "method_descriptor"))(hm:wZ X id r)(hf:tH X.K X.mg r g)(aT:a5 X o mo)(ao:fQ X (e::ay) ms)
  (k8:alz o name X.env (eval o X.env)=eval o X.env:=by rfl)
  (uO:((ako cK (ajY (e::ay) X.env)).all (λx=>!x.1)&&(alE cK (ak8 [] X.env)).all (λx=>x.1.isSome)
&&decide ((e::ay).length+([]:List am9).length+(if([]:List am9).isEmpty then 0 else 1)<30))=true:=by rfl)
  (la:(apos.endLine==cK.line)=true:=by rfl) (az:ajY (e::ay) X.env=(false,eval e X.env)::ajY ay X.env:=by rfl) (gW:(ako cK (ajY ay X.env)).any (·.1)=false:=by rfl)
  (iT:ak6 (.Call (.Attribute o name apos) (e::ay) [] cK) none pos.line X.env=pure false:=by rfl):gx X (.Expr (.Call (.Attribute o name apos) (e::ay) [] cK) pos) (wy g mo ms):=
 ⟨g4 (DW (Ls aoO slot qt hm aT.un ao.un k8 uO la az gW) iT) λD aq H aO=>by
  obtain⟨O,Y,S,aW,ar,st,h,q⟩:=aO;obtain⟨x,S1,ae,ao⟩:=N.inv h;clear h;obtain⟨rs,a7,ag,aa⟩:=N.inv ao;clear ao;obtain⟨bh,ni,cO,h⟩:=N.inv aa;clear aa;obtain rfl:=(mo Y).d6 _ _ _ ae;obtain rfl:=(ms Y).d6 _ _ _ ag;refine⟨O,Y,_,x,_,st.s3,ae,λaH es H1 g1 aP aU bw=>?_⟩;obtain⟨n,b,rfl,rfl,aF,sn,gI⟩:=sM aP aU cO;obtain rfl:=(fI (.v (.ref n))).d6 _ _ _ cO;split at h
  .rename_i xs
   obtain⟨⟨b5,ys⟩,p7,dV,h⟩:=N.inv h;cases h;obtain⟨zs,dw,bx⟩:=gI;refine⟨.inl ⟨rfl,_,du.of dw⟩,aH,Y,_,rs,_,aP,ag,λa_ vs aK g2 cf ba nn=>?_⟩;have sb:a_.bI[n]? = some b:=by rw[g2.bI];exact aF
   have IH:=g2.same.at' _ _ dw;refine hf a_ aK H1 b xs zs rs vs _ _ _ ys _ IH (bx.go g2) ba nn dV λv ws ay rw _=>?_
   subst ay;have Es:=(st.go (g1.trans g2) cf.b_).cc H1;obtain⟨oh,lT⟩:=Es.write (u':=.lst ws) (o:=.lst ys) sb IH (by rintro(⟨_,z⟩|⟨_,_,z⟩)<;>cases z) (by intro _ z;cases z) (by intro _ z;cases z) λk=>⟨_,dn,rw.imp k⟩
   exact q _ aq _ ((g1.trans g2.cc).dz.trans oh).ej lT
  .cases h⟩
theorem ahq(ao:d0 X a l0)(he:∀whole,isTrue a X.env whole=(do let v <-whole;amc a.pos;alS [v] (truthy v)):=by intro _;rfl):jD X a (wB l0):=⟨qX (LM ao.un he) λaq H Q aO=>by
 obtain⟨O,Y,S,t,ar,st,h,q⟩:=aO;obtain⟨x,S1,ae,h⟩:=N.inv h;obtain⟨rfl,rfl⟩:=ti h;exact⟨O,Y,S,_,_,st,ae,λak v H' g bW ba _=>⟨t,ba,q ak H' g bW⟩⟩⟩
theorem aho(ao:jD X a bR):jD X (.UnaryOp .Not a pos) (wA bR):=⟨qX (LL ao.un) λaq H Q aO=>by
 obtain⟨O,Y,S,r,ar,st,h,q⟩:=aO;obtain⟨t,S1,ae,h⟩:=N.inv h;cases h;exact⟨O,Y,S,t,_,st,ae,λaH H1 g1 aP=>q aH H1 g1 aP⟩⟩
def ahs(ao:jD X a bR):rG X (.BoolOp .Or [a] pos) bR:=⟨LQ ao.un⟩
theorem ahr(ao:jD X a bR)(aa:rG X (.BoolOp .Or (b::rest) pos) cS):rG X (.BoolOp .Or (a::b::rest) pos) (z1 bR cS):=⟨D5 (LP ao.un aa.un) λaq H Q aO=>by
 obtain⟨O,Y,S,r,ar,st,h,q⟩:=aO;obtain⟨t,S1,ae,h⟩:=N.inv h;refine⟨O,Y,S,t,S1,st,ae,λaH H1 g1 aP=>?_⟩
 cases t with
 |true=>
  rw[if_pos rfl]at h;cases h;exact mI (q aH H1 g1 aP)
 |false=>
  rw[if_neg aj7]at h;exact mH ⟨aH,Y,S1,r,ar,aP,h,λak H' g bW=>q ak H' (g1.trans g) bW⟩⟩
def rG.t(h:rG X a bR):jD X a bR:=⟨h.un.pt⟩
theorem agI{K:aM}{mg:a9}{r:eR}{f:R->R->M R}(hf:dS K mg r f):∀aq H Q,tx K mg (ri f l0 rm) aq H Q->tf r (tx K mg l0) (tx K mg rm) aq H Q:=by
 rintro aq H Q ⟨O,Y,S,bH,ar,st,h,q⟩;obtain⟨x,S1,ae,h⟩:=N.inv h;obtain⟨y,a7,ag,h⟩:=N.inv h;split at h
 .rename_i az
  obtain rfl:=(f x y).d6 _ _ _ h;refine⟨O,Y,S,x,S1,st,ae,λaH es H1 g1 aP aU bw=>?_⟩;refine⟨aH,Y,S1,y,ar,aP,ag,λa_ pT aK g2 cf bz Dr=>?_⟩;exact hf a_ Y ar aq aK es pT x y bH ar Q cf.s3 (aU.dz g2 aP.s3.b_.b9 az) bz h λak v H' g bW ba nn=>q ak v H' ((g1.trans g2).trans g.dz) (cf.go g bW.b_) ba (nn.dz (g1.trans g2))
 .cases h
def aha{op:Operator}{r:eR}{f:R->R->M R}(aT:dN X (alQ op) r)(hf:dS X.K X.mg r f)(ao:d0 X a l0)(aa:d0 X b rm):d0 X (.BinOp a op b pos) (ri f l0 rm):=⟨dK (DS aT ao.un aa.un) (agI hf)⟩
end
def Zu{P:aki}{w:World}{K:aM}{mg:a9}{base:Heap}{f:Addr}{fd:ak4}{k:Nat}{mf:eY}(F:ez P w K mg base eh k f fd ["script"] (dM K mg mf))
  (h:∀ns:List Int,ns.length<=63->∃ar,(mf [.lst (ns.map D.int)]).run []=.ok (.v (.au true)) ar):ez P w K mg base eh k f fd ["script"] (wc K):=by
 refine F.imp λvs H Q E aO=>?_
 obtain⟨a,ns,e,fc,aF,cS,q⟩:=aO;subst e;obtain⟨ar,h'⟩:=h ns aF;refine⟨⟨λ_=>.free,[]⟩,[.lst (ns.map D.int)],_,[],ar,⟨λa ao=>absurd rfl ao,cS,List.nodup_nil,λa m=>by cases m⟩,fP.nil,rfl,⟨_,_,rfl,⟨a,_,rfl,fc.imp (λz=>⟨z,by simp⟩) id,L8 ns⟩,rfl⟩,h',λak v H' _ _ _ _ ba _=>?_⟩;cases(show v=.au true from ba);exact q H'
end aE
namespace aE
open PySem PySem.Spec ax
def tq(o:hW):cX:=λ_=>do
 let S <-xX
 putN (S++[o])
 pure (.v (.ref S.length))
variable[ax.aX]
section
variable{K:aM}{mg:a9}{O:a0}{H H':ah}{S:cJ}{Y:aQ}{aq:St}{p:Addr}{o:hW}
def ea.adopt(st:ea K mg O Y S aq H)(np:p∉O.bI)(nl:∀i,O p≠.loc i)(same:∀b,b≠p->H' b=H b)(aL:H' p≠none)(kp:H' p=H p\/∀u,H p=some u->¬Fix u/\∀ys,u≠.lst ys)(lv:O p=.free\/O p=.out->∀u,H p=some u->(∀ys,u≠.lst ys)/\¬Fix u)(b4:TabsOk H->TabsOk H')
  (bh:(∀d v,Rep K mg O H d v->Rep K mg (gY O p) H' d v)->mb K mg (gY O p) H' p o):ea K mg (gY O p) Y (S++[o]) aq H'/\(gY O p).bI[S.length]? = some p:=by
 have cM:=st.s3.b_;have aD:(gY O p).bI[S.length]? = some p:=by show(O.bI++[p])[S.length]? = _;rw[<-st.full,akq (aj8 _),alY];rfl
 have ep:fx O (gY O p) H H':=⟨λb u e h _=>by
  by_cases dh:b=p
  .subst dh
   rcases kp with kp|kp
   .rw[kp];exact e
   .obtain⟨k1,k2⟩:=kp u e
    exact h.elim (λz=>absurd z.2.2.choose_spec (k2 _)) λz=>absurd z k1
  .rw[same b dh];exact e,λb ys e f=>by
   rw[n1 (by rintro rfl;exact(lv (.inl f) _ e).1 ys rfl)];exact f,an2 _ _⟩
 have f:∀d v,Rep K mg O H d v->Rep K mg (gY O p) H' d v:=λ_ _ z=>Rep.ep ep cM.b9 z
 have cR:∀{b:Addr}{ws:List V},fi H b (.lst ws)->(O b=.free\/O b=.out)->b≠p:=λ{b ws} h hf=>by
  rintro rfl;rcases h with h|⟨x,h⟩
  .exact(lv hf _ h).1 ws rfl
  .exact(lv hf _ h).2 (.inr ⟨_,_,rfl⟩)
 have v3:∀{b:Addr}{ws:List V},b≠p->fi H b (.lst ws)->fi H' b (.lst ws):=λ{b ws} nb h=>by unfold fi;rw[same b nb];exact h
 refine⟨⟨⟨⟨λb aa=>?_,b4 cM.tabs,K7 cM np⟩,st.s3.len,λi s e=>?_,λn c7 e=>?_⟩,?_,λi zs e=>?_⟩,aD⟩
 .by_cases dh:b=p
  .rw[dh];exact aL
  .rw[n1 dh]at aa;rw[same b dh];exact cM.has b aa
 .have lo:=st.s3.loc i s e
  cases s with
  |e=>exact trivial|v d=>obtain⟨v,q,r⟩:=lo;exact⟨v,q,f _ _ r⟩
  |e2 jS zs=>
         obtain⟨b,ws,q,pD,cu,r⟩:=lo;have nb:b≠p:=by rintro rfl;exact nl i pD
         exact⟨b,ws,q,(n1 nb).trans pD,by rw[same b nb];exact cu,r.imp f⟩
  |b8 zs=>obtain⟨b,ws,q,cu,r⟩:=lo;exact⟨b,ws,q,cu.imp (λz=>⟨v3 (cR z.1 z.2) z.1,by rw[n1 (cR z.1 z.2)];exact z.2⟩) id,r.imp f⟩
 .by_cases aF:n<S.length
  .rw[akt aF]at e
   obtain⟨b,aw,aG⟩:=st.s3.fJ n c7 e;have nb:b≠p:=by rintro rfl;exact np (akQ aw)
   exact⟨b,by show(O.bI++[p])[n]? = _;rw[akt (by rw[st.full];exact aF)];exact aw,aG.all f λ_ l _=>by rw[same b nb];exact l⟩
  .rw[akq (by omega)]at e
   obtain rfl:n=S.length:=by
    have:=(aj1.mp e).1;simp at this;omega
   rw[alY]at e;cases e;exact⟨p,aD,bh f⟩
 .show(O.bI++[p]).length=_
  rw[aj9,aj9,st.full];rfl
 .obtain⟨b,ws,q,cu,r⟩:=st.rd i zs e
  exact⟨b,ws,q,cu.imp (λz=>⟨v3 (cR z.1 z.2.1) z.1,by rw[n1 (cR z.1 z.2.1)];exact z.2.1,λm=>(alb.mp m).elim z.2.2 λw=>cR z.1 z.2.1 (akE.mp w)⟩) id,r.imp f⟩
theorem e3.adopt{oF:a0}{H₀:ah}(g:e3 oF O H₀ H)(h0:H₀ p=none)(same:∀b,b≠p->H' b=H b)(b4:TabsOk H->TabsOk H'):e3 oF (gY O p) H₀ H':=by
 have nb:∀{b:Addr},H₀ b≠none->b≠p:=λh=>by rintro rfl;exact h h0
 exact⟨λb o e h n=>by rw[same b (nb (ix e))];exact g.cells b o e h n,λb aa=>(n1 (nb aa)).trans (g.own b aa),λb aa=>by rw[same b (nb aa)];exact g.has b aa,
  λb ps e=>by rw[same b (nb (ix e))];exact g.cS b ps e,λt=>b4 (g.b4 t),g.bI.trans (an2 _ _),λb m=>(alb.mp m).elim (g.new b) λz=>.inr (by rw[akE.mp z];exact h0)⟩
end
section
variable{X:aJ}{e:Expr}{m:cX}{pos:Pos}
def ag7(he:d0 X e m):d0 X e (tr m):=⟨dK he.un λaq H Q aO=>by
 obtain⟨O,Y,S,r,ar,st,h,q⟩:=aO;obtain⟨x,S1,ae,h0⟩:=N.inv h;clear h;refine⟨O,Y,S,x,S1,st,ae,λaH v H1 g1 aP ba nn=>?_⟩;split at h0
 .rename_i xs
  obtain⟨hJ,a7,ag,h⟩:=N.inv h0;clear h0;cases ag;cases h;obtain⟨a,ys,rfl,l,t,bx⟩:=ba;obtain⟨s1,aD⟩:=aP.adopt (H':=H1) (p:=a) (o:=.lst xs) (aP.s3.b_.b9.no t (by intro z;cases z)) (λi z=>by rw[t]at z;cases z) (λ_ _=>rfl) (ix l) (.inl rfl) (λz=>by rw[t]at z;rcases z with z|z<;>cases z) id λf=>⟨ys,l,bx.imp f⟩
  exact q _ _ H1 (g1.adopt (nn a rfl) (λ_ _=>rfl) id) s1 ⟨a,rfl,aD⟩ trivial
 .cases h0⟩
def Uz(aL:∀{O:a0}{H:ah}{p:Addr},mb X.K X.mg O (upd H p u) p o)(he:bM X e λY H Q=>∀p,H p=none->Q (.ref p) (upd H p u)):d0 X e (tq o):=⟨dK he λaq H Q aO p aF=>by
 obtain⟨O,Y,S,r,ar,st,h,q⟩:=aO;cases h;obtain⟨g,d,d3,aW⟩:=alloc (o:=o) st.s3.b_ st.s3.fJ st.full aF (i2 aF u) (by rw[dn];intro z;cases z) λ_=>aL
 refine q _ _ _ g (st.dz g d d3 aW) ⟨p,rfl,?_⟩ trivial;show(O.bI++[p])[S.length]? = _;rw[<-st.full,akq (aj8 _),alY];rfl⟩
def ag3:d0 X (.Dict [] [] pos) (tq (.e0 [])):=Uz ⟨[],dn,rfl,rfl⟩ abo
end
end aE
namespace aE
open PySem PySem.Spec ax
variable[ax.aX]
structure z_(K:aM)(x qual:Str)(st:Stmt)(f:Addr)(fd:ak4):Prop where
 ex:∃(cw:Value)(cT:Option Addr)(oV cv doc pm:Value)(an:Option Addr)(bc cb:Value)(eP:Array (Option Value)),
  fd=alM x qual (hv st) (eU st) (bk st) oV cv doc pm an bc cb/\K.lookup f=some ⟨cw,cT,.func fd,eP⟩/\anR K bc qual=true
 kp:alW K (.ref f)=true
def z_.ok{P:aki}{w:World}{K:aM}{mg:a9}{base:Heap}{x qual:Str}{st:Stmt}{f:Addr}{fd:ak4}{N ps:List Str}{k:Nat}{sp:dP}(F:z_ K x qual st f fd)(S:bP N ps (bk st))(len:∀vs H Q E,sp vs H Q E->vs.length=ps.length)
  (uL:∀(bc:Value)(A:akm)(outer:List Env)(s:aj0)(H:ah)(vs:List V)(Q:cD)(E:eS),cg k (A.deeper (akW qual (bk st) s.heap.objs.size f bc))->sp vs H Q E->
   ∃t,gP (fl eh P w K mg base N qual (bk st) f bc A outer s H E).fZ (eU st) t/\t { bw:=λ_ H'=>Q .aN H',cP:=Q } (start N vs) H):ez P w K mg base eh (k+1) f fd ps sp:=by
 obtain⟨cw,cT,oV,cv,doc,pm,an,bc,cb,eP,rfl,lk,ew⟩:=F.ex;refine xO lk ew S len λA outer s H vs Q E aD gA=>?_
 obtain⟨t,h,q⟩:=uL bc A outer s H vs Q E aD gA;exact⟨t,h.fZ,q⟩
structure tK(K:aM)(mg:a9)(c m qual:Str)(st:Stmt)(ps:List Str):Prop where
 ex:∃C f fd,mg c=some (.ref C)/\hT K C/\Meth K C m f/\z_ K m qual st f fd/\Binds K fd ps []/\Binds K fd ps [.none]
structure Ab(P:aki)(w:World)(K:aM)(mg:a9)(base:Heap)(c m:Str)(ps:List Str)(k:Nat)(sp:dP):Prop where
 all:dq P w K mg base c m ps k sp
 ex:∃C f fd,mg c=some (.ref C)/\hT K C/\Meth K C m f/\ez P w K mg base eh k f fd ps sp/\Binds K fd ps [.none]
def V0{P:aki}{w:World}{K:aM}{mg:a9}{base:Heap}{c m qual:Str}{st:Stmt}{ps N:List Str}{k:Nat}{cE:bt}{n nl:Nat}(b1:tK K mg c m qual st ps)(Sc:bP N ps (bk st))(aF:ps.length=n)(hl:N.length=nl)
  (aa:∀(f:Addr)(bc:Value)(A:akm)(outer:List Env)(s:aj0)(H:ah)(E:eS),cg k (A.deeper (akW qual (bk st) s.heap.objs.size f bc))->
   i' (fl eh P w K mg base N qual (bk st) f bc A outer s H E).fZ (eU st) cE):Ab P w K mg base c m ps (k+1) (dM K mg (fnX n nl cE)):=by
 obtain⟨C,f,fd,eD,cl,me,F,gh,b⟩:=b1.ex;subst aF hl;have ok:=F.ok (P:=P) (w:=w) (mg:=mg) (base:=base) (sp:=dM K mg (fnX ps.length N.length cE)) Sc (λvs H Q E ⟨O,ds,r,S,ar,cM,d3,BB,eb,h,q⟩=>eb.r.len.trans (Bw h)) λbc A outer s H vs Q E aD gA=>⟨_,(aa f bc A outer s H E aD).un,Hg gA⟩
 exact⟨⟨C,f,fd,eD,cl,me,ok,gh⟩,⟨C,f,fd,eD,cl,me,ok,b⟩⟩
omit [ax.aX]in
theorem SO{K:aM}{h:Heap}{mg:a9}{c:Str}{C:Addr}{fs:List Str}(X:K.In h)(G:h.Ns akx mg)(a:anh K akx c=some (some (.ref C)))
  (vS:aoo K C Str.empty=true) (hd:ao2 K C=true) (po:W.plainOver K C=true) (n8:alL K (.ref C) "__setattr__"=some (some (.builtin "object.__setattr__"))) (mk:W.makesIn K C=true) (CB:alW K (.ref C)=true)
  (na:∀f∈fs,alL K (.ref C) f=some none):oy K mg c fs:=⟨C,anS X G a,⟨vS,hd,po,n8⟩,⟨mk,CB⟩,na⟩
omit [ax.aX]in
theorem Uu{K:aM}{h:Heap}{mg:a9}{c m qual:Str}{C f:Addr}{fs ps:List Str}{st:Stmt}{cT an:Option Addr}{cq:Array (Option Value)}{cw cv ny pm cd cb:Value}(X:K.In h)(G:h.Ns akx mg)(T:oy K mg c fs)(a:anh K akx c=some (some (.ref C)))
  (e:alL K (.ref C) m=some (some (.ref f))) (i:W.isFn K (.ref f)=true) (l:K.lookup f=some ⟨cw,cT,.func (alM m qual (hv st) (eU st) (bk st) .none cv ny pm an cd cb),cq⟩) (rR:anR K cd qual=true) (k:alW K (.ref f)=true)
  (aa:∀(cv doc pm:Value)(an:Option Addr)(bc cb:Value)(us:List Value),us.length=ps.length->amf (alM m qual (hv st) (eU st) (bk st) .none cv doc pm an bc cb) ⟨us,[]⟩=pure (ps.zip us)):fV K mg c m qual st ps:=by
 obtain⟨i7,ae,ag,_⟩:=T.ex;have bO:=anS X G a;rw[ae]at bO;cases bO;exact⟨_,f,_,ae,ag,⟨e,i,k⟩,xT (st:=st) l rR k,(xT (st:=st) l rR k).binds aa⟩
omit [ax.aX]in
theorem Uv{K:aM}{h:Heap}{mg:a9}{c m qual:Str}{C f T:Addr}{fs ps:List Str}{st:Stmt}{cT an afa:Option Addr}{cq afj:Array (Option Value)}{cw cv ny pm cd cb ae9:Value}{j eQ:Nat}(X:K.In h)(G:h.Ns akx mg)(Pj:oy K mg c fs)(a:anh K akx c=some (some (.ref C)))
  (e:alL K (.ref C) m=some (some (.ref f))) (i:W.isFn K (.ref f)=true) (l:K.lookup f=some ⟨cw,cT,.func (alM m qual (hv st) (eU st) (bk st) (.ref T) cv ny pm an cd cb),cq⟩) (t:K.lookup T=some ⟨ae9,afa,.seq #[.none] eQ,afj⟩) (rR:anR K cd qual=true) (k:alW K (.ref f)=true) (aR:ps.length=j+1)
  (aa:∀(cv doc pm:Value)(an:Option Addr)(bc cb:Value)(us:List Value),us.length=j+1->∃ff,amf (alM m qual (hv st) (eU st) (bk st) (.ref T) cv doc pm an bc cb) ⟨us,[]⟩=anu (.ref T) >>= ff/\ff (some #[.none])=pure (ps.zip us))
  (o5:∀(cv doc pm:Value)(an:Option Addr)(bc cb:Value)(us:List Value),us.length=j->∃ff,amf (alM m qual (hv st) (eU st) (bk st) (.ref T) cv doc pm an bc cb) ⟨us,[]⟩=anu (.ref T) >>= ff/\ff (some #[.none])=pure (ps.zip (us++[.none]))):tK K mg c m qual st ps:=by
 obtain⟨i7,ae,ag,_⟩:=Pj.ex;have bO:=anS X G a;rw[ae]at bO;cases bO;refine⟨_,f,_,ae,ag,⟨e,i,k⟩,⟨⟨cw,cT,_,cv,ny,pm,an,cd,cb,cq,rfl,l,rR⟩,k⟩,λs us Am hl=>?_,λs us Am hl=>?_⟩
 .rw[ak3]at hl ⊢
  obtain⟨ff,aw,aG⟩:=aa cv ny pm an cd cb us (hl.trans aR);exact aph rfl (Am _ _ t) rfl aw aG
 .rw[aj9,aR]at hl
  obtain⟨ff,aw,aG⟩:=o5 cv ny pm an cd cb us (by simpa using hl);exact aph rfl (Am _ _ t) rfl aw aG
def fV.none{k:Nat}{sp:dP}(D:fV K mg c m qual st ps)(no:∀vs H Q E,¬sp vs H Q E):dq P w K mg base c m ps k sp:=by
 obtain⟨C,f,fd,a,b,d,F,e⟩:=D.ex;exact⟨C,f,fd,a,b,d,⟨λvs H Q E h=>absurd h (no vs H Q E),λA outer s H args us vs Q E _ _ _ _ h=>absurd h (no vs H Q E)⟩,e⟩
end aE
namespace aE
open PySem PySem.Spec ax
def zR(a b:cX):cX:=λY=>do
 let x <-a Y
 let t <-x.ob.up
 if t=true then b Y else pure (.v (.au false))
variable[ax.aX]
section
variable{X:aJ}{a b:Expr}{rest:List Expr}{pos:Pos}{l0 rm:cX}
def ag9{op}(h:d0 X a l0):d0 X (.BoolOp op [a] pos) l0:=⟨LA h.un⟩
def ag1(ao:d0 X a l0)(aa:d0 X (.BoolOp .And (b::rest) pos) rm):d0 X (.BoolOp .And (a::b::rest) pos) (zR l0 rm):=⟨dK (Lr ao.un aa.un) λaq H Q aO=>by
 obtain⟨O,Y,S,r,ar,st,h,q⟩:=aO;obtain⟨x,S1,ae,h⟩:=N.inv h;obtain⟨t,a7,ag,h⟩:=N.inv h;obtain⟨rfl,rfl⟩:=ti ag;refine⟨O,Y,S,_,_,st,ae,λaH es H1 g1 aP aU bw=>⟨t,aU,?_⟩⟩
 cases t with
 |false=>
  rw[if_neg aj7]at h;cases h;exact mH (q aH _ H1 g1 aP rfl trivial)
 |true=>
  rw[if_pos rfl]at h;exact mI ⟨aH,Y,_,r,ar,aP,h,λak v H' g bW ba nn=>q ak v H' (g1.trans g) bW ba (nn.dz g1)⟩⟩
end
end aE
namespace aE
open PySem PySem.Spec ax PyProof.Rows
def jA(fs xs:List Addr)(h h':Heap):Prop:=∀b o,h.get? b=some o->b∉xs->(b∉fs->h'.get? b=some o)/\∃cq,h'.get? b=some { o with slots:=cq }
def jA.trans{fs xs ys:List Addr}(a:jA fs xs h ae)(b:jA fs ys ae ag):jA fs (xs++ys) h ag:=λc o e hc=>by
 have e7:c∉xs:=λz=>hc (alP _ z)
 have dG:c∉ys:=λz=>hc (akz _ z)
 obtain⟨a1,cq,a2⟩:=a c o e e7;refine⟨λhf=>(b c o (a1 hf) dG).1 hf,?_⟩;obtain⟨_,n',bY⟩:=b c _ a2 dG;exact⟨n',bY⟩
def md(h:Heap)(e T:Addr)(cls aW:Value):Prop:=∃gZ vs y_ fv,h.get? e=some gZ/\gZ.cls=cls/\gZ.data=.fields vs/\vs[1]? = some (.ref T)/\T≠e/\h.get? T=some y_/\y_.data=.fields fv/\fv[3]? = some aW
def md.there{h:Heap}(x:md h e T cls aW):∃bh,h.get? e=some bh/\bh.cls=cls:=by
 obtain⟨gZ,_,_,_,he,hc,_⟩:=x;exact⟨gZ,he,hc⟩
section
variable{M:Model}{A:akm}{E:b'}{s:aj0}
def H0{base:Heap}{env:Env}{outer:List Env}{L e:Addr}{gZ:Obj}{vs:Array Value}{head:Value}{VV:Bool}{Q:Unit->aj0->Prop}
  (k':A.frames=some (env::outer)) (hl:s.heap.FunFrames base (env::outer)) (hf:env.frame=some L) (he:s.heap.get? e=some gZ) (hd:gZ.data=.fields vs) (hsz:1<vs.size)
  (h:∀h' T,jA (fY (env::outer)) [e] s.heap h'->s.heap.objs.size<=T->md h' e T gZ.cls (alo L)->Q () { s with heap:=h' }) :
  wpAny M A (do let a <-frameOf env;let pl <-entryPlaceOf L VV;let b <-api head a .none (alo L) .none pl;setField (.ref e) 1 b) Q E s:=by
 have Xu:e∉(env::outer).filterMap (·.frame):=λhm=>by
  obtain⟨_,o,aT,qp⟩:=hl.mem hm;rw[he]at aT;injection aT with aT;subst aT;exact qp vs hd
 refine ajX (wpAny_frameOf_fun k' hl hf λfD gB=>?_);refine ajX (wpAny_entryPlaceOf λpl dJ=>?_);unfold api newFields;refine ajX (alF ?_ (dJ.sizeOk5 _ _ _ _ _));have I':fD.get? e=some gZ:=(gB.2.1 e Xu).trans he;have Ja:=ajZ (h:=fD) { cls:=.type "traceback",dict:=none,data:=.fields ([head,.ref L,.none,alo L,.none]++(if pl.isEmpty then akF 6 ak5 else pl)).toArray } I';refine anc Ja hd hsz (h _ fD.objs.size ?_ (by rw[gB.1];exact aj8 _) ?_)
 .intro b o aa k9
  have k9:b≠e:=λz=>k9 (by simp[z])
  have keep:∀o,fD.get? b=some o->((fD.push { cls:=.type "traceback",dict:=none,data:=.fields ([head,.ref L,.none,alo L,.none]++(if pl.isEmpty then akF 6 ak5 else pl)).toArray }).update e (amQ (·.setIfInBounds 1 (akl fD.objs.size)))).get? b=some o:=λo aa=>by
   rw[alX _ _ (alR k9)];exact ajZ _ aa
  refine⟨λqp=>keep o ((gB.2.1 b qp).trans aa),?_⟩;obtain⟨cq,az⟩:=gB.2.2 b o aa;exact⟨cq,keep _ az⟩
 .have qj:fD.objs.size≠e:=aoA (ake I')
  have I8:=amw hd (·.setIfInBounds 1 (akl fD.objs.size));have Xv:=anv (amQ (·.setIfInBounds 1 (akl fD.objs.size))) Ja (anw I8);have VS:=(alX (fD.push { cls:=.type "traceback",dict:=none,data:=.fields ([head,.ref L,.none,alo L,.none]++(if pl.isEmpty then akF 6 ak5 else pl)).toArray })
   (amQ (·.setIfInBounds 1 (akl fD.objs.size))) (alR qj)).trans (akc fD rfl)
  exact⟨_,_,_,_,Xv,Obj.cls_mapFields _ _,I8,by simp[hsz],qj,VS,rfl,by first|(simp;done)|(rcases dJ with rfl|⟨_,_,_,_,_,_,_,rfl⟩<;>simp)⟩
def aay{base:Heap}{env:Env}{outer:List Env}{L e:Addr}{gZ:Obj}{vs:Array Value}{Q:Unit->aj0->Prop}
  (k':A.frames=some (env::outer)) (hl:s.heap.FunFrames base (env::outer)) (hf:env.frame=some L) (he:s.heap.get? e=some gZ) (hd:gZ.data=.fields vs) (ae:vs[1]? = some .none)
  (h:∀h' T,jA (fY (env::outer)) [e] s.heap h'->s.heap.objs.size<=T->md h' e T gZ.cls (alo L)->Q () { s with heap:=h' }):wpAny M A (an1 (.ref e) env) Q E s:=by
 unfold an1;simp only[hf];refine ajX (akV he hd ae ?_);rw[if_neg (by decide)];exact H0 k' hl hf he hd (al8.mp ae).1 h
def aaz{base:Heap}{env:Env}{outer:List Env}{L e T:Addr}{cls:Value}{Q:Unit->aj0->Prop}
  (k':A.frames=some (env::outer)) (hl:s.heap.FunFrames base (env::outer)) (hf:env.frame=some L) (bC:md s.heap e T cls .none)
  (h:∀h' w5,jA (fY (env::outer)) [T,e] s.heap h'->s.heap.objs.size<=w5->md h' e w5 cls (alo L)->Q () { s with heap:=h' }):wpAny M A (an1 (.ref e) env) Q E s:=by
 obtain⟨gZ,vs,y_,fv,he,rfl,hd,ae,qj,eA,qm,bO⟩:=bC;unfold an1;simp only[hf];refine ajX (akV he hd ae ?_);rw[if_pos (show(akl T != ak5)=true from by simp)];refine ajX (akV eA qm bO ?_);rw[if_neg (show ¬((ak5==alo L)=true)from by simp[alo])];refine ajX (anc eA qm (al8.mp bO).1 ?_);have other:∀b,b≠T->(s.heap.update T (amQ (·.setIfInBounds 3 ak5))).get? b=s.heap.get? b:=λb aa=>alX _ _ (alR aa)
 have aas:∀b o,s.heap.get? b=some o->(∀vs,o.data≠.fields vs)->b≠T:=λb o aa qp q=>by
  rw[q,eA]at aa;injection aa with aa;subst aa;exact qp fv qm
 have k0:jA (fY (env::outer)) [T] s.heap (s.heap.update T (amQ (·.setIfInBounds 3 ak5))):=λb o aa nI=>by
  have nI:b≠T:=λz=>nI (by simp[z])
  exact⟨λ_=>(other b nI).trans aa,o.slots,(other b nI).trans aa⟩
 refine H0 k' (hl.of_keeps λb o aa qp=>⟨o,(other b (aas b o aa qp)).trans aa,rfl⟩) hf ((other e (alR qj)).trans he) hd (al8.mp ae).1
  λh' w5 k1 IL t1=>h h' w5 (k0.trans k1) (by rw[Heap.size_update]at IL;exact IL) t1
def xM{fs:List Addr}{Q:Unit->aj0->Prop}(bC:md s.heap e T cls aW)(h:∀h',jA fs [T] s.heap h'->md h' e T cls .none->Q () { s with heap:=h' }) :
  wpAny M A (setFlight (.ref e) none) Q E s:=by
 obtain⟨gZ,vs,y_,fv,he,hc,hd,ae,qj,eA,qm,bO⟩:=bC;have Jo:3<fv.size:=(al8.mp bO).1;have other:∀b,b≠T->(s.heap.update T (amQ (·.setIfInBounds 3 ((none:Option Addr).elim ak5 λf=>alo f)))).get? b=s.heap.get? b:=
  λb aa=>alX _ _ (alR aa)
 unfold setFlight;refine ajX (akV he hd ae ?_);rw[if_pos (show(akl T != ak5)=true from by simp)];refine anc eA qm Jo (h _ (λb o aa nI=>?_) ?_)
 .have nI:b≠T:=λz=>nI (by simp[z])
  exact⟨λ_=>(other b nI).trans aa,o.slots,(other b nI).trans aa⟩
 .exact⟨gZ,vs,_,_,(other e (alR qj)).trans he,hc,hd,ae,qj,anv _ eA (anw (amw qm _)),amw qm _,by simp[Jo]⟩
end
def OW(h0:Heap)(H:ah)(a:Addr)(cls:Value)(h:Heap):Prop:=∃T,md h a T cls .none/\(h0.get? a=none/\H a=none)/\h0.get? T=none/\H T=none
def l4(P:aki)(w:World):kI:=λouter H s E e s'=>∃a cls H',e=.ref a/\(s'.os=s.os/\amR s'.gens)/\ax.fA (fY outer) [] H H' s.heap s'.heap/\et P w H' s'.heap/\OW s.heap H' a cls s'.heap/\E cls none H'
def fL.there{H:ah}{h:Heap}(x:fL P w H h a o):∃bh,h.get? a=some bh:=by
 cases o with
 |lst xs=>obtain⟨_,_,_,_,e⟩:=x;exact⟨_,e⟩
 |tup xs=>obtain⟨_,_,_,bh,e,_⟩:=x;exact⟨_,e⟩
 |hu aC=>obtain⟨_,_,_,_,o,_,_,e,_⟩:=x;exact⟨_,e⟩
 |gz aC=>obtain⟨_,_,_,_,o,_,_,e,_⟩:=x;exact⟨_,e⟩
 |set S n=>obtain⟨o,_,_,_,e,_⟩:=x;exact⟨_,e⟩
 |ins C bU fs=>obtain⟨_,_,_,e,_⟩:=x;exact⟨_,e⟩
 |own y=>obtain⟨_,e⟩:=x;exact⟨_,e⟩
 |zZ fs=>obtain⟨_,⟨_,_,_,e,_⟩,_⟩:=x;exact⟨_,e⟩
 |zr lo aA=>obtain⟨_,_,_,e⟩:=x;exact⟨_,e⟩
 |cc bh u=>obtain⟨e,_⟩:=x;exact⟨_,e⟩
 |ft ps=>exact⟨_,(show h.get? a=some _ from x)⟩|met f y=>exact⟨_,(show h.get? a=some _ from x)⟩|ext ot=>obtain⟨_,⟨_,e⟩,_⟩:=x;exact⟨_,e⟩
def afA{H:ah}{h:Heap}(ok:et P w H h)(e:h.get? a=none):H a=none:=by
 cases q:H a with
 |none=>rfl|some o=>obtain⟨bh,bZ⟩:=fL.there (ok a o q);rw[e]at bZ;cases bZ
section
variable{X:aJ}{zn:cC}{Y:ax.St}{H H1:ah}{s s1:aj0}{ag:Heap}
def JB(I:Inv X zn Y H s)(os:s1.os=s.os)(bare:amR s1.gens)(un:ax.fA (fY X.stack) [] H H1 s.heap s1.heap)(bA:et X.prog X.w H1 s1.heap)(ai:∀b∈xs,s.heap.get? b=none/\H1 b=none)(k:jA (fY X.stack) xs s1.heap ag) :
  Inv X zn Y H1 { s1 with heap:=ag }:=by
 have bJ:=I.xv (s':=s1) (ch:=[]) os un bA bare (λb z=>absurd z (by simp));have fr:∀b∈fY X.stack,H1 b=none:=λb aa=>bJ.Ep b aa
 refine I.xv (s':={ s1 with heap:=ag }) (ch:=[]) os ⟨λb o e n hf hc=>?_,λb o e n hf hc=>?_,un.free,λb o e hc=>?_,un.lQ,un.ke,un.kz⟩ (λb u e=>?_) bare (λb z=>absurd z (by simp))
 .exact(k b o (un.keep b o e n hf hc) λz=>by rw[(ai b z).1]at e;cases e).1 hf
 .obtain⟨cq,aw⟩:=un.slot b o e n hf hc
  obtain⟨_,jv,aG⟩:=k b _ aw λz=>by rw[(ai b z).1]at e;cases e
  exact⟨jv,aG⟩
 .obtain⟨c7,aw⟩:=un.there b o e hc
  obtain⟨_,jv,aG⟩:=k b _ aw λz=>by rw[(ai b z).1]at e;cases e
  exact⟨_,aG⟩
 .refine(bA b u e).m2 (λc v hc q=>?_) (λ_ q=>q) λ_ _ q=>q
  have:∃u',H1 c=some u':=by
   rcases hc with z|z
   .rw[z];exact⟨u,e⟩
   .exact⟨_,z⟩
  obtain⟨u',bZ⟩:=this;exact(k c v q λz=>by rw[(ai c z).2]at bZ;cases bZ).1 λz=>by rw[fr c z]at bZ;cases bZ
end
section
variable{P:aki}{w:World}{K:aM}{mg:a9}{base:Heap}{N:List Str}{qual:Str}{scope:Scope}{f:Addr}{cd:Value}{A:akm}{outer:List Env}{s0:aj0}{Aa:ah}{E:eS}
structure Lets(X:aJ)(E:eS):Prop where
 made:∀(zn:cC)(Y:ax.St)(H:ah)(s:aj0)(h':Heap)(e:Addr)(cls:Value)(args:List Value),Inv X zn Y H s->Heap.MadeExcOf s.heap h' e cls args->E cls none H->X.cL (.ref e) { s with heap:=h' }
def ZG:Lets (fl (l4 P w) P w K mg base N qual scope f cd A outer s0 Aa E) E where
 made:=by
  intro zn Y H s h' e cls args I ai o1;have bJ:Inv (fl (l4 P w) P w K mg base N qual scope f cd A outer s0 Aa E) zn Y H { s with heap:=h' }:=I.kept (t':=s.toks) ai.keeps;obtain⟨t,he,_,_⟩:=ai.there;have i9:H e=none:=afA I.bA ai.new;show wpAny (model P w) _ (leaving _ (.ref e)) _ _ _;unfold leaving;refine ajX (aay (outer:=outer) bJ.ok.frames bJ.stack rfl he rfl rfl λae hJ k1 uH t1=>?_);refine xM (fs:=fY (fl (l4 P w) P w K mg base N qual scope f cd A outer s0 Aa E).stack) t1 λag k2 hn=>?_
  have tM:H hJ=none:=bJ.bA.fresh uH;have vE:s.heap.get? hJ=none:=by
   cases q:s.heap.get? hJ with
   |none=>rfl|some o=>exact absurd (ake (ai.keeps _ _ q)) (Nat.not_lt.mpr uH)
  have wW:=JB I (s1:={ s with heap:=h' }) rfl I.bare (ax.fA.kept ai.keeps) bJ.bA (xs:=[e]++[hJ]) (λb aa=>by
   simp only[aoJ,aoY,aj5,aly,or_false]at aa;rcases aa with rfl|rfl
   .exact⟨ai.new,i9⟩
   .exact⟨vE,tM⟩) (k1.trans k2)
  have pC:∀b,s.heap.get? b=none->s0.heap.get? b=none:=λb aa=>by
   cases q:s0.heap.get? b with
   |none=>rfl| some o=>obtain⟨c7,bZ⟩:=I.base.there b o q (by intro z;exact absurd (show b∈([]:List Addr)from z) (by simp));rw[aa]at bZ;cases bZ
  exact⟨e,cls,H,rfl,⟨wW.os,wW.bare⟩,wW.base,wW.bA,⟨hJ,hn,⟨pC e ai.new,i9⟩,pC hJ vE,tM⟩,o1⟩
end
def aa9{K:aM}{h:Heap}{mg:a9}{x:Str}{C:Addr}{Hf:List Value}{newId:String}(X:K.In h)(e:mg x=some (.ref C))(q:W.excIn K C Hf newId=true):OwnCls x C Hf newId mg h:=by
 refine⟨e,?_⟩;unfold W.excIn at q;split at q
 .rename_i dd cd cq aT
  split at q
  .rename_i i7 bm k0 k1 k2 k3 n k5 hm az
   simp only[akw,beq_iff_eq,Bool.not_eq_true']at q;obtain⟨⟨⟨⟨⟨rfl,rfl⟩,I6⟩,bC⟩,bA⟩,yg⟩:=q;obtain⟨nm,bs,mro,ns,s6,hd,sn,sub,ab,col,del⟩:=cd;dsimp only at hm I6 bA yg;subst hm I6;have X3:cq=#[k0,k1,k2,k3,some (.builtin n),k5]:=by
    obtain⟨l⟩:=cq;simp only at az;rw[az]
   subst X3;exact⟨bm,ns,nm,s6,bs,hd,sn,sub,ab,col,dd,k0,k1,k2,k3,k5,_,X _ _ aT,.of_isNs (W.isNs_of_in X bA),W.nsMap_none_of_in X bA yg,W.tail_of_in X bC⟩
  .cases q
 .cases q
abbrev R7:List Value:=[.type "ValueError",.type "Exception",.type "BaseException",.type "object"]
structure oB(K:aM)(mg:a9)(x:Str)(C:Addr):Prop where
 at':mg x=some (.ref C)
 ok:W.excIn K C R7 "ValueError.__new__"=true
section
variable{X:aJ}{x:Str}{C:Addr}{dk:Expr}{rest:List Expr}{t:fj}{np cK pos:Pos}{E:eS}
def abU(V:oB X.K X.mg x C)(hc:X.calm=true)(a3:dD X x)(L:Lets X E)(ao:gd X (dk::rest) t)(he:ajY (dk::rest) X.env=(false,eval dk X.env)::ajY rest X.env:=by rfl)
  (gW:(ako cK (ajY rest X.env)).any (·.1)=false:=by rfl) (dA:(x==("__debug__":Str))=false:=by decide) :
  hH X (.Raise (some (.Call (.Name x np) (dk::rest) [] cK)) none pos) (λ_ Y H=>t Y H λvs H1=>vs.length<=aj6/\E (.ref C) none H1):=by
 intro zn s Y H D I h;obtain⟨iz,N,nm,q,bs,hdct,sn,sub,ab,col,dd,k0,k1,k2,k3,k5,mN,ec,hN,yg,T⟩:=(aa9 I.ok.mod.pf V.at' V.ok).obj;have B:=PySem.F.excBase_ValueError;refine wpAny_Raise_call_subU (C:=C) (nm:=nm) (q:=q) (N:=N) (bs:=bs) (bm:=iz) (hdct:=hdct) (sn:=sn) (sub:=sub) (ab:=ab) (col:=col) (dd:=dd) (k0:=k0) (k1:=k1) (k2:=k2) (k3:=k3) (k5:=k5)
  B (by decide +kernel) B (mN:=mN) (T.hasType B.hasBase) (I.ok.hd hc) (by rw[he];show(false||(ako cK (ajY rest X.env)).any (·.1))=false;rw[gW];rfl) yg (mM I a3 V.at' ⟨rfl,?_⟩ dA)
 have IS:=ao cK zn s Y H _ I h;rw[he]at IS ⊢;refine amM (akB IS (λus s1 ⟨vs,H1,aV,r,hz,o1⟩=>?_) λ_ _ y=>y);exact⟨rfl,by rw[<-r.length];exact hz,aV.d4 _ _ ec,hN.keeps aV.d4,T.keeps aV.d4,λh' e hm=>L.made zn Y H1 s1 h' e _ _ aV hm o1⟩
end
end aE
namespace aE
open PySem PySem.Spec ax PyProof.Rows
variable[ax.aX]
def q4(K:aM)(mg:a9)(mf:bq):dP:=λvs H _ E=>bL K mg mf vs H (λv H'=>∀c C,v=.str c->mg c=some (.ref C)->E (.ref C) none H') E
structure tW(X:aJ)(E:eS)(m3:List Stmt)(m:aI):Prop where
 un:gP X m3 λ_ Y H=>hS X.K X.mg m { bw:=λ_ H'=>∀c C,(.aN:V)=.str c->X.mg c=some (.ref C)->E (.ref C) none H',cP:=λv H'=>∀c C,v=.str c->X.mg c=some (.ref C)->E (.ref C) none H' } Y H
def OM:aI:=λ_=>bad
def tA(t:aQ->M Bool)(c:Str)(r:aI):aI:=λY=>do
 let t <-t Y
 if t=true then pure (.cP (.v (.str c)))else r Y
structure tN(P:aki)(w:World)(K:aM)(mg:a9)(base:Heap)(c m:Str)(ps:List Str)(k:Nat)(sp:dP):Prop where
 ex:∃C f fd,mg c=some (.ref C)/\hT K C/\Meth K C m f/\ez P w K mg base (l4 P w) k f fd ps sp/\Binds K fd ps []/\Binds K fd ps [.none]
section
variable{X:aJ}{E:eS}{m3 rest:List Stmt}{t:aQ->M Bool}{r:aI}{x:Str}{d:D}{dk c:Expr}{np cK pos cy:Pos}
def agG:tW X E m3 OM:=⟨λ_ _ _ _ _ _ z=>by obtain⟨_,_,_,_,_,_,h,_⟩:=z;cases h⟩
def agH(V:∃C,oB X.K X.mg x C)(hc:X.calm=true)(a3:dD X x)(L:Lets X E)(bC:e5 X c t)(ao:fQ X [dk] (J (af d) aj))(aD:tW X E rest r)(he:ajY [dk] X.env=(false,eval dk X.env)::ajY [] X.env:=by rfl)
  (gW:(ako cK (ajY [] X.env)).any (·.1)=false:=by rfl) (dA:(x==("__debug__":Str))=false:=by decide) :
  tW X E (.If c [.Raise (some (.Call (.Name x np) [dk] [] cK)) none cy] [] pos::rest) (tA t x r):=by
 obtain⟨C,V⟩:=V;refine⟨pK (vW (DY bC.un (D1 (abU V hc a3 L ao.un he gW dA)) D0) aD.un) λD aq H aO=>?_⟩;obtain⟨O,Y,S,aW,ar,st,h,q⟩:=aO;obtain⟨tt,S1,ae,h⟩:=M.inv h;refine⟨O,Y,S,tt,S1,st,ae,λaH H1 g1 aP=>?_⟩
 cases tt with
 |false=>
  rw[if_neg aj7]at h;exact mH ⟨aH,Y,S1,aW,ar,aP,h,q.bQ g1.bQ (d9.refl _ _)⟩
 |true=>
  rw[if_pos rfl]at h;cases h;refine mI ⟨aH,Y,_,[.v d],_,aP,rfl,λa_ vs aK g2 cf ba nn=>⟨?_,q a_ (.str x) aK ((g1.trans g2).bQ) cf.b_ cf.fJ rfl x C rfl V.at'⟩⟩;rw[ba.len];exact akZ (f5 (show 1<=1000 by omega))
theorem VZ{P:aki}{w:World}{K:aM}{mg:a9}{base:Heap}{c m qual:Str}{st:Stmt}{ps N:List Str}{k:Nat}{cE:aI}{n nl:Nat}(b1:tK K mg c m qual st ps)(Sc:bP N ps (bk st))(aF:ps.length=n)(hl:N.length=nl)
  (aa:∀(f:Addr)(bc:Value)(A:akm)(outer:List Env)(s:aj0)(H:ah)(E:eS),cg k (A.deeper (akW qual (bk st) s.heap.objs.size f bc))->Lets (fl (l4 P w) P w K mg base N qual (bk st) f bc A outer s H E) E->
   tW (fl (l4 P w) P w K mg base N qual (bk st) f bc A outer s H E) E (eU st) cE):tN P w K mg base c m ps (k+1) (q4 K mg (fnOf n nl cE)):=by
 obtain⟨C,f,fd,eD,cl,me,F,gh,b⟩:=b1.ex;subst aF hl;refine⟨C,f,fd,eD,cl,me,?_,gh,b⟩;obtain⟨cw,cT,oV,cv,doc,pm,an,bc,cb,eP,rfl,lk,ew⟩:=F.ex;exact xO lk ew Sc (λvs H Q E ⟨O,ds,r,S,cM,d3,eb,h,q⟩=>eb.len.trans (uv h)) λA outer s H vs Q E aD gA=>⟨_,(aa f bc A outer s H E aD ZG).un,AS gA⟩
end
abbrev aJ.held(X:aJ)(a:Addr)(cL:b'):aJ:={ X with A:=X.A.mark (some (.ref a)),calm:=false,cL:=cL }
section
variable{X:aJ}{zn:cC}{Y:ax.St}{H:ah}{s:aj0}{a:Addr}{cL:b'}
def u4(I:ax.Inv X zn Y H s):ax.Inv (aJ.held X a cL) zn Y H s:=
 ⟨⟨I.ok.mod,I.ok.kind,I.ok.glob,I.ok.blt,I.ok.above,I.ok.inj,I.ok.has,I.ok.rQ,λz=>Bool.noConfusion (show false=true from z),I.ok.frames,I.ok.wh,I.ok.uk,I.ok.bs,I.ok.kb,I.ok.sG,I.ok.r1,I.ok.jf,I.ok.nE⟩,I.os,I.bare,I.base,I.loc,I.cell,I.free,I.iN,I.pin,I.bA,I.len⟩
def u5(ok:X.Ok)(I:ax.Inv (aJ.held X a cL) zn Y H s):ax.Inv X zn Y H s:=⟨ok,I.os,I.bare,I.base,I.loc,I.cell,I.free,I.iN,I.pin,I.bA,I.len⟩
def aef{D:Ends}(ok:X.Ok)(h:kN (aJ.held X a cL) zn D f s'):kN X zn D f s':=by
 cases f with
 |next=>obtain⟨Y',H',I,q⟩:=h;exact⟨Y',H',u5 ok I,q⟩
 |brk=>obtain⟨Y',H',I,q⟩:=h;exact⟨Y',H',u5 ok I,q⟩
 |cont=>obtain⟨Y',H',I,q⟩:=h;exact⟨Y',H',u5 ok I,q⟩
 |ret u=>obtain⟨v,Y',H',I,r,q⟩:=h;exact⟨v,Y',H',u5 ok I,r,q⟩
end
def iE(x C:Addr)(h:Heap):Prop:=∃o,h.get? x=some o/\o.cls=.ref C
omit [ax.aX]in
theorem iE.type{M:Model}(I:iE x C h):W.Looks M h (typeOf (.ref x)) (.ref C):=by
 obtain⟨o,ae,ag⟩:=I;exact ag▸(W.Looks.ld ae).andThen .now
structure OX(X:aJ)(zn:cC)(Y:ax.St)(H':ah)(s1 s2:aj0)(cO:Heap)(a C T:Addr):Prop where
 i3:md cO a T (.ref C) .none
 inv:∀dV,jA (fY X.stack) [T] cO dV->ax.Inv X zn Y H' { s2 with heap:=dV }
 eN:∃H1,ax.Inv X zn Y H1 s1
 na:s1.heap.get? a=none
 i9:H' a=none
def jA.refl{fs xs:List Addr}:jA fs xs h h:=λ_ o e _=>⟨λ_=>e,o.slots,e⟩
structure oL(X:aJ)(C:Addr)(az:List anp)(t:fz):Prop where
 un:∀zn Y H' s1 s2 cO a T D cX,OX X zn Y H' s1 s2 cO a C T->t D Y H'->wpAny (model X.prog X.w) X.A (handleBy (.ref a) X.env az) (kN X zn D) cX { s2 with heap:=cO }
def rO(pB:bf)(ks:List (Str×aI)):aI:=λY=>do
 let r <-pB Y
 match r with
 |.v (.str c)=>match ks.lookup c with
  |some m=>m Y|none=>bad
 |_=>bad
section
variable{X:aJ}{C B:Addr}{jP:Str}{az:List anp}{t:fz}{gh:Stmt}{body:List Stmt}{np aL:Pos}
def Sy{zn:cC}{Y:ax.St}{H1:ah}{s1 s2:aj0}{D:Ends}{E:eS}{e:Value}{cX:b'}(aB:X.stack=X.env::X.outer/\X.env.frame=some X.env.locals)(I:ax.Inv X zn Y H1 s1)(c:l4 X.prog X.w X.stack H1 s1 E e s2)
  (o1:∀cls H',E cls none H'->∃C t,cls=.ref C/\oL X C az t/\t D Y H') :
  wpAny (model X.prog X.w) X.A (an1 e X.env) (λ_ s3=>wpAny (model X.prog X.w) X.A (setFlight e none) (λ_ s4=>wpAny (model X.prog X.w) X.A (handleBy e X.env az) (kN X zn D) cX s4) cX s3) cX s2:=by
 obtain⟨a,cls,H',rfl,⟨os,bare⟩,un,bA,⟨T,t3,⟨na,i9⟩,lE,da⟩,VM⟩:=c;obtain⟨C,t,rfl,hw,bC⟩:=o1 cls H' VM;have bJ:=I.xv (s':=s2) (ch:=[]) os un bA bare (λb z=>absurd z (by simp));have k':X.A.frames=some (X.env::X.outer):=by rw[<-aB.1];exact bJ.ok.frames
 have Xy:s2.heap.FunFrames X.base (X.env::X.outer):=by rw[<-aB.1];exact bJ.stack
 refine aaz (outer:=X.outer) k' Xy aB.2 t3 λbO hJ k1 uH t1=>?_
 refine xM (fs:=fY (X.env::X.outer)) t1 λcO k2 hn=>?_
 have tM:H' hJ=none:=bJ.bA.fresh uH;have vE:s1.heap.get? hJ=none:=by
  cases q:s1.heap.get? hJ with
  |none=>rfl| some o=>obtain⟨c7,bZ⟩:=un.there hJ o q (by simp);exact absurd (ake bZ) (Nat.not_lt.mpr uH)
 refine hw.un zn Y H' s1 s2 cO a hJ D cX ⟨hn,λdV k5=>?_,⟨_,I⟩,na,i9⟩ bC;refine JB I os bare un bA (xs:=([T,a]++[hJ])++[hJ]) (λb aa=>?_) (by rw[aB.1]at k5 ⊢;exact(k1.trans k2).trans k5);simp only[aoJ,aoY,aj5,aly,or_false]at aa;rcases aa with rfl|rfl|rfl|rfl
 .exact⟨lE,da⟩
 .exact⟨na,i9⟩
 .exact⟨vE,tM⟩
 .exact⟨vE,tM⟩
def agm(uQ:X.mg jP=some (.ref B))(uZ:am7 X.K (.ref C) (.ref B)=some false)(a3:dD X jP)(aD:oL X C az t)(dA:(jP==("__debug__":Str))=false:=by decide):oL X C (.ExceptHandler (some (.Name jP np)) nm body aL::az) t:=by
 refine⟨λzn Y H' s1 s2 cO a T D cX F q=>?_⟩;have oE:=F.inv cO .refl;refine anP (anz (mM (X:=aJ.held X a cX) (u4 oE) a3 uQ ?_ dA)) (by intro q;cases q);refine(W.exm_one (M:=model X.prog X.w) oE.dW (iE.type F.i3.there) uZ) _ _ _ _ (λ_ _ q=>q) ?_;exact aD.un zn Y H' s1 s2 cO a T D cX F q
def Ot(uQ:X.mg jP=some (.ref B))(uZ:am7 X.K (.ref C) (.ref B)=some true)(a3:dD X jP)(aa:∀a cL,gP (aJ.held X a cL) (gh::body) t)(dA:(jP==("__debug__":Str))=false:=by decide):oL X C (.ExceptHandler (some (.Name jP np)) none (gh::body) aL::az) t:=by
 refine⟨λzn Y H' s1 s2 cO a T D cX F q=>?_⟩;have oE:=F.inv cO .refl;refine anP (anz (mM (X:=aJ.held X a cX) (u4 oE) a3 uQ ?_ dA)) (by intro q;cases q);refine(W.exm_one (M:=model X.prog X.w) oE.dW (iE.type F.i3.there) uZ) _ _ _ _ (λ_ _ q=>q) ?_;refine codeAny_handlers_suite ?_;refine xM (fs:=fY X.stack) F.i3 λdV k5 NV=>?_
 have tP:=F.inv dV k5;exact akB (aa a _ zn _ Y H' D (u4 tP) q) (λf s' q=>aef tP.ok q) λ_ _ z=>z
end
section
variable{X:aJ}{c m:Str}{ps:List Str}{k:Nat}{mf:bq}{o e:Expr}{ay:List Expr}{mo:bf}{ms:cU}{apos pos jT fu:Pos}{ks:List (Str×aI)}{h0:anp}{az:List anp}
theorem Mg{f:Addr}{fd:ak4}{ds:List Value}{dvs:List V}{zn:cC}{Y:ax.St}{H:ah}{s:aj0}{R:cD}{Q:b'}{cX:b'}{us:List Value}{vs:List V}(F:ez X.prog X.w X.K X.mg X.base (l4 X.prog X.w) k f fd ps (q4 X.K X.mg mf))(aD:cg k X.A)(aa:Binds X.K fd ps ds)(hd:Vals dvs ds)
  (I:ax.Inv X zn Y H s) (r:Vals vs us) (h:bL X.K X.mg mf (vs++dvs) H R hU) (dQ:∀ev s',l4 X.prog X.w X.stack H s (λcls _ H'=>∃c C,X.mg c=some (.ref C)/\cls=.ref C/\R (.str c) H') ev s'->cX ev s'):wpAny (model X.prog X.w) X.A (call (.ref f) us) Q cX s:=by
 have b5:Vals (vs++dvs) (us++ds):=r.append hd;have h':q4 X.K X.mg mf (vs++dvs) H (λ_ _=>False) (λcls _ H'=>∃c C,X.mg c=some (.ref C)/\cls=.ref C/\R (.str c) H'):=by
  obtain⟨O,ds,r,S,cM,d3,eb,h,q⟩:=h;exact⟨O,ds,r,S,cM,d3,eb,h,λak v H' g d ba nn c C e eD=>⟨c,C,eD,rfl,e▸q ak v H' g d ba nn⟩⟩
 have hl:(us++ds).length=ps.length:=by rw[<-b5.length];exact F.len _ _ _ _ h'
 refine aop (amg (F.run X.A X.stack s H ⟨us,[]⟩ (us++ds) (vs++dvs) _ _ aD I.rZ (aa s us I.dW hl) b5 h') λr s' a6=>?_)
 cases r with
 |error e=>exact dQ e s' a6|ok aW=>
  cases aW with
  |ret u=>obtain⟨_,_,_,_,z⟩:=I.after a6;exact z.elim
  |next=>exact akv a6
  |brk=>exact akv a6|cont=>exact akv a6
theorem N_{zn:cC}{s:aj0}{aq:ax.St}{H:ah}{eI:Ends}{pB:bf}{ev:Expr}(aB:X.stack=X.env::X.outer/\X.env.frame=some X.env.locals)(I:ax.Inv X zn aq H s)(h:hS X.K X.mg (rO pB ks) eI aq H)
  (kj:∀c fq,ks.lookup c=some fq->∀C,X.mg c=some (.ref C)->oL X C (h0::az) (hS X.K X.mg fq))
  (X7:∀(R:cD)(Q:b')(cX:b'),e8 X.K X.mg pB aq H R->(∀s1 H1 ev s',ax.Inv X zn aq H1 s1->l4 X.prog X.w X.stack H1 s1 (λcls _ H'=>∃c C,X.mg c=some (.ref C)/\cls=.ref C/\R (.str c) H') ev s'->cX ev s')->wpAny (model X.prog X.w) X.A (eval ev X.env) Q cX s)
  (iT:ak6 ev none jT.line X.env=pure false):wpAny (model X.prog X.w) X.A (exec (.Try [.Expr ev jT] (h0::az) [] [] fu) X.env) (kN X zn eI) X.cL s:=by
 obtain⟨O,Y,S,aW,ar,st,Jm,q⟩:=h;obtain⟨r,S1,ae,ag⟩:=M.inv Jm;clear Jm;obtain rfl:=(pB Y).d6 _ _ _ ae;split at ag
 .rename_i c
  cases hc:ks.lookup c with
  |none=>rw[hc]at ag;cases ag
  |some fq=>
   rw[hc]at ag;refine wpAny_Try_except (aoz (wpAny_Expr_any (X7 (λv H'=>v=.str c/\∃ak,Go O ak H H'/\ct X.K X.mg ak Y S1 aq H') _ _ ⟨O,Y,S1,.v (.str c),S1,st,ae,λak v H' g bW ba nn=>⟨ba,ak,g,bW⟩⟩ λs1 H1 ev s' aV a6=>?_) I.quiet iT));refine Sy aB aV a6 λcls H' z=>?_
   obtain⟨c',C,lA,rfl,e,ak,g',bW⟩:=z;cases e;exact⟨C,_,rfl,kj c fq hc C lA,ak,Y,S1,aW,ar,bW,ag,q.bQ g'.bQ (d9.refl _ _)⟩
 .cases ag
def agw{pl:Sem Bool}(h:tN X.prog X.w X.K X.mg X.base c m ps k (q4 X.K X.mg mf))(aD:cg k X.A)(he:a5 X o mo)(ao:fQ X (e::ay) ms)(Cg:X.cL=λ_ _=>False)(aB:X.stack=X.env::X.outer/\X.env.frame=some X.env.locals)
  (kj:∀c fq,ks.lookup c=some fq->∀C,X.mg c=some (.ref C)->oL X C (h0::az) (hS X.K X.mg fq))
  (eB:ajY (e::ay) X.env=(false,eval e X.env)::ajY ay X.env:=by rfl) (dJ:(ako pos (ajY ay X.env)).any (·.1)=false:=by rfl)
  (bC:eval (.Call (.Attribute o m apos) (e::ay) [] pos) X.env=(do
   let cx <-eval o X.env
   amc apos.atName
   let(f,first) <-alS [cx] (alU cx m pl)
   ame pos f first (ako pos (ajY (e::ay) X.env)) (alE pos (ak8 [] X.env))):=by rfl)
  (iT:ak6 (.Call (.Attribute o m apos) (e::ay) [] pos) none jT.line X.env=pure false:=by rfl) :
  e4 X (.Try [.Expr (.Call (.Attribute o m apos) (e::ay) [] pos) jT] (h0::az) [] [] fu) (rO (fk c m mf mo ms) ks):=by
 refine⟨λzn s aq H eI I a6=>N_ aB I a6 kj (λR Q cX hz dQ=>?_) iT⟩;obtain⟨C,f,fd,eD,cl,me,F,b,_⟩:=h.ex;have no:∀a s,X.cL a s->cX a s:=λa s z=>by rw[Cg]at z;exact z.elim
 refine amU (pl:=pl) (akB (he.un zn s aq H _ I (yY _ _ _ hz)) (λu s1 ⟨x,H1,aV,aU,a,i7,bU,fs,ex,jm,fm,l,q⟩=>?_) no) bC;rw[eD]at jm;cases jm;subst ex;obtain rfl:u=akl a:=aU;refine uy aV fm cl me l ?_;refine anD (first:=[.ref a]) (h₀:=X.base) I.ok.mod.pf me.kp (akB (ao.un pos zn s1 aq H1 _ aV q) (λus s2 ⟨vs,aK,bS,r,b2⟩=>⟨bS.dW,?_⟩) no) eB dJ;exact Mg (us:=.ref a::us) (vs:=.ref a::vs) (R:=R) F aD b .nil bS (.cons rfl r) (by rw[ak3];exact b2) λev s' z=>dQ s2 aK ev s' bS z
def agx{pl:Sem Bool}(h:tN X.prog X.w X.K X.mg X.base c m ps k (q4 X.K X.mg mf))(aD:cg k X.A)(he:a5 X o mo)(Cg:X.cL=λ_ _=>False)(aB:X.stack=X.env::X.outer/\X.env.frame=some X.env.locals)
  (kj:∀c fq,ks.lookup c=some fq->∀C,X.mg c=some (.ref C)->oL X C (h0::az) (hS X.K X.mg fq))
  (bC:eval (.Call (.Attribute o m apos) [] [] pos) X.env=(do
   let cx <-eval o X.env
   amc apos.atName
   let(f,first) <-alS [cx] (alU cx m pl)
   ame pos f first (ako pos (ajY [] X.env)) (alE pos (ak8 [] X.env))):=by rfl)
  (iT:ak6 (.Call (.Attribute o m apos) [] [] pos) none jT.line X.env=pure false:=by rfl) :
  e4 X (.Try [.Expr (.Call (.Attribute o m apos) [] [] pos) jT] (h0::az) [] [] fu) (rO (fk c m mf mo (J (af .aN) aj)) ks):=by
 refine⟨λzn s aq H eI I a6=>N_ aB I a6 kj (λR Q cX hz dQ=>?_) iT⟩;obtain⟨C,f,fd,eD,cl,me,F,_,b⟩:=h.ex;have no:∀a s,X.cL a s->cX a s:=λa s z=>by rw[Cg]at z;exact z.elim
 refine amU (pl:=pl) (akB (he.un zn s aq H _ I (yY _ _ _ hz)) (λu s1 ⟨x,H1,aV,aU,a,i7,bU,fs,ex,jm,fm,l,q⟩=>?_) no) bC;rw[eD]at jm;cases jm;subst ex;obtain rfl:u=akl a:=aU;obtain⟨O,Y,S,rs,S1,st,ae,q⟩:=q;cases ae;refine uy aV fm cl me l ?_;exact W.callWith_K0 (first:=[.ref a]) aV.dW me.kp (Mg (us:=[.ref a]) (vs:=[.ref a]) (dvs:=[.aN]) (R:=R) F aD b (.cons rfl .nil) aV (.cons rfl .nil) (q O [.aN] H1 (Go.refl _ _) st ⟨.aN,[],rfl,rfl,rfl⟩ ⟨trivial,trivial⟩) λev s' z=>dQ s1 H1 ev s' aV z)
end
end aE
namespace aE
open PySem PySem.Spec ax PyProof.Rows
structure iF(K:aM)(D:Addr):Prop where
 ga:alL K (.ref D) "__getattribute__"=some (some (.builtin "BaseException.__getattribute__"))
 uA:alL K (.ref D) "__getattr__"=some none
 cE:W.mroIn K D (.type "BaseException")=some true
 c:(W.clsIn K D).isSome=true
 a:alL K (.ref D) "__class__"=some (some (.builtin "object.__class__"))
 n:W.specialIn K (.builtin "object.__class__") "__get__"=some (some (.builtin "getset_descriptor.__get__"))
 t:W.takesIn K (.builtin "object.__class__")=some true
 m:W.mroIn K D (.type "object")=some true
section
open PySem.W PySem.Calls Builtin Builtin.ObjectAttr Builtin.Getset_descriptor
variable{prog:aki}{w:World}{A:akm}{E:b'}{s:aj0}{K:Frag}{x C D:Addr}{name:Str}{M:Model}{h:Heap}
def ZL(X:K.In h)(ao:findIn K (.ref D) name=some (some a))(a3:specialIn K a "__get__"=some (some g))(hd:takesIn K a=some true):Looks M h (find (.ref x) (.ref D) name) (.bind g a):=by
 have nf:=looks_findIn (M:=M) X ao;have ax:Looks M h (getOf (some a)) (some g):=looks_specialIn X a3;have aE:=looks_takesIn (M:=M) X hd;exact nf.andThen (ax.andThen ((show Looks M h (dataDescriptor? (some a) (some g)) (some (g,a))from aE.andThen .now).andThen (Looks.tag .now)))
theorem SN{R:Result->aj0->Prop}{fu:Value}(X:K.In s.heap)(I:iE x C s.heap)(hm:mroIn K C (.type "object")=some true)
  (h:R (.ok (.ret (.ref C))) s):amd (model prog w) A (.call (.builtin "getset_descriptor.__get__") ⟨[.builtin "object.__class__",.ref x,fu],[]⟩) R s:=by
 obtain⟨c6,g,nA,t,os⟩:=s;have wY:=I.type (M:=model prog w);have nf:=looks_mroIn (M:=model prog w) X hm;refine codeAny_call_builtin KF.slot_gs.plain KF.entry_gs (KF.slot_gs.check _ _ _ _ _ _ _ _ KF.type_class (KF.args_gs _ _ _) ?_);unfold anb.«getset_descriptor.__get__» descrGet;rw[dga_obj];refine ajX (aj4 ?_);unfold descrGetter descrCheckInstance descrNameAndClass isInstance;simp only[KF.owner_class]
 repeat lk
 refine⟨Code.quiet_builtin _ (by decide +kernel),anJ KF.entry_class ?_⟩;unfold anb.«object.__class__» shownTypeOf
 repeat lk
 exact h
theorem SM{tk:Tok}{Q:Fin->aj0->Prop}(Z:iF K D)(X:K.In s.heap)(I:iE x D s.heap)(a6:Q (.done (.ret (.ref D))) s) :
  wpAny (model prog w) A (anb.«object.__getattribute__» ⟨[.ref x,.str "__class__" tk],[]⟩) Q E s:=by
 have Xf:∀{R:Result->aj0->Prop}{A:akm},R (.ok (.ret (.ref D))) s->amd (model prog w) A (.call (.builtin "getset_descriptor.__get__") ⟨[.builtin "object.__class__",.ref x,.ref D],[]⟩) R s:=λ{R A} z=>SN X I Z.m z
 obtain⟨c6,g,d,t,os⟩:=s;have wY:=I.type (M:=model prog w);have nf:=ZL (M:=model prog w) (x:=x) X Z.a Z.n Z.t;have b3:∀{α β:Type}{m:Sem α}{f:α->Sem β}{Q:β->aj0->Prop}{E:b'}{s:aj0}{A:akm}{M:Model} ,wpAny M A m (λa s=>wpAny M A (f a) Q E s) E s->wpAny M A (m >>= f) Q E s:=λh=>ajX h
 unfold anb.«object.__getattribute__»;refine ajX ?_
 repeat (any_goals (first|assumption|with_reducible refine wY.at ?_|with_reducible refine nf.at ?_|wp_step))
 refine Xf ?_
 repeat (any_goals (first|assumption|wp_step))
def SH{M:Model}{Q:Unit->aj0->Prop}(Z:iF K D)(X:K.In s.heap)(I:iE x D s.heap)(a6:Q () s):wpAny M A (checkBuiltinCall "BaseException.__getattribute__" ⟨[.ref x,aag],[]⟩) Q E s:=by
 obtain⟨c6,g,d,t,os⟩:=s;have aB:builtinKind "BaseException.__getattribute__"=some .slot:=by decide +kernel
 have X5:splitId "BaseException.__getattribute__"=some ("BaseException","__getattribute__"):=by decide +kernel
 have ao:=F.args_bexc_ga (.ref x) aag;have O9:Looks M c6 (isInstance (.ref x) (.type "BaseException")) true:=(I.type).andThen (looks_mroIn X Z.cE);simp only[checkBuiltinCall,aB,X5];refine ajX (O9.at ?_)
 repeat (first|assumption|wp_step)
 try exact a6
theorem SK{Q:b'}(Z:iF K D)(X:K.In s.heap)(I:iE x D s.heap)(a6:Q (.ref D) s):wpAny (model prog w) A (getAttrBy (.ref x) (.str "__class__" tk) false) Q E s:=by
 have nK:∀{R:Result->aj0->Prop}{A:akm},R (.ok (.ret (.ref D))) s->amd (model prog w) A (.call (.builtin "BaseException.__getattribute__") ⟨[.ref x,.str "__class__" tk],[]⟩) R s:=λ{R A} z=>
  codeAny_call_builtin aoQ.ga.plain F.entry_bexc_ga (SH Z X I (SM Z X I z))
 obtain⟨c6,g,d,t,os⟩:=s;have wY:=I.type (M:=model prog w);have nf:=looks_findIn (M:=model prog w) X Z.ga;have ax:=looks_findIn (M:=model prog w) X Z.uA;have fX:=aoQ.ga.bind (.ref x);have Ya:(aoh "BaseException.__getattribute__" == aoh "object.__getattribute__")=false:=by decide +kernel
 have ajm:(onTheHeap (akl D)&&aoh "BaseException.__getattribute__" == aoh "object.__getattribute__")=false:=by rw[Ya];rfl
 repeat (any_goals (first|assumption|with_reducible refine wY.at ?_|with_reducible refine nf.at ?_|with_reducible refine ax.at ?_|wp_step))
 refine nK ?_
 repeat (any_goals (first|assumption|wp_step))
def Zg{Q:Option Value->aj0->Prop}(Z:iF K D)(X:K.In s.heap)(I:iE x D s.heap)(h:Q (some (.ref D)) { s with toks:=s.toks+1 }):wpAny (model prog w) A (getAttr? (.ref x) "__class__") Q E s:=by
 obtain⟨c6,g,d,t,os⟩:=s;unfold getAttr? getAttrBy?;refine ajX (wpAny_mkText ?_);refine ajX (aoe (SK Z (s:=⟨c6,g,d,t+1,os⟩) X I ?_));exact aj4 h
theorem J1(Z:iF K D):KitX K (.ref x) (.ref D) (iE x D) where
 ty:=λ_ _ _ I=>I.type
 it:=λ_ _ X _=>by
  have nJ:=Z.c;unfold clsIn at nJ;split at nJ
  .rename_i c' d' rR n' aT
   intro eW fM ahW s' k q;unfold isType loadHead;exact ajX (wpAny_loadPart (k _ _ (X _ _ aT)) (aj4 q))
  .cases nJ
 ne:=λh fu dd its n cq X X8=>by
  have nJ:=Z.c;refine Bool.eq_false_iff.mpr λq=>?_
  have e:D=fu:=Value.ref.inj (beq_iff_eq.mp q);subst e;unfold clsIn at nJ;split at nJ
  .rename_i c' d' rR n' aT
   have z:=(X _ _ aT).symm.trans X8;cases z
  .cases nJ
 ca:=λX I k=>Zg Z X I k
end
end aE
namespace aE
open PySem PySem.Spec ax PyProof.Rows
variable[ax.aX]
def l7(c4:Nat)(a C:Addr)(Y:ax.St)(H:ah):Prop:=Y[c4]? = some (some (.ref a))/\H a=some (.ext (iE a C))
def l7.same{H H':ah}(h:l7 c4 a C Y H)(s:dy H H'):l7 c4 a C Y H':=⟨h.1,s.at' _ _ h.2⟩
def l7.set{Y:ax.St}{H:ah}{v:Option V}(h:l7 c4 a C Y H)(hy:eV≠c4):l7 c4 a C (Y.set eV v) H:=⟨by rw[akk hy];exact h.1,h.2⟩
inductive bD(mg:a9):Str->V->Value->Prop where
 |own {x:Str}{B:Addr}(h:mg x=some (.ref B)):bD mg x (.ref B) (.ref B)
 |blt {x:Str}{n:String}(h:mg x=none) (aa:akJ x=some (.type n)):bD mg x (.ty n) (.type n)
omit [ax.aX]in
theorem bD.det{v:V}(h:bD mg x v u)(r:RelV v u'):u'=u:=by
 cases h with
 |own h=>exact r|blt h aa=>exact r
def aeD(c4:Nat)(a C:Addr)(b:Bool):TE:=λY H Q=>l7 c4 a C Y H/\∀H',dy H H'->Q (.au b) H'
def aeC(c4:Nat)(a C:Addr)(bs:List Bool):fj:=λY H Q=>l7 c4 a C Y H/\∀H',dy H H'->Q (bs.map V.au) H'
structure w8(X:aJ)(ay:List Expr)(vs:List V)(us:List Value):Prop where
 sS:gd X ay (λ_ H Q=>Q vs H)
 det:∀its,Vals vs its->its=us
 len:vs.length<=us.length
structure Al(X:aJ)(c4:Nat)(a C:Addr)(e:Expr)(b:Bool):Prop where
 un:bM X e (aeD c4 a C b)
structure tV(X:aJ)(c4:Nat)(a C:Addr)(ay:List Expr)(bs:List Bool):Prop where
 un:gd X ay (aeC c4 a C bs)
section
variable{X:aJ}{c4 eV:Nat}{a C:Addr}{x n h6:Str}{v:V}{u:Value}{b:Bool}{bs jF rL:List Bool}{p p1 cy sR jT pos:Pos}{e:Expr}{ay:List Expr}{vs:List V}{us:List Value}{rest:List Stmt}
omit [ax.aX]in
theorem Lz(a3:dD X x)(h:bD X.mg x v u)(aF:x≠"__name__":=by decide)(hd:(x==("__debug__":Str))=false:=by decide):bM X (.Name x p) (m5 v):=by
 cases h with
 |own h=>exact Lw a3 h rfl hd|blt h aa=>exact sU a3 h aa rfl aF hd
omit [ax.aX]in
theorem E0:w8 X [] [] []:=⟨qU,λits r=>by cases r;rfl,aj8 _⟩
omit [ax.aX]in
theorem f9(a3:dD X x)(h:bD X.mg x v u)(aD:w8 X ay vs us)(az:ajY (.Name x p::ay) X.env=(false,eval (.Name x p) X.env)::ajY ay X.env:=by rfl)(aF:x≠"__name__":=by decide)(hd:(x==("__debug__":Str))=false:=by decide) :
  w8 X (.Name x p::ay) (v::vs) (u::us):=
 ⟨lH (Lz a3 h aF hd) aD.sS az,λits r=>by cases r with|cons bF b5=>rw[h.det bF,aD.det _ b5],aoF aD.len⟩
def ab5(a C:Addr)(v:V)(b:Bool):List V->ah->cD->Prop:=λxs H Q=>xs=[.ref a,v]/\H a=some (.ext (iE a C))/\Q (.au b) H
omit [ax.aX]in
theorem So(Z:iF X.K C)(h:bD X.mg x v u)(ao:alG X.K (.ref C) u=some b):iD X (.builtin "isinstance") (ab5 a C v b):=by
 intro zn s Y H xs us Q I bG h';obtain⟨rfl,dw,q⟩:=h';obtain⟨ey,ee,rfl,bF,b5⟩:=ax.vals2 bG;cases(show ey=akl a from bF);cases h.det b5;exact anr (J1 Z) I.dW (I.bA a _ dw).1 ao (λz=>nomatch z) λtk=>⟨.au b,H,I.tok tk,rfl,q⟩
def kC(Z:iF X.K C)(h:bD X.mg x v u)(ao:alG X.K (.ref C) u=some b)(hm:X.mg "isinstance"=none)(B4:dD X "isinstance")(aA:X.N[c4]? = some n)(bu:j9 X.env.scope n)(a3:dD X x)
  (ae:ajY [.Name n p1,.Name x cy] X.env=(false,eval (.Name n p1) X.env)::ajY [.Name x cy] X.env:=by rfl) (ag:ajY [.Name x cy] X.env=(false,eval (.Name x cy) X.env)::ajY [] X.env:=by rfl)
  (hd:(n==("__debug__":Str))=false:=by decide) (ew:(n==("__classdict__":Str))=false:=by decide) (Yc:x≠"__name__":=by decide) (Yb:(x==("__debug__":Str))=false:=by decide)
  (dJ:(ako pos (ajY [.Name x cy] X.env)).any (·.1)=false:=by rfl):Al X c4 a C (.Call (.Name "isinstance" p) [.Name n p1,.Name x cy] [] pos) b:=
 ⟨dK (DP (So (a:=a) Z h ao) B4 hm xm (lH (pI aA bu hd ew) (lH (Lz a3 h Yc Yb) qU ag) ae) (by decide) (by decide) ae dJ) λY H Q ⟨hd,q⟩=>⟨_,hd.1,rfl,hd.2,q H (dy.refl H)⟩⟩
def ab6(K:aM)(a C:Addr)(vs:List V)(b:Bool):List V->ah->cD->Prop:=λxs H Q=>∃p,xs=[.ref a,.ref p]/\dj K H p vs/\H a=some (.ext (iE a C))/\Q (.au b) H
omit [ax.aX]in
theorem Sp(Z:iF X.K C)(h:∀its,Vals vs its->its=us)(ao:am6 X.K (.ref C) us=some b):iD X (.builtin "isinstance") (ab6 X.K a C vs b):=by
 intro zn s Y H xs ws Q I bG h';obtain⟨p,rfl,dv,dw,q⟩:=h';obtain⟨ey,ee,rfl,bF,b5⟩:=ax.vals2 bG;cases(show ey=akl a from bF);cases(show ee=akl p from b5);obtain⟨its,v8,⟨o,aT,hc,n,hd⟩,_⟩:=I.tuple dv;cases h its v8;obtain⟨cw,cT,aaE,eP⟩:=o;cases hc;cases hd;exact anx (J1 Z) I.dW (I.bA a _ dw).1 aT ao (λz=>nomatch z) λtk=>⟨.au b,H,I.tok tk,rfl,q⟩
def EW(Z:iF X.K C)(h:w8 X ay vs us)(ao:am6 X.K (.ref C) us=some b)(hlen:us.length<=1000)(hm:X.mg "isinstance"=none)(B4:dD X "isinstance")(aA:X.N[c4]? = some n)(bu:j9 X.env.scope n){k:Nat}
  (ae:ajY [.Name n p1,.Tuple ay k cy] X.env=(false,eval (.Name n p1) X.env)::ajY [.Tuple ay k cy] X.env:=by rfl) (ag:ajY [.Tuple ay k cy] X.env=(false,eval (.Tuple ay k cy) X.env)::ajY [] X.env:=by rfl)
  (hd:(n==("__debug__":Str))=false:=by decide) (ew:(n==("__classdict__":Str))=false:=by decide)
  (dJ:(ako pos (ajY [.Tuple ay k cy] X.env)).any (·.1)=false:=by rfl):Al X c4 a C (.Call (.Name "isinstance" p) [.Name n p1,.Tuple ay k cy] [] pos) b:=
 ⟨dK (DP (Sp (a:=a) Z h.det ao) B4 hm xm (lH (pI aA bu hd ew) (lH (zk h.sS) qU ag) ae) (by decide) (by decide) ae dJ) λY H Q ⟨hd,q⟩=>⟨_,hd.1,akZ (f5 (akS h.len hlen)),λp aL=>
  ⟨p,rfl,dj.of dn,(i2 aL _).at' _ _ hd.2,q _ (i2 aL _)⟩⟩⟩
def tp:tV X c4 a C [] []:=⟨qT qU λY H Q ⟨_,q⟩=>q H (dy.refl H)⟩
def i5(h:Al X c4 a C e b)(aD:tV X c4 a C ay bs)(az:ajY (e::ay) X.env=(false,eval e X.env)::ajY ay X.env:=by rfl):tV X c4 a C (e::ay) (b::bs):=
 ⟨qT (lH h.un aD.un az) λY H Q ⟨hd,q⟩=>⟨hd,λH1 s1=>⟨hd.same s1,λaK s2=>q aK (s1.trans s2)⟩⟩⟩
def aeF(c4 eV:Nat)(a C:Addr)(bs:List Bool):fz:=λeI Y H=>(l7 c4 a C Y H/\eV<Y.length)/\∀p H',dy H H'->H p=none->H' p=some (.lst (bs.map V.au))->eI.bw (Y.set eV (some (.ref p))) H'
def aeE(c4 eV:Nat)(a C:Addr)(jF bs:List Bool):fz:=λeI Y H=>l7 c4 a C Y H/\∃p,Y[eV]? = some (some (.ref p))/\H p=some (.lst (jF.map V.au))/\∀jS H',dy H H'->(jS=p\/H jS=none)->H' jS=some (.lst (bs.map V.au))->eI.bw (Y.set eV (some (.ref jS))) H'
structure FD(X:aJ)(c4 eV:Nat)(a C:Addr)(body:List Stmt)(bs:List Bool):Prop where
 un:gP X body (aeF c4 eV a C bs)
structure w7(X:aJ)(c4 eV:Nat)(a C:Addr)(body:List Stmt)(jF bs:List Bool):Prop where
 un:gP X body (aeE c4 eV a C jF bs)
theorem EZ:w7 X c4 eV a C [] bs bs:=⟨pK D0 λD Y H aO=>by
 obtain⟨hd,p,aL,hl,q⟩:=aO;have:=q p H (dy.refl H) (.inl rfl) hl;obtain⟨ae,ag⟩:=aj1.mp aL;have e:Y.set eV (some (.ref p))=Y:=by rw[<-ag];exact List.set_getElem_self ae
 rw[e]at this;exact this⟩
theorem EY(hy:eV≠c4)(hN:X.N.Nodup)(aA:X.N[eV]? = some h6)(ai:Loc X.env.scope h6)(bu:j9 X.env.scope h6)(h:tV X c4 a C ay rL)(aD:w7 X c4 eV a C rest (jF++rL) bs)(ir:jF.length+rL.length<=1000)
  (az:ak6 (.BinOp (.Name h6 p1) .Add (.List ay cy) sR) (some (.Name h6 jT)) pos.line X.env=pure false:=by rfl) (hf:X.fn h6=true\/X.env.scope.names.lookup h6=some .local:=by first|exact .inl rfl|exact .inr rfl|assumption)
  (hd:(h6==("__debug__":Str))=false:=by decide) (ew:(h6==("__classdict__":Str))=false:=by decide) :
  w7 X c4 eV a C (.Assign [.Name h6 jT] (.BinOp (.Name h6 p1) .Add (.List ay cy) sR) pos::rest) jF bs:=
 ⟨pK (vW (vV hN aA ai (DS DL (pI aA bu hd ew) (DR h.un)) az hf) aD.un) λD Y H aO=>by
  obtain⟨hd,p,aL,hl,q⟩:=aO;refine⟨_,aL,hd,λH1 s1=>⟨by rw[aj2];exact akZ (f5 (by omega)),λp1 sf=>⟨p,p1,jF.map V.au,rL.map V.au,rfl,rfl,(s1.trans (i2 sf _)).at' _ _ hl,dn,by rw[aj2,aj2];exact akZ (f5 ir),λcy yi=>?_⟩⟩⟩;have a7:dy H (upd (upd H1 p1 (.lst (rL.map V.au))) cy (.lst (jF.map V.au++rL.map V.au))):=(s1.trans (i2 sf _)).trans (i2 yi _);have fC:eV<Y.length:=(aj1.mp aL).1;refine⟨(hd.same a7).set hy,cy,aks fC,by rw[dn,aln],λjS H' s' nO BR=>?_⟩;rw[aoK];refine q jS H' (a7.trans s') (.inr ?_) BR;rcases nO with rfl|nO
  .exact(s1.trans (i2 sf _)).free yi
  .exact a7.free nO⟩
theorem EX(hy:eV≠c4)(hN:X.N.Nodup)(aA:X.N[eV]? = some h6)(ai:Loc X.env.scope h6)(h:tV X c4 a C ay jF)(aD:w7 X c4 eV a C rest jF bs)(ir:jF.length<=1000)
  (az:ak6 (.List ay cy) (some (.Name h6 jT)) pos.line X.env=pure false:=by rfl) (hf:X.fn h6=true\/X.env.scope.names.lookup h6=some .local:=by first|exact .inl rfl|exact .inr rfl|assumption) :
  FD X c4 eV a C (.Assign [.Name h6 jT] (.List ay cy) pos::rest) bs:=
 ⟨pK (vW (vV hN aA ai (DR h.un) az hf) aD.un) λD Y H aO=>by
  obtain⟨⟨hd,fC⟩,q⟩:=aO;refine⟨hd,λH1 s1=>⟨by rw[aj2];exact akZ (f5 ir),λp1 sf=>?_⟩⟩;have a7:dy H (upd H1 p1 (.lst (jF.map V.au))):=s1.trans (i2 sf _);refine⟨(hd.same a7).set hy,p1,aks fC,dn,λjS H' s' nO BR=>?_⟩;rw[aoK];refine q jS H' (a7.trans s') ?_ BR;rcases nO with rfl|nO
  .exact s1.free sf
  .exact a7.free nO⟩
end
section
variable{X:aJ}{zn:cC}{Y:ax.St}{H H1 H':ah}{s s1 s4:aj0}{a C:Addr}{c4:Nat}{n:Str}
omit [ax.aX]in
theorem Yz{o:Obj}(aV:ax.Inv X zn Y H1 s1)(bJ:ax.Inv X zn Y H' s4)(na:s1.heap.get? a=none)(i9:H' a=none)(aT:s4.heap.get? a=some o)(hc:o.cls=.ref C):ax.Inv X zn Y (upd H' a (.ext (iE a C))) s4:=by
 have nb:∀b c7,s1.heap.get? b=some c7->b≠a:=λb c7 e z=>by rw[z,na]at e;cases e
 obtain⟨m,aF,hl⟩:=bJ.loc;obtain⟨yK,⟨Dt,_,_,mD,_⟩,_⟩:=aV.loc;refine⟨bJ.ok,bJ.os,bJ.bare,⟨bJ.base.keep,bJ.base.slot,λb c7 e q ai=>?_,bJ.base.there,λb xs q=>?_,λb c7 u q=>?_,λb ps q=>?_⟩,⟨m,aF,hl⟩,bJ.cell,?_,λx c e=>?_,λp aL=>?_,λb u e=>?_,bJ.len⟩
 .obtain⟨qK,aG⟩:=aV.base.there b c7 e ai
  rw[cG (nb b qK aG)];exact bJ.base.free b c7 e q ai
 .have z:=bJ.base.lQ b xs q
  rw[cG (λe=>by rw[e,i9]at z;cases z)];exact z
 .have z:=bJ.base.ke b c7 u q
  rw[cG (λe=>by rw[e,i9]at z;cases z)];exact z
 .obtain⟨more,z⟩:=bJ.base.kz b ps q
  exact⟨more,by rw[cG (λe=>by rw[e,i9]at z;cases z)];exact z⟩
 .rw[cG (nb _ _ mD)];exact bJ.free
 .obtain⟨w,z⟩:=aV.cell x c e
  obtain⟨cw,se,_⟩:=z;rw[cG (nb _ _ se)];exact bJ.iN x c e
 .obtain⟨aw,_⟩:=aV.pin p aL
  obtain⟨bp,b2,gG⟩:=bJ.pin p aL;exact⟨bp,by rw[cG (nb _ _ aw)];exact b2,gG⟩
 .by_cases aa:b=a
  .subst aa
   rw[dn]at e;cases e;exact⟨⟨o,aT,hc⟩,⟨o,aT⟩,λae ag ⟨pD,aw,bE⟩ k=>⟨pD,k pD aw,bE⟩⟩
  .rw[cG aa]at e
   exact(bJ.bA b u e).m2 (λc v _ q=>q) (λc q=>by rw[cG (λz=>by rw[z,i9]at q;cases q)];exact q) λc xs q=>by rw[cG (λz=>by rw[z,i9]at q;cases q)];exact q
omit [ax.aX]in
theorem Yy{h':Heap}{m:a9}{u:Option Value}(I:ax.Inv X zn Y H s)(hN:X.N.Nodup)(aA:X.N[c4]? = some n)(aF:s.heap.Ns X.env.locals m)
  (hl:∀(i:Nat)(x:Str)(v:V),X.N[i]? = some x->Y[i]? = some (some v)->j9 X.env.scope x->∃u,RelV v u/\Look X.env s.heap m x u)
  (uS:h'.Ns X.env.locals (λx=>if x=n then u else m x)) (az:amZ X.env.locals s.heap h'):ax.Inv X zn (Y.set c4 none) H { s with heap:=h' }:=by
 have o7:c4<Y.length:=by rw[I.len];exact(aj1.mp aA).1
 have kQ:=I.kQ;obtain⟨Dt,_,_,mD,_⟩:=id aF;refine⟨I.ok,I.os,I.bare,⟨λb o e n aa ai=>?_,λb o e n aa ai=>?_,I.base.free,λb o e ai=>?_,I.base.lQ,I.base.ke,I.base.kz⟩,⟨_,uS,λj y fg aw aG c3=>?_⟩,λy c e=>?_,I.free,I.iN,λp aL=>?_,λb bh e=>?_,by simpa using I.len⟩
 .exact(az.2 b (aku (akr (ake e) I.ok.above))).trans (I.base.keep b o e n aa ai)
 .obtain⟨cq,aw⟩:=I.base.slot b o e n aa ai
  exact⟨cq,(az.2 b (aku (akr (ake e) I.ok.above))).trans aw⟩
 .obtain⟨c7,aw⟩:=I.base.there b o e ai
  exact⟨c7,(az.2 b (aku (akr (ake e) I.ok.above))).trans aw⟩
 .by_cases aR:j=c4
  .subst aR
   rw[aks o7]at aG;cases aG
  .rw[akk (alR aR)]at aG
   obtain⟨u',bH,q⟩:=hl j y fg aw aG c3;refine⟨u',bH,?_⟩;rcases q with⟨k,e⟩|⟨k,c,e,z⟩
   .refine .inl ⟨k,?_⟩
    have:y≠n:=λe=>aR (Dm hN aw (e▸aA))
    simp[this,e]
   .exact .inr ⟨k,c,e,z.sameBut az (kQ y c e)⟩
 .obtain⟨eg,z⟩:=I.cell y c e
  exact⟨eg,z.sameBut az (kQ y c e)⟩
 .obtain⟨e,n,ne,mU,d⟩:=I.pin p aL
  exact⟨(az.2 p.1 ne).trans e,n,ne,mU,d⟩
 .refine(I.bA b bh e).m2 (λc eg hc q=>(az.2 c ?_).trans q) (λ_ q=>q) λ_ _ q=>q
  rintro rfl;rcases hc with rfl|hc
  .rw[I.free]at e;cases e
  .rw[I.free]at hc;cases hc
omit [ax.aX]in
theorem UN{M:Model}{A:akm}{E:b'}{pos:Pos}{Q:Unit->aj0->Prop}(I:ax.Inv X zn Y H s)(hN:X.N.Nodup)(aA:X.N[c4]? = some n)(aB:X.env.scope.names.lookup n=some .local)
  (h:∀s',ax.Inv X zn (Y.set c4 none) H s'->Q () s'):wpAny M A (do bindName X.env n .none;unbindBehindTheSuite X.env n pos) Q E s:=by
 have o7:c4<Y.length:=by rw[I.len];exact(aj1.mp aA).1
 refine ajX (wpAny_bindName (zy (v:=.aN) I hN aA (.inl aB) rfl (λs' gb=>?_) (.inr aB)));unfold unbindBehindTheSuite;refine ano ?_;obtain⟨m,aF,hl⟩:=gb.loc;obtain⟨u,r,q⟩:=hl c4 n .aN aA (aks o7) (.inl aB);have yd:X.env.kindOf n=some .local:=aB;have bu:m n=some u:=by
  rcases q with⟨_,q⟩|⟨q,_⟩
  .exact q
  .rw[yd]at q;rcases q with q|q<;>cases q
 refine wpAny_unbindName_local yd aF bu (by rw[gb.ok.kind];rfl) λh' u' uS nP=>h _ ?_
 have:=Yy gb hN aA aF hl uS nP
 rwa[aoK]at this
end
def kc(c4 eV:Nat)(bs:List Bool):aI:=λY=>pure (.bw ((Y.set eV (.v (.lst (bs.map D.au)))).set c4 .e))
omit [ax.aX]in
theorem Ma{K:aM}{mg:a9}{O:a0}{H:ah}:∀bs:List Bool,a8 K mg O H (bs.map D.au) (bs.map V.au)
 |[]=>rfl|b::bs=>⟨_,_,rfl,rfl,Ma bs⟩
def ct.unset{K:aM}{mg:a9}{O:a0}{Y:aQ}{S:cJ}{aq:ax.St}{H:ah}{i:Nat}(st:ct K mg O Y S aq H):ct K mg O (Y.set i .e) S (aq.set i none) H:=by
 refine⟨st.b_,by rw[akL,akL];exact st.len,λj t e=>?_,st.fJ⟩
 by_cases aR:i=j
 .subst aR
  have hl:i<Y.length:=by
   have:=(aj1.mp e).1
   rwa[akL]at this
  rw[aks hl]at e;cases e;exact trivial
 .rw[akk aR]at e ⊢
  exact st.loc j t e
def ET{X:aJ}{C B:Addr}{jP n:Str}{c4 eV:Nat}{az:List anp}{gh:Stmt}{body:List Stmt}{bs:List Bool}{np aL:Pos}(uQ:X.mg jP=some (.ref B))(uZ:am7 X.K (.ref C) (.ref B)=some true)(a3:dD X jP)
  (hN:X.N.Nodup) (aA:X.N[c4]? = some n) (hl:X.env.scope.names.lookup n=some .local) (hy:eV≠c4) (XF:eV<X.N.length) (aa:∀a cL,FD (aJ.held X a cL) c4 eV a C (gh::body) bs) (dA:(jP==("__debug__":Str))=false:=by decide) :
  oL X C (.ExceptHandler (some (.Name jP np)) (some n) (gh::body) aL::az) (hS X.K X.mg (kc c4 eV bs)):=by
 refine⟨λzn Y H' s1 s2 cO a T eI cX F q=>?_⟩;have oE:=F.inv cO .refl;refine anP (anz (mM (X:=aJ.held X a cX) (u4 oE) a3 uQ ?_ dA)) (by intro q;cases q);refine(W.exm_one (M:=model X.prog X.w) oE.dW (iE.type F.i3.there) uZ) _ _ _ _ (λ_ _ q=>q) ?_;refine codeAny_handlers_suite_as ?_;refine xM (fs:=fY X.stack) F.i3 λdV k5 NV=>?_
 have tP:=F.inv dV k5;obtain⟨bh,XY,XZ⟩:=NV.there;obtain⟨H1,aV⟩:=F.eN;have O7:=Yz (C:=C) aV tP F.na F.i9 XY XZ;refine zy (v:=.ref a) O7 hN aA (.inl hl) rfl (λg6 O8=>?_) (.inr hl);have o7:c4<Y.length:=by rw[aV.len];exact(aj1.mp aA).1
 refine akB ((aa a _).un zn g6 _ _ { bw:=λY' j4=>eI.bw (Y'.set c4 none) j4,cP:=λ_ _=>False } (u4 O8) ⟨⟨⟨aks o7,dn⟩,by rw[akL,aV.len];exact XF⟩,λp j4 lN aL dw=>?_⟩) (λf i1 q=>?_) λ_ _ z=>z
 .show eI.bw _ _
  rw[List.set_comm _ _ (alR hy),aoK];have X1:p≠a:=λz=>by rw[z,dn]at aL;cases aL
  rw[cG X1]at aL;obtain⟨O,Y',S,aW,ar,st,h,q⟩:=q;cases h;have NJ:dy H' j4:=(i2 F.i9 _).trans lN;have go2:Go O O H' j4:=⟨NJ,λ_ _=>rfl,rfl⟩;have f6:=st.go go2 (st.b_.same NJ);have ta:=(f6.val (i:=eV) (d:=.lst (bs.map D.au)) (v:=.ref p) ⟨p,bs.map V.au,rfl,⟨dw,c5.free st.b_ aL⟩,Ma bs⟩).unset (i:=c4);exact q _ _ _ go2.bQ ta ((d9.set (λxs z=>by cases z)).trans (d9.set (λxs z=>by cases z)))
 .cases f with
  |next=>
   obtain⟨Y',j4,rt,n5⟩:=q;exact UN (u5 tP.ok rt) hN aA hl λzt wQ=>⟨_,j4,wQ,n5⟩
  |brk=>obtain⟨Y',j4,rt,n5⟩:=q;exact n5.elim
  |cont=>obtain⟨Y',j4,rt,n5⟩:=q;exact n5.elim
  |ret u=>obtain⟨v,Y',j4,rt,ajJ,n5⟩:=q;exact n5.elim
def J4{P:Str->aI->Prop}:∀c bs,([]:List (Str×aI)).lookup c=some bs->P c bs:=λ_ _ h=>by cases h
def u_{P:Str->aI->Prop}{ks:List (Str×aI)}(h:P p9 gh)(aD:∀c bs,ks.lookup c=some bs->P c bs):∀c bs,((p9,gh)::ks).lookup c=some bs->P c bs:=λc bs e=>by
 rw[akH]at e;split at e
 .rename_i z
  cases e;cases beq_iff_eq.mp z;exact h
 .exact aD c bs e
def mX{α:Type}(xs:List α)(lo:Option Int)(k:Int):List α:=(sliceRange (alJ lo none (some k) xs.length).1 (alJ lo none (some k) xs.length).2.1 (alJ lo none (some k) xs.length).2.2).filterMap (xs[·]?)
def xt(a:bf)(lo st:ma):bf:=λY=>do
 let x <-a Y
 let l <-lo Y
 let k <-st Y
 match x.fG,k with
 |some xs,some k=>if k=0 then bad else pure (.fr (mX xs l k))|_,_=>bad
omit [ax.aX]in
theorem Vals.pick{xs:List V}{us:List Value}(h:Vals xs us):∀is:List Nat,Vals (is.filterMap (xs[·]?)) (is.filterMap (us[·]?))
 |[]=>.nil|i::is=>by
  cases e:xs[i]? with
  |none=>
   have aG:us[i]? = none:=by rw[aou]at e ⊢;rw[<-h.length];exact e
   rw[aml e,aml aG];exact Vals.pick h is
  |some v=>
   obtain⟨u,aG,r⟩:=h.get e;rw[amm e,amm aG];exact .cons r (Vals.pick h is)
theorem a8.pick{K:aM}{mg:a9}{O:a0}{H:ah}{ds:List D}{xs:List V}(h:a8 K mg O H ds xs):∀is:List Nat,a8 K mg O H (is.filterMap (ds[·]?)) (is.filterMap (xs[·]?))
 |[]=>rfl|i::is=>by
  cases e:ds[i]? with
  |none=>
   have aG:xs[i]? = none:=by rw[aou]at e ⊢;rw[h.len];exact e
   rw[aml e,aml aG];exact a8.pick h is
  |some v=>
   obtain⟨u,aG,r⟩:=h.get e;rw[amm e,amm aG];exact⟨_,_,rfl,r,a8.pick h is⟩
section
variable{X:aJ}{e st CJ:Expr}{m:bf}{pz mk:ma}{pos cy:Pos}
def age(he:a5 X e m)(hl:oM X (some CJ) pz)(az:oM X (some st) mk):a5 X (.Subscript e (.Slice (some CJ) none (some st) cy) pos) (xt m pz mk):=⟨by
 rintro zn s aq H Q I ⟨O,Y,S,r,ar,q5,h,q⟩;obtain⟨x,S1,ae,ao⟩:=M.inv h;clear h;obtain⟨l,a7,ag,aa⟩:=M.inv ao;clear ao;obtain⟨k,gw,bO,h⟩:=M.inv aa;clear aa;obtain⟨xs,k,ex,rfl,aB,rfl,rfl⟩:∃xs jO,x.fG=some xs/\k=some jO/\jO≠0/\r=.fr (mX xs l jO)/\gw=ar:=by
  split at h
  .rename_i xs i ex
   by_cases c:i=0
   .rw[if_pos c]at h;cases h
   .rw[if_neg c]at h;cases h;exact⟨xs,i,ex,rfl,c,rfl,rfl⟩
  .cases h
 refine Subscript_ (bN (he.un zn s aq H (λv H1=>∃aH,Go O aH H H1/\ct X.K X.mg aH Y S1 aq H1/\ei X.K X.mg aH H1 x v) I ⟨O,Y,S,_,S1,q5,ae,λaH v H1 g1 aP ba nn=>⟨aH,g1,aP,ba⟩⟩) λv s1 aO=>?_);obtain⟨es,H1,aV,bF,aH,g1,aP,ba⟩:=aO;refine wpAny_Slice (bN (hl.un zn s1 aq H1 (λo aK=>o=l/\∃a_,Go aH a_ H1 aK/\ct X.K X.mg a_ Y a7 aq aK) aV ⟨aH,Y,S1,_,a7,aP,ag,λa_ aK g2 cf=>⟨rfl,a_,g2,cf⟩⟩) λfh s2 aO=>?_);obtain⟨mL,aK,bS,pl,rfl,a_,g2,cf⟩:=aO;rw[evalPart_none];refine aj4 ?_;refine bN (az.un zn s2 aq aK (λo cI=>o=some k/\∃d_,Go a_ d_ aK cI/\ct X.K X.mg d_ Y gw aq cI) bS ⟨a_,Y,a7,_,gw,cf,bO,λa_ aK g2 cf=>⟨rfl,a_,g2,cf⟩⟩) λvs s3 aO=>?_
 obtain⟨o,cI,dr,ps,Bh,d_,g3,f6⟩:=aO;subst Bh;obtain⟨a,ys,rfl,b6,bx⟩:=R.ph (ba.go (g2.trans g3)) ex;cases bF;have gv:Inv X zn aq cI { s3 with heap:=s3.heap.push { cls:=.type "slice",data:=.fields #[fh,.none,vs] } }:=dr.kept (t':=s3.toks) λb bh q=>ajZ _ q
 obtain⟨its,bG,bC,hz⟩:=gv.list b6;show wpAny (model X.prog X.w) X.A (aob e (.Slice (some CJ) none (some st) cy) (.ref a) (.ref s3.heap.objs.size)) (gq X zn aq Q) X.cL { s3 with heap:=s3.heap.push { cls:=.type "slice",data:=.fields #[fh,.none,vs] } };refine tail_any (ops:=[.ref a,.ref s3.heap.objs.size]) (T:="list") bC.isList.typeIs aok.lookup ?_ (by with_unfolding_all rfl);refine wpAny_getItem_list_slice bC.isList (apn ..) pl .none ps (λz=>aB (by cases z;rfl)) ?_ (by rw[akd,<-bG.length];exact hz);generalize{ s3 with heap:=s3.heap.push { cls:=.type "slice",data:=.fields #[fh,.none,vs] } }=s4 at *;have fr:=gv.bA.fresh (aj8 s4.heap.objs.size);have aw:slicePick its.toArray mL none (some k)=(mX its mL k).toArray:=by
  unfold slicePick mX;rw[akd];simp only[List.getElem?_toArray]
 have aG:(mX ys mL k).length<=ys.length:=by
  have z:=slicePick_size_le its.toArray mL none (some k);rw[aw,akd,akd,<-bG.length]at z;refine akS (amF ?_) z;unfold mX;rw[bG.length];exact(Vals.pick bG _).length
 rw[aw];refine⟨.ref s4.heap.objs.size,_,gv.laid (t':=s4.toks) (o:=.lst (mX ys mL k)) (λb bh q=>ajZ _ q) (aj8 _) ⟨akS aG hz,_,0,?_,akc _ rfl⟩,rfl,?_⟩
 .unfold mX
  rw[bG.length];exact Vals.pick bG _
 .have g:=(g1.trans g2).trans g3
  refine q (gn d_ _ .dB) _ _ (g.trans (Go.new fr)) (f6.new fr) ⟨_,_,rfl,dn,pS,?_⟩ λb dh=>by cases dh;exact g.same.free fr
  unfold mX;rw[bx.len];exact(bx.pick _).go (Go.new fr)⟩
end
def vL:R->M R
 |.v (.str y)=>if y.length<=1000 then pure (.v (.str (Txt.upper y)))else bad|_=>bad
omit [ax.aX]in
theorem aaa:w0 X "str.upper" (λx xs H Q=>∃y,x=.str y/\xs=[]/\y.length<=1000/\Q (.str (Txt.upper y)) H):=by
 intro zn s Y H x xs v us Q I aU bG h;obtain⟨y,rfl,rfl,hl,q⟩:=h;obtain⟨t,rfl⟩:=aU;cases bG;exact SCL.upper (by omega) λ_=>⟨.str _,H,I.tok _,⟨_,rfl⟩,q⟩
def agh{X:aJ}{apos cK:Pos}(ao:a5 X a cA)(k8:alz a "upper" X.env (eval a X.env)=eval a X.env:=by rfl)(la:(apos.endLine==cK.line)=true:=by rfl):a5 X (.Call (.Attribute a "upper" apos) [] [] cK) (bE vL cA):=
 ⟨dK (Lu PySem.F.plainAttrs_str PySem.F.slot_str_upper PySem.F.type_str_upper aaa ao.un k8 la) λaq H Q aO=>by
  obtain⟨O,Y,S,r,ar,st,h,q⟩:=aO;obtain⟨x,S1,ae,h⟩:=M.inv h;unfold vL at h;split at h
  .rename_i y
   split at h
   .rename_i hl
    cases h;refine⟨O,Y,S,_,_,st,ae,λaH es H1 g1 aP aU bw=>?_⟩;cases(show es=.str y from aU);exact⟨rfl,y,rfl,rfl,hl,q aH _ H1 g1 aP rfl trivial⟩
   .cases h
  .cases h⟩
def Ck(j:Nat):gc:=λY=>match Y[j]? with
 |some (.b8 xs)=>pure xs|_=>bad
def ahc{X:aJ}{b7:Expr}(aA:X.N[j]? = some n:=by rfl)(bu:j9 X.env.scope n:=by first | exact akO rfl | exact akP (.inl rfl) | exact akP (akP rfl))(hd:(n==("__debug__":Str))=false:=by decide)(ew:(n==("__classdict__":Str))=false:=by decide):FE X b7 (.Name n p) (Ck j):=
 ⟨pJ (DV (pI aA bu hd ew)) λaq H R aO=>by
  obtain⟨O,Y,S,xs,ar,st,h,q⟩:=aO;have e:=(Ck j Y).d6 _ _ _ h;subst e
  replace h:(match Y[j]? with
   |some (.b8 xs)=>pure xs| _=>bad:M (List aE.D)).run _=.ok xs _:=h
  split at h
  .rename_i e
   cases h;obtain⟨a,ys,aw,l,bx⟩:=st.rd j _ e
   cases aG:aq[j]? with
   |none=>rw[aG]at aw;cases aw
   |some o=>
    rw[aG]at aw;cases(show o=some (.ref a)from aw);exact⟨_,aG,a,rfl,⟨ys,l.v.dv⟩,q O H (l8 X.K a) ys (Go.refl _ _) st l.YK bx⟩
  .cases h⟩
end aE
namespace aE
open PySem PySem.Spec ax PyProof.Rows
section
variable{X:aJ}
def ch(c:Nat):Str:=⟨#[c]⟩
def rv(z:Str):hG:=⟨λi _=>i<z.cps.size,λi H x H'=>H'=H/\∃c,z.cps[i]? = some c/\x=.str (ch c),λi _=>z.cps.size<=i⟩
theorem Oa{P:aki}{w:World}{K:aM}{b7:Expr}(z:Str)(t:Tok)(it:Addr):Turn P w K b7 (rv z) [it] it (λi h=>(h.IsStrIter it "str_ascii_iterator" z t i)\/h.IsStrIter it "str_iterator" z t i) where
 mem:=by simp
 obj:=λi h st b aa=>by
  have e:b=it:=by simpa using aa
  subst e;rcases st with⟨o,e,c,d⟩|⟨o,e,c,d⟩<;>exact⟨o,e,λv z=>by rw[d]at z;cases z⟩
 keep:=λi h h' st k=>by
  rcases st with⟨o,e,c,d⟩|⟨o,e,c,d⟩
  .exact .inl ⟨o,k it (by simp) o e,c,d⟩
  .exact .inr ⟨o,k it (by simp) o e,c,d⟩
 item:=by
  intro X d1 hw gU hc i zn s Y H E I hf st a3;subst d1 hw gU;have a3:i<z.cps.size:=a3;obtain⟨f0,f1,f2,fX,f4,gi⟩:=hf it (by simp);have ai:z.cps[i]? = some z.cps[i]:=by simp[a3]
  rcases st with st|st
  .refine wpAny_pyNext_ascii_item st ai λh' bW jU=>?_
   have aV:Inv X zn Y H { s with heap:=h',toks:=s.toks+1 }:=I.turned (t':=s.toks+1) (λb o aa e=>(jU.2 b aa).trans e) f0 f1 fX f4 gi;obtain⟨o,e,c,d⟩:=id bW;exact⟨_,rfl,uB (s:={ s with heap:=h',toks:=s.toks+1 }) e c d (by decide) ⟨.str (ch z.cps[i]),H,aV,⟨_,rfl⟩,⟨rfl,_,ai,rfl⟩,.inl bW,λb aa=>(hf b aa).1⟩⟩
  .refine wpAny_pyNext_wide_item st ai λh' bW jU=>?_
   have aV:Inv X zn Y H { s with heap:=h',toks:=s.toks+1 }:=I.turned (t':=s.toks+1) (λb o aa e=>(jU.2 b aa).trans e) f0 f1 fX f4 gi;obtain⟨o,e,c,d⟩:=id bW;exact⟨_,rfl,uB (s:={ s with heap:=h',toks:=s.toks+1 }) e c d (by decide) ⟨.str (ch z.cps[i]),H,aV,⟨_,rfl⟩,⟨rfl,_,ai,rfl⟩,.inr bW,λb aa=>(hf b aa).1⟩⟩
 done:=by
  intro X d1 hw gU hc i zn s Y H E I hf st a3;subst d1 hw gU;have a3:z.cps.size<=i:=a3;obtain⟨f0,f1,f2,fX,f4,gi⟩:=hf it (by simp);have ai:z.cps[i]? = none:=by simp[a3]
  rcases st with st|st
  .exact wpAny_pyNext_ascii_end (I.ok.hd hc) st ai λh' dh=>⟨rfl,I.turned (t':=s.toks) (λb o aa e=>dh b o aa e) f0 f1 fX f4 gi⟩
  .exact wpAny_pyNext_wide_end (I.ok.hd hc) st ai λh' dh=>⟨rfl,I.turned (t':=s.toks) (λb o aa e=>dh b o aa e) f0 f1 fX f4 gi⟩
 self:=λ_ _ _ _ _ st h=>by
  rcases st with st|st
  .exact wpAny_pyIter_striter_ascii st h
  .exact wpAny_pyIter_striter_wide st h
def abI{b7 l:Expr}(hl:bM X l iz):jC X b7 l (λY H R=>iz Y H λx H1=>∃z,x=.str z/\R (rv z) H1):=by
 intro zn s Y H R I h;refine bN (hl zn s Y H _ I h) λv s1 aO=>?_
 obtain⟨x,H1,aV,bF,bp⟩:=aO;obtain⟨z,e,q⟩:=bp;subst e;obtain⟨t,rfl⟩:=bF;have fin:∀b∈[s1.heap.objs.size],gr X zn H1 b:=λb aa=>by
  have e:b=s1.heap.objs.size:=by simpa using aa
  subst e;exact aV.qe (aj8 _) (aV.bA.fresh (aj8 _))
 cases ao:z.cps.all (· < 128)with
 |true=>
  refine wpAny_pyIter_ascii ao ?_;exact⟨s1.heap.objs.size,[s1.heap.objs.size],_,_,H1,rfl,aV.kept (t':=s1.toks) λb o e=>ajZ _ e,Oa z t _,.inl ⟨_,akc _ rfl,rfl,rfl⟩,fin,q⟩
 |false=>
  refine wpAny_pyIter_wide ao ?_;exact⟨s1.heap.objs.size,[s1.heap.objs.size],_,_,H1,rfl,aV.kept (t':=s1.toks) λb o e=>ajZ _ e,Oa z t _,.inr ⟨_,akc _ rfl,rfl,rfl⟩,fin,q⟩
end
def xw(z:Str):List D:=z.cps.toList.map λc=>D.str (ch c)
def nv(z:Str):List V:=z.cps.toList.map λc=>V.str (ch c)
def YI(z:Str)(H:ah)(i:Nat):(i<(nv z).length->(rv z).go i H/\∀x H',(rv z).oo i H x H'->H'=H/\(nv z)[i]? = some x)/\((nv z).length<=i->(rv z).stop i H):=by
 have hl:(nv z).length=z.cps.size:=by unfold nv;rw[aj2,akN]
 rw[hl];refine⟨λaA=>⟨aA,λx H' ⟨e,c,ae,ag⟩=>⟨e,?_⟩⟩,λaA=>aA⟩;subst ag;unfold nv;rw[akD,ao9,ae];rfl
variable[ax.aX]
def SG{K:aM}{mg:a9}{O:a0}{H:ah}(z:Str):a8 K mg O H (xw z) (nv z):=by
 unfold xw nv
 induction z.cps.toList with
 |nil=>rfl|cons c r aZ=>exact⟨_,_,rfl,rfl,aZ⟩
@[simp] def Jw(m:bf)(Y:aQ):M (List D):=do
 let r <-m Y
 match r with
 |.v (.str z)=>pure (xw z)|_=>bad
section
variable{X:aJ}{b7 l:Expr}{m:bf}
def afQ(hl:a5 X l m):rF X b7 l (Jw m):=⟨pJ (abI hl.un) λaq H R aO=>by
 obtain⟨O,Y,S,xs,ar,st,h,q⟩:=aO;obtain⟨r,S1,ae,h⟩:=M.inv h;split at h
 .rename_i z
  cases h;refine⟨O,Y,S,_,_,st,ae,λaH v H1 g1 aP ba nn=>⟨z,ba,?_⟩⟩;exact q aH H1 (rv z) (nv z) g1 aP (λaK _ i=>YI z aK i) (SG z)
 .cases h⟩
end
section
variable{K:aM}{mg:a9}
def tj(i j:Str):Bool:=!(amr j i 0 j.length 1).isEmpty
def qN(neg:Bool):R->R->M R
 |.v (.str i),.v (.str j)=>pure (.v (.au (neg ^^ tj i j)))|_,_=>bad
def FU:dS K mg (λx y H Q=>∃i j,x=.str i/\y=.str j/\Q (.au (!(amr j i 0 j.length 1).isEmpty)) H) (qN false):=λO Y S aq H x y aU bz bH ar Q st ai a' h q=>by
 unfold qN at h;split at h
 .rename_i i j
  cases h;refine⟨i,j,ai,a',?_⟩;have:(!(amr j i 0 j.length 1).isEmpty)=(false ^^ tj i j):=by unfold tj;simp
  rw[this];exact q O _ H (Go.refl _ _) st rfl trivial
 .cases h
end
end aE
namespace aE
open PySem PySem.Spec ax PyProof.Rows
def wX(K:aM)(mg:a9)[ax.aX](d:D)(u:Value):Prop:=∃v,RelV v u/\∀O H,Rep K mg O H d v
structure KTab(P:aki)(w:World)(K:aM)(mg:a9)[ax.aX](x:Str)(ps:List (Str×D)):Prop where
 ex:∃(a:Addr)(ay:Array ant)(n:Nat),(mg x=some (.ref a)/\(a==alO)=false)/\alI a K=some { cls:=.type "dict",data:=.dict ay n }/\KeysOf (anm P w) ay/\
  ∀k,match ps.lookup k with
   |some d=>∃u,anZ akX ay k=some u/\wX K mg d u|none=>anZ akX ay k=none
variable[ax.aX]
def Ac(K:aM)(mg:a9):List (Str×D)->List ant->Prop
 |[],ay=>ay=[]|p::ps,ay=>∃e r,ay=e::r/\(∃t,e.key=.str p.1 t)/\wX K mg p.2 e.val/\Ac K mg ps r
theorem JT{K:aM}{mg:a9}{k:Str}:∀{ps:List (Str×D)}{ay:List ant},Ac K mg ps ay->match ps.lookup k with
   |some d=>∃u,(ay.find? λe=>akX k e.key).map (·.val)=some u/\wX K mg d u|none=>(ay.find? λe=>akX k e.key).map (·.val)=none
 |[],ay,h=>by cases h;rfl
 |p::ps,ay,h=>by
  obtain⟨e,r,rfl,⟨t,gT⟩,Zo,aD⟩:=h;have aZ:=JT (k:=k) aD;obtain⟨sW,ajF⟩:=p;rw[akH,al2,gT]
  by_cases c:k=sW
  .subst c
   have aw:(k==k)=true:=by simp
   have aG:akX k (.str k t)=true:=by show(k==k)=true;simp
   rw[aw,aG];exact⟨_,rfl,Zo⟩
  .have aw:(k==sW)=false:=by simpa using c
   have aG:akX k (.str sW t)=false:=by
    show(sW==k)=false;simp only[beq_eq_false_iff_ne,ne_eq];exact λz=>c z.symm
   rw[aw,aG];exact aZ
def Zp{P:aki}{w:World}{K:aM}{h:Heap}{mg:a9}{x:Str}{d:Addr}{ay:Array ant}{n:Nat}{ps:List (Str×D)}(X:K.In h)(G:h.Ns akx mg)
  (a:anh K akx x=some (some (.ref d))) (az:(d==alO)=false) (l:alI d K=some { cls:=.type "dict",data:=.dict ay n }) (k:∀e∈ay.toList,∃s,akX s e.key=true/\e.hash=hashStr w s)
  (f:Ac K mg ps ay.toList):KTab P w K mg x ps:=by
 refine⟨d,ay,n,⟨anS X G a,az⟩,l,λe he=>?_,λk=>?_⟩
 .obtain⟨s,ae,ag⟩:=k e (by simpa using he)
  exact⟨s,ae,ag⟩
 .have z:=JT (k:=k) f
  have:∀k:Str,anZ akX ay k=(ay.toList.find? λe=>akX k e.key).map (·.val):=λk=>by
   unfold anZ;obtain⟨l⟩:=ay;rw[List.find?_toArray]
  rw[this];exact z
def Ae:List Str->List Value->Prop
 |[],us=>us=[]|x::xs,us=>∃t r,us=.str x t::r/\Ae xs r
theorem J5:∀{xs:List Str}{us:List Value},Ae xs us->Vals (xs.map V.str) us
 |[],us,h=>by cases h;exact .nil
 |x::xs,us,h=>by obtain⟨t,r,rfl,q⟩:=h;exact .cons ⟨t,rfl⟩ (J5 q)
def nV{K:aM}{mg:a9}{xs:List Str}{a:Addr}{its:Array Value}{n:Nat}{cT:Option Addr}{eP:Array (Option Value)}(l:alI a K=some ⟨.type "tuple",cT,.seq its n,eP⟩)(hz:its.size<=aj6)(h:Ae xs its.toList) :
  wX K mg (.tup (xs.map D.str)) (.ref a):=by
 refine⟨.ref a,rfl,λO H=>⟨a,xs.map V.str,rfl,.inr ⟨_,its,n,l,rfl,rfl,hz,J5 h⟩,?_⟩⟩
 induction xs with
 |nil=>rfl| cons x r aZ=>exact⟨_,_,rfl,rfl,by
   clear aZ h
   induction r with
   |nil=>rfl| cons y q aZ=>exact⟨_,_,rfl,rfl,aZ⟩⟩
def ah2(neg:Bool)(ps:List (Str×D))(mk:bf):bf:=λY=>do
 let k <-mk Y
 match k with
 |.v (.str z)=>pure (.v (.au (neg ^^ (ps.lookup z).isSome)))|_=>bad
section
omit [ax.aX]
@[simp] theorem aiQ:qN b (.v (.str i)) (.v (.str j))=pure (.v (.au (b ^^ tj i j))):=rfl
end
end aE
namespace aE
open PySem PySem.Spec ax PyProof.Rows
variable[ax.aX]
@[simp] def AY(ps:List (Str×D))(mk:bf)(Y:aQ):M R:=do
 let k <-mk Y
 match k with
 |.v (.str z)=>pure (.v ((ps.lookup z).getD .aN))|_=>bad
section
variable{X:aJ}{x:Str}{ps:List (Str×D)}{e:Expr}{p apos cK:Pos}{mk:bf}
def agf(T:KTab X.prog X.w X.K X.mg x ps)(a3:dD X x)(he:a5 X e mk)(m:gO X (.Name x p) "get" apos e cK:=by exact⟨rfl,rfl,rfl,rfl⟩)(dA:(x==("__debug__":Str))=false:=by decide) :
  a5 X (.Call (.Attribute (.Name x p) "get" apos) [e] [] cK) (AY ps mk):=⟨by
 rintro zn s Y H Q I ⟨O,Y',S,r,ar,st,h,q⟩;obtain⟨y,S1,ae,h⟩:=M.inv h;split at h
 .rename_i z
  cases h;obtain⟨a,ay,n,⟨hm,X4⟩,hl,aB,hf⟩:=T.ex;refine wpAny_Call_method m.base m.Bt m.line aoM al3 ao6 (mM I a3 hm ?_ dA);have ao:=I.dW a _ hl;refine⟨⟨_,ao,rfl⟩,λb e=>by cases e;exact⟨_,ao,rfl⟩,?_⟩;rw[m.trees];refine amy rfl (amM (am1 (bN (he.un zn s Y H (λv H1=>v=.str z/\∃aH,Go O aH H H1/\ct X.K X.mg aH Y' ar Y H1) I ⟨O,Y',S,_,_,st,ae,λaH v H1 g1 aP ba nn=>⟨ba,aH,g1,aP⟩⟩) λpe s2 ⟨y,aK,bS,bz,fb,aH,g1,aP⟩=>aoi ?_)));subst fb;obtain⟨t,rfl⟩:=bz;have ao:=bS.dW a _ hl;have mo:s2.heap.MapOf (anm X.prog X.w) a (anZ akX ay):=⟨_,ay,n,ao,⟨rfl,rfl,rfl⟩,rfl,aB,λ_=>rfl⟩;refine call_meetsIn al3 mo.typeIs ang (PySem.F.args_dict_get_2 _ _) (meets_dict_get (anm X.prog X.w) a (k:=z) ?_ X4) ⟨_,mo,?_⟩
  .show(z==z)=true
   simp
  .have:=hf z
   cases aw:ps.lookup z with
   |none=>
    rw[aw]at this q;rw[this];exact⟨.aN,aK,bS.tok _,rfl,q aH _ aK g1 aP rfl trivial⟩
   |some d=>
    rw[aw]at this q;obtain⟨u,aG,v,bG,acp⟩:=this;rw[aG];exact⟨v,aK,bS.tok _,bG,q aH _ aK g1 aP (acp aH aK) trivial⟩
 .cases h⟩
end
end aE
namespace aE
open PySem PySem.Spec ax
section
variable{P:List Value->Prop}
def Og(h:P []):∀us:List Value,us.length=0->P us:=λus e=>by rw[anN e];exact h
def ra(h:∀a,∀us:List Value,us.length=n->P (a::us)):∀us:List Value,us.length=n+1->P us:=λus e=>by
 cases us with
 |nil=>cases e
 |cons a r=>exact h a r (Nat.succ.inj e)
def wt(h:∀a,P [a]):∀us:List Value,us.length=1->P us:=ra λa=>Og (h a)
def zM(h:∀a b,P [a,b]):∀us:List Value,us.length=2->P us:=ra λa=>wt (h a)
def ED(h:∀a b c,P [a,b,c]):∀us:List Value,us.length=3->P us:=ra λa=>zM (h a)
def EE(h:∀a b c d,P [a,b,c,d]):∀us:List Value,us.length=4->P us:=ra λa=>ED (h a)
def EF(h:∀a b c d e,P [a,b,c,d,e]):∀us:List Value,us.length=5->P us:=ra λa=>EE (h a)
def EG(h:∀a b c d e f,P [a,b,c,d,e,f]):∀us:List Value,us.length=6->P us:=ra λa=>EF (h a)
def Oh(h:∀a b c d e f g,P [a,b,c,d,e,f,g]):∀us:List Value,us.length=7->P us:=ra λa=>EG (h a)
end
def Ic(N P:List Str)(sc:Scope):Bool:=decide (sc.kind=.function)&&!sc.isCoroutine&&!sc.isGenerator&&decide N.Nodup&&decide (N.take P.length=P)
&&P.all (λx=>decide (sc.names.lookup x=some .local)||decide (sc.names.lookup x=some .cell))&&sc.names.all λy=>decide (y.2≠.free)
def cj{N P:List Str}(h:Ic N P sc=true):bP N P sc:=by
 simp only[Ic,akw,Bool.not_eq_true',decide_eq_true_eq,alp,Bool.or_eq_true]at h;exact⟨h.1.1.1.1.1.1,h.1.1.1.1.1.2,h.1.1.1.1.2,h.1.1.1.2,h.1.1.2,h.1.2,h.2⟩
def HD(EN xs:List Str)(cap:List Nat):List Str:=xs++cap.filterMap λk=>EN[k]?
def HE(esc scope:Scope)(EN N:List Str)(n:Nat)(cap:List Nat):Bool:=decide (scope.kind=.function)&&scope.names.all (λy=>decide (y.2≠.cell))&&scope.names.all (λy=>decide (y.2=.local->scope.names.lookup y.1=some .local))
&&scope.names.all (λy=>decide (y.2=.free->esc.names.lookup y.1=some .cell\/esc.names.lookup y.1=some .free))&&decide N.Nodup&&decide (N.length=n+cap.length)
&&(akU cap.length).all λj=>decide (N[n+j]? = EN[cap.getD j 0]?)&&(match N[n+j]? with|some x=>decide (scope.names.lookup x=some .free)|none=>true)
def A8{EN xs:List Str}(h:HE esc scope EN (HD EN xs cap) xs.length cap=true):l5 esc scope EN (HD EN xs cap) xs.length cap:=by
 simp only[HE,akw,decide_eq_true_eq,alp]at h;obtain⟨⟨⟨⟨⟨⟨ae,ag⟩,bO⟩,cO⟩,dV⟩,k4⟩,r7⟩:=h;refine⟨ae,ag,bO,cO,dV,k4,λj aR=>?_⟩;obtain⟨a,b⟩:=r7 j (alh.mpr aR);refine⟨a,λx ai=>?_⟩;rw[ai]at b;exact of_decide_eq_true b
def gX{N:List Str}(h:decide N.Nodup=true):N.Nodup:=of_decide_eq_true h
def vF{p:Nat->Prop}(h0:p 0)(ae:∀n,p (n+1)):∀n,p n:=λn=>by cases n with|zero=>exact h0|succ n=>exact ae n
variable[ax.aX]
def c0{P:aki}{w:World}{K:aM}{mg:a9}{base:Heap}{x:Str}{st:Stmt}{ps N:List Str}{k:Nat}{m:bq}{b:aI}(d:b1 K mg x st ps)(sc:bP N ps (bk st))(hm:m=fnOf ps.length N.length b)
  (aa:∀(f:Addr)(bc:Value)(A:akm)(outer:List Env)(s:aj0)(H:ah)(E:eS),cg k (A.deeper (akW x (bk st) s.heap.objs.size f bc))->
   eX (fl eh P w K mg base N x (bk st) f bc A outer s H E).fZ (eU st) b):bT P w K mg base x ps (k+1) (bL K mg m):=by
 subst hm;exact nH d sc rfl rfl λf bc A outer s H E aD=>(aa f bc A outer s H E aD).un
end aE
set_option maxHeartbeats 8000000
namespace en
open PySem PySem.Spec ax aE
def top(i:Nat):Stmt:=PySem.Challenge.pw_oneslate_k38_begin_refused.main.body.getD i (.Pass ⟨0,0,0,0⟩)
abbrev M3:Stmt:=top 1
def adx:bP ["thing"] ["thing"] (bk M3):=cj (by kernel_rfl)
abbrev MO:Stmt:=top 2
def adi:bP ["mask","keeper"] ["mask","keeper"] (bk MO):=cj (by kernel_rfl)
abbrev Nj:Stmt:=top 3
def adP:bP ["keepers","mask","keeper"] ["keepers"] (bk Nj):=cj (by kernel_rfl)
abbrev M4:Stmt:=top 4
def ady:bP ["mask"] ["mask"] (bk M4):=cj (by kernel_rfl)
abbrev Nk:Stmt:=top 5
def adQ:bP ["mask","masks","keeper"] ["mask"] (bk Nk):=cj (by kernel_rfl)
abbrev s8:Stmt:=top 7
def NB:bP ["grants","opening","grant"] ["grants","opening"] (bk s8):=cj (by kernel_rfl)
abbrev MB:Stmt:=top 8
def ac3:bP ["grants"] ["grants"] (bk MB):=cj (by kernel_rfl)
abbrev MN:Stmt:=top 9
def adh:bP ["grants"] ["grants"] (bk MN):=cj (by kernel_rfl)
abbrev MU:Stmt:=top 28
def ado:bP ["thing"] ["thing"] (bk MU):=cj (by kernel_rfl)
abbrev MY:Stmt:=top 29
def adt:bP ["thing"] ["thing"] (bk MY):=cj (by kernel_rfl)
abbrev MQ:Stmt:=top 30
def adk:bP ["thing","many"] ["thing"] (bk MQ):=cj (by kernel_rfl)
abbrev MP:Stmt:=top 31
def adj:bP ["thing","deep"] ["thing","deep"] (bk MP):=cj (by kernel_rfl)
abbrev Np:Stmt:=top 32
def adU:bP ["rule","keepers","part"] ["rule"] (bk Np):=cj (by kernel_rfl)
abbrev M0:Stmt:=top 33
def adv:bP ["thing"] ["thing"] (bk M0):=cj (by kernel_rfl)
abbrev Nn:Stmt:=top 34
def adT:bP ["rule"] ["rule"] (bk Nn):=cj (by kernel_rfl)
abbrev MK:Stmt:=top 35
def ade:bP ["rule","mask"] ["rule","mask"] (bk MK):=cj (by kernel_rfl)
abbrev MV:Stmt:=top 36
def adp:bP ["mask","filling"] ["mask","filling"] (bk MV):=cj (by kernel_rfl)
abbrev Ni:Stmt:=top 37
def adO:bP ["rule","filling"] ["rule"] (bk Ni):=cj (by kernel_rfl)
abbrev ML:Stmt:=top 39
def adf:bP ["mask","others","other"] ["mask","others"] (bk ML):=cj (by kernel_rfl)
abbrev Nr:Stmt:=top 40
def adW:bP ["asking","keeping","others","mask","other"] ["asking","keeping"] (bk Nr):=cj (by kernel_rfl)
abbrev MT:Stmt:=top 41
def adn:bP ["thing"] ["thing"] (bk MT):=cj (by kernel_rfl)
abbrev Nl:Stmt:=top 42
def adR:bP ["hall"] ["hall"] (bk Nl):=cj (by kernel_rfl)
abbrev Nm:Stmt:=top 43
def adS:bP ["hall"] ["hall"] (bk Nm):=cj (by kernel_rfl)
abbrev MW:Stmt:=top 48
def adq:bP ["thing"] ["thing"] (bk MW):=cj (by kernel_rfl)
abbrev MX:Stmt:=top 49
def ads:bP ["thing"] ["thing"] (bk MX):=cj (by kernel_rfl)
abbrev MS:Stmt:=top 50
def adm:bP ["thing"] ["thing"] (bk MS):=cj (by kernel_rfl)
abbrev MM:Stmt:=top 51
def adg:bP ["word"] ["word"] (bk MM):=cj (by kernel_rfl)
abbrev MZ:Stmt:=top 52
def adu:bP ["kind","thing"] ["kind","thing"] (bk MZ):=cj (by kernel_rfl)
abbrev MR:Stmt:=top 53
def adl:bP ["thing","form"] ["thing"] (bk MR):=cj (by kernel_rfl)
abbrev MD:Stmt:=top 55
def ac5:bP [] [] (bk MD):=cj (by kernel_rfl)
abbrev Nt:Stmt:=top 57
def adX:bP ["slate"] ["slate"] (bk Nt):=cj (by kernel_rfl)
abbrev M1:Stmt:=top 58
def adw:bP ["slate"] ["slate"] (bk M1):=cj (by kernel_rfl)
abbrev ME:Stmt:=top 59
def ac6:bP ["slate","name","cell"] ["slate","name"] (bk ME):=cj (by kernel_rfl)
abbrev q1:Stmt:=top 60
def NC:bP ["slate","name","n","cells"] ["slate","name","n"] (bk q1):=cj (by kernel_rfl)
abbrev MI:Stmt:=top 61
def ada:bP ["slate","asker","doing"] ["slate","asker"] (bk MI):=cj (by kernel_rfl)
abbrev q2:Stmt:=top 62
def ND:bP ["slate","asker","number","answer","doings"] ["slate","asker","number","answer"] (bk q2):=cj (by kernel_rfl)
abbrev Nv:Stmt:=top 64
def adZ:bP ["slate","shut"] ["slate","shut"] (bk Nv):=cj (by kernel_rfl)
abbrev MH:Stmt:=top 67
def ac9:bP ["slate","asker","deed"] ["slate","asker","deed"] (bk MH):=cj (by kernel_rfl)
abbrev MF:Stmt:=top 68
def ac7:bP ["slate","asker","deed","total"] ["slate","asker","deed"] (bk MF):=cj (by kernel_rfl)
abbrev acI:Stmt:=top 69
abbrev acJ:Stmt:=top 72
abbrev acG:Stmt:=top 73
abbrev acE:Stmt:=top 74
abbrev acH:Stmt:=top 75
abbrev acF:Stmt:=top 76
abbrev MG:Stmt:=top 77
def ac8:bP ["slate","asker","deed"] ["slate","asker","deed"] (bk MG):=cj (by kernel_rfl)
abbrev Nq:Stmt:=top 79
def adV:bP ["slate","asker","deed","doer"] ["slate","asker","deed"] (bk Nq):=cj (by kernel_rfl)
abbrev MJ:Stmt:=top 80
def adb:bP ["slate","asker","number","deed","made"] ["slate","asker","number","deed"] (bk MJ):=cj (by kernel_rfl)
abbrev MC:Stmt:=top 82
def ac4:bP ["asker","keeper","epoch","stamp"] ["asker","keeper","epoch","stamp"] (bk MC):=cj (by kernel_rfl)
abbrev Nu:Stmt:=top 83
def adY:bP ["asker","keeper","epoch","stamp","load"] ["asker","keeper","epoch","stamp","load"] (bk Nu):=cj (by kernel_rfl)
abbrev Mj:Stmt:=inClass (top 85) 0
def acL:bP ["self","me","hall"] ["self","me","hall"] (bk Mj):=cj (by kernel_rfl)
abbrev Ef:Stmt:=inClass (top 85) 1
def NA:bP ["self","deed"] ["self","deed"] (bk Ef):=cj (by kernel_rfl)
abbrev Ml:Stmt:=inClass (top 85) 2
def acN:bP ["self"] ["self"] (bk Ml):=cj (by kernel_rfl)
abbrev Mp:Stmt:=inClass (top 85) 3
def acR:bP ["self","letter"] ["self","letter"] (bk Mp):=cj (by kernel_rfl)
abbrev Mw:Stmt:=inClass (top 85) 4
def acY:bP ["self"] ["self"] (bk Mw):=cj (by kernel_rfl)
abbrev Mv:Stmt:=inClass (top 85) 5
def acX:bP ["self"] ["self"] (bk Mv):=cj (by kernel_rfl)
abbrev MA:Stmt:=inClass (top 85) 6
def ac2:bP ["self"] ["self"] (bk MA):=cj (by kernel_rfl)
abbrev Mz:Stmt:=inClass (top 85) 7
def ac1:bP ["self"] ["self"] (bk Mz):=cj (by kernel_rfl)
abbrev Mx:Stmt:=inClass (top 85) 8
def acZ:bP ["self"] ["self"] (bk Mx):=cj (by kernel_rfl)
abbrev Mt:Stmt:=inClass (top 85) 9
def acV:bP ["self"] ["self"] (bk Mt):=cj (by kernel_rfl)
abbrev Ms:Stmt:=inClass (top 85) 10
def acU:bP ["self","letter"] ["self","letter"] (bk Ms):=cj (by kernel_rfl)
abbrev Mk:Stmt:=inClass (top 85) 11
def acM:bP ["self"] ["self"] (bk Mk):=cj (by kernel_rfl)
abbrev Mq:Stmt:=inClass (top 85) 12
def acS:bP ["self","letter"] ["self","letter"] (bk Mq):=cj (by kernel_rfl)
abbrev Mo:Stmt:=inClass (top 85) 13
def acQ:bP ["self","pair","load"] ["self","pair"] (bk Mo):=cj (by kernel_rfl)
abbrev My:Stmt:=inClass (top 85) 14
def ac0:bP ["self","slate"] ["self","slate"] (bk My):=cj (by kernel_rfl)
abbrev Mr:Stmt:=inClass (top 85) 15
def acT:bP ["self","letter","shut"] ["self","letter"] (bk Mr):=cj (by kernel_rfl)
abbrev Mm:Stmt:=inClass (top 85) 16
def acO:bP ["self","slate","doing"] ["self"] (bk Mm):=cj (by kernel_rfl)
abbrev Mu:Stmt:=inClass (top 85) 17
def acW:bP ["self"] ["self"] (bk Mu):=cj (by kernel_rfl)
abbrev acD:Stmt:=inClass (top 85) 18
abbrev Mn:Stmt:=inClass (top 85) 19
def acP:bP ["self","outcome"] ["self","outcome"] (bk Mn):=cj (by kernel_rfl)
abbrev M7:Stmt:=top 87
def adC:bP ["script","k"] ["script","k"] (bk M7):=cj (by kernel_rfl)
abbrev Ng:Stmt:=top 88
def adM:bP ["found","due","one","other"] ["found","due"] (bk Ng):=cj (by kernel_rfl)
abbrev Nh:Stmt:=top 89
def adN:bP ["rule","shift"] ["rule","shift"] (bk Nh):=cj (by kernel_rfl)
abbrev M9:Stmt:=top 90
def adE:bP ["cell","three","rows","columns","some","asking","keeping"] ["cell"] (bk M9):=cj (by kernel_rfl)
abbrev Nc:Stmt:=top 93
def adJ:bP ["cell","size","at","name","k"] ["cell"] (bk Nc):=cj (by kernel_rfl)
abbrev M8:Stmt:=top 94
def adD:bP ["cell","seed","number"] ["cell","seed"] (bk M8):=cj (by kernel_rfl)
abbrev Nd:Stmt:=top 95
def adK:bP ["books","keeper","epoch"] ["books","keeper","epoch"] (bk Nd):=cj (by kernel_rfl)
abbrev M_:Stmt:=top 96
def adF:bP ["books","letter","word","asker","keeper","epoch","stamp","load","promised","kept","slate"] ["books","letter"] (bk M_):=cj (by kernel_rfl)
abbrev M5:Stmt:=top 97
def adA:bP ["cell","name","number","some"] ["cell","name","number"] (bk M5):=cj (by kernel_rfl)
abbrev M':Stmt:=top 98
def adG:bP ["one","deed","kinds","e"] ["one","deed"] (bk M'):=cj (by kernel_rfl)
abbrev Na:Stmt:=top 99
def adH:bP ["one","word"] ["one"] (bk Na):=cj (by kernel_rfl)
abbrev Nb:Stmt:=top 100
def adI:bP ["one"] ["one"] (bk Nb):=cj (by kernel_rfl)
abbrev Nf:Stmt:=top 101
def adL:bP ["one","script","first","deed","word","before","name","cell","number","due"] ["one","script","first","deed","word"] (bk Nf):=cj (by kernel_rfl)
abbrev M6:Stmt:=top 102
def adB:bP ["one","books","letters","written","letter"] ["one","books","letters"] (bk M6):=cj (by kernel_rfl)
abbrev v':Stmt:=top 103
def adz:bP ["script","me","deed","one","books","asks","tells"] ["script"] (bk v'):=cj (by kernel_rfl)
abbrev y6:List Str:=["me","epoch","hall","opening","over_known","greatest_round","last_stamp","wishes","deed","standing","last_outcome","grants","kept_mask","told_slate"]
abbrev nW:List (Str×D):=[("put",.tup [(.str "name"),(.str "number")]),("add",.tup [(.str "name"),(.str "number")]),("swap",.tup [(.str "name"),(.str "number"),(.str "number")]),("take",.tup [(.str "fence")]),("renew",.tup [(.str "fence")]),("free",.tup [(.str "fence")]),("sure",.tup [(.str "fence"),(.str "name"),(.str "number")]),("move",.tup [(.str "hall")]),("end",.tup [])]
abbrev q7:List (Str×Str):=[("put","do_put"),("add","do_add"),("swap","do_swap"),("take","do_take"),("renew","do_renew"),("free","do_free"),("sure","do_sure"),("move","do_move"),("end","do_end")]
structure Txt[ax.aX](P:aki)(w:World)(K:aM)(mg:a9)(base:Heap):Prop where
 T3:b1 K mg "is_whole" M3 ["thing"]
 TM:b1 K mg "has_keeper" MO ["mask","keeper"]
 Uh:b1 K mg "mask_of" Nj ["keepers"]
 T4:b1 K mg "keepers_of" M4 ["mask"]
 Ui:b1 K mg "masks_within" Nk ["mask"]
 TN:b1 K mg "highest" s8 ["grants","opening"]
 To:b1 K mg "all_alike" MB ["grants"]
 TL:b1 K mg "granters" MN ["grants"]
 TS:b1 K mg "is_keeper" MU ["thing"]
 TY:b1 K mg "is_pair" MY ["thing"]
 TO:b1 K mg "is_choice" MQ ["thing"]
 HJ:b1 K mg "is_built" MP ["thing","deep"]
 HM:b1 K mg "namings" Np ["rule"]
 T1:b1 K mg "is_rule" M0 ["thing"]
 Ul:b1 K mg "named" Nn ["rule"]
 HI:b1 K mg "fills" MK ["rule","mask"]
 TU:b1 K mg "is_least" MV ["mask","filling"]
 Ug:b1 K mg "least_masks" Ni ["rule"]
 TG:b1 K mg "first_apart" ML ["mask","others"]
 Un:b1 K mg "parting" Nr ["asking","keeping"]
 TR:b1 K mg "is_hall" MT ["thing"]
 Uj:b1 K mg "members_mask" Nl ["hall"]
 Uk:b1 K mg "members_of" Nm ["hall"]
 TV:b1 K mg "is_name" MW ["thing"]
 TX:b1 K mg "is_number" MX ["thing"]
 TQ:b1 K mg "is_fence" MS ["thing"]
 TH:b1 K mg "form_of" MM ["word"]
 TZ:b1 K mg "is_part" MZ ["kind","thing"]
 TP:b1 K mg "is_deed" MR ["thing"]
 Tq:b1 K mg "blank" MD []
 Up:b1 K mg "shut_of" Nt ["slate"]
 T2:b1 K mg "is_shut" M1 ["slate"]
 Tr:b1 K mg "cell_of" ME ["slate","name"]
 Ur:b1 K mg "with_cell" q1 ["slate","name","n"]
 TC:b1 K mg "doing_of" MI ["slate","asker"]
 Us:b1 K mg "with_doing" q2 ["slate","asker","number","answer"]
 Ut:b1 K mg "with_shut" Nv ["slate","shut"]
 Tw:b1 K mg "do_put" MH ["slate","asker","deed"]
 Ts:b1 K mg "do_add" MF ["slate","asker","deed"]
 TA:b1 K mg "do_swap" acI ["slate","asker","deed"]
 TB:b1 K mg "do_take" acJ ["slate","asker","deed"]
 Tx:b1 K mg "do_renew" acG ["slate","asker","deed"]
 Tu:b1 K mg "do_free" acE ["slate","asker","deed"]
 Tz:b1 K mg "do_sure" acH ["slate","asker","deed"]
 Tv:b1 K mg "do_move" acF ["slate","asker","deed"]
 Tt:b1 K mg "do_end" MG ["slate","asker","deed"]
 Um:b1 K mg "outcome_of" Nq ["slate","asker","deed"]
 TF:b1 K mg "done_on" MJ ["slate","asker","number","deed"]
 Tp:b1 K mg "ask_letter" MC ["asker","keeper","epoch","stamp"]
 Uq:b1 K mg "tell_letter" Nu ["asker","keeper","epoch","stamp","load"]
 S4:fV K mg "Asker" "__init__" "Asker.__init__" Mj ["self","me","hall"]
 xy:tK K mg "Asker" "begin" "Asker.begin" Ef ["self","deed"]
 S6:fV K mg "Asker" "bell" "Asker.bell" Ml ["self"]
 S':fV K mg "Asker" "hear" "Asker.hear" Mp ["self","letter"]
 Tg:fV K mg "Asker" "outcome" "Asker.outcome" Mw ["self"]
 Tf:fV K mg "Asker" "number" "Asker.number" Mv ["self"]
 Tn:fV K mg "Asker" "stand" "Asker.stand" MA ["self"]
 Tj:fV K mg "Asker" "stamp" "Asker.stamp" Mz ["self"]
 Th:fV K mg "Asker" "place" "Asker.place" Mx ["self"]
 Td:fV K mg "Asker" "knows_over" "Asker.knows_over" Mt ["self"]
 Tc:fV K mg "Asker" "is_for_now" "Asker.is_for_now" Ms ["self","letter"]
 S5:fV K mg "Asker" "ask_members" "Asker.ask_members" Mk ["self"]
 Ta:fV K mg "Asker" "hear_grant" "Asker.hear_grant" Mq ["self","letter"]
 S9:fV K mg "Asker" "go_on" "Asker.go_on" Mo ["self","pair"]
 Ti:fV K mg "Asker" "sees_at_once" "Asker.sees_at_once" My ["self","slate"]
 Tb:fV K mg "Asker" "hear_kept" "Asker.hear_kept" Mr ["self","letter"]
 S7:fV K mg "Asker" "end_where_told" "Asker.end_where_told" Mm ["self"]
 Te:fV K mg "Asker" "learn_over" "Asker.learn_over" Mu ["self"]
 S_:fV K mg "Asker" "go_over" "Asker.go_over" acD ["self","hall"]
 S8:fV K mg "Asker" "end_wish" "Asker.end_wish" Mn ["self","outcome"]
 T7:b1 K mg "_law_cell_at" M7 ["script","k"]
 HK:b1 K mg "_law_same" Ng ["found","due"]
 HL:b1 K mg "_law_turned" Nh ["rule","shift"]
 T9:b1 K mg "_law_hall" M9 ["cell"]
 Uc:b1 K mg "_law_name" Nc ["cell"]
 T8:b1 K mg "_law_deed" M8 ["cell","seed"]
 Ud:b1 K mg "_law_page" Nd ["books","keeper","epoch"]
 T_:b1 K mg "_law_heard" M_ ["books","letter"]
 T5:b1 K mg "_law_bad" M5 ["cell","name","number"]
 T':b1 K mg "_law_kinds" M' ["one","deed"]
 Ua:b1 K mg "_law_left_out" Na ["one"]
 Ub:b1 K mg "_law_look" Nb ["one"]
 Ue:b1 K mg "_law_refuses" Nf ["one","script","first","deed","word"]
 T6:b1 K mg "_law_brought" M6 ["one","books","letters"]
 A_:b1 K mg "law" v' ["script"]
 nt:oy K mg "Asker" y6
 BE:∃u,mg "LAST_KEEPER"=some u/\RelV (.int 5) u
 BI:∃u,mg "MOST_PARTS"=some u/\RelV (.int 6) u
 BH:∃u,mg "MOST_NAMED"=some u/\RelV (.int 12) u
 BF:∃u,mg "MOST_DEEP"=some u/\RelV (.int 4) u
 BJ:∃u,mg "SMALL_LETTERS"=some u/\RelV (.str "abcdefghijklmnopqrstuvwxyz") u
 BG:∃u,mg "MOST_LETTERS"=some u/\RelV (.int 8) u
 zF:tL P w K mg "DOERS" q7
 Ct:KTab P w K mg "FORMS" nW
 CL:∃c oH,l' K c oH (pg "highest")/\∀(f:Addr)(cw:Value)(cT:Option Addr)(cv doc pm:Value)(an:Option Addr)(bc cb:Value)(eP:Array (Option Value)),mg "highest"=some (.ref f)->K.lookup f=some ⟨cw,cT,.func (alM "highest" "highest" (hv s8) (eU s8) (bk s8) .none cv doc pm an bc cb),eP⟩->bc=.ref c
 CR:∃c oH,l' K c oH (pg "with_cell")/\∀(f:Addr)(cw:Value)(cT:Option Addr)(cv doc pm:Value)(an:Option Addr)(bc cb:Value)(eP:Array (Option Value)),mg "with_cell"=some (.ref f)->K.lookup f=some ⟨cw,cT,.func (alM "with_cell" "with_cell" (hv q1) (eU q1) (bk q1) .none cv doc pm an bc cb),eP⟩->bc=.ref c
 CS:∃c oH,l' K c oH (pg "with_doing")/\∀(f:Addr)(cw:Value)(cT:Option Addr)(cv doc pm:Value)(an:Option Addr)(bc cb:Value)(eP:Array (Option Value)),mg "with_doing"=some (.ref f)->K.lookup f=some ⟨cw,cT,.func (alM "with_doing" "with_doing" (hv q2) (eU q2) (bk q2) .none cv doc pm an bc cb),eP⟩->bc=.ref c
 bm:jy base mg
 E4:∃C,oB K mg "Busy" C
 E5:∃C,oB K mg "NoDeed" C
 E6:∃C,oB K mg "Over" C
 E9:∃C,mg "NoDeed"=some (.ref C)/\(∃B,mg "SlateError"=some (.ref B)/\am7 K (.ref C) (.ref B)=some true)/\iF K C/\(∃v u,bD mg "NoDeed" v u/\alG K (.ref C) u=some true)/\(∃v u,bD mg "Over" v u/\alG K (.ref C) u=some false)/\(∃v u,bD mg "Busy" v u/\alG K (.ref C) u=some false)/\(∃v u,bD mg "ValueError" v u/\alG K (.ref C) u=some true)/\(∃v0 h_ v1 ey v2 ee kA hp v4 ia lR ib v6 ic lS ie,bD mg "NoRule" v0 h_/\bD mg "NoHall" v1 ey/\bD mg "NoAsker" v2 ee/\bD mg "NoLetter" kA hp/\bD mg "NoTick" v4 ia/\bD mg "NoWish" lR ib/\bD mg "NoText" v6 ic/\bD mg "NoRow" lS ie/\am6 K (.ref C) [h_,ey,ee,hp,ia,ib,ic,ie]=some false)
 E_:∃C,mg "Over"=some (.ref C)/\(∃B,mg "SlateError"=some (.ref B)/\am7 K (.ref C) (.ref B)=some true)/\iF K C/\(∃v u,bD mg "NoDeed" v u/\alG K (.ref C) u=some false)/\(∃v u,bD mg "Over" v u/\alG K (.ref C) u=some true)/\(∃v u,bD mg "Busy" v u/\alG K (.ref C) u=some false)/\(∃v u,bD mg "ValueError" v u/\alG K (.ref C) u=some true)/\(∃v0 h_ v1 ey v2 ee kA hp v4 ia lR ib v6 ic lS ie,bD mg "NoRule" v0 h_/\bD mg "NoHall" v1 ey/\bD mg "NoAsker" v2 ee/\bD mg "NoLetter" kA hp/\bD mg "NoTick" v4 ia/\bD mg "NoWish" lR ib/\bD mg "NoText" v6 ic/\bD mg "NoRow" lS ie/\am6 K (.ref C) [h_,ey,ee,hp,ia,ib,ic,ie]=some false)
 E8:∃C,mg "Busy"=some (.ref C)/\(∃B,mg "SlateError"=some (.ref B)/\am7 K (.ref C) (.ref B)=some true)/\iF K C/\(∃v u,bD mg "NoDeed" v u/\alG K (.ref C) u=some false)/\(∃v u,bD mg "Over" v u/\alG K (.ref C) u=some false)/\(∃v u,bD mg "Busy" v u/\alG K (.ref C) u=some true)/\(∃v u,bD mg "ValueError" v u/\alG K (.ref C) u=some true)/\(∃v0 h_ v1 ey v2 ee kA hp v4 ia lR ib v6 ic lS ie,bD mg "NoRule" v0 h_/\bD mg "NoHall" v1 ey/\bD mg "NoAsker" v2 ee/\bD mg "NoLetter" kA hp/\bD mg "NoTick" v4 ia/\bD mg "NoWish" lR ib/\bD mg "NoText" v6 ic/\bD mg "NoRow" lS ie/\am6 K (.ref C) [h_,ey,ee,hp,ia,ib,ic,ie]=some false)
 Fb:∃C,mg "Over"=some (.ref C)/\(∃B,mg "Over"=some (.ref B)/\am7 K (.ref C) (.ref B)=some true)
 E':∃C,mg "Busy"=some (.ref C)/\(∃B,mg "Over"=some (.ref B)/\am7 K (.ref C) (.ref B)=some false)/\(∃B,mg "Busy"=some (.ref B)/\am7 K (.ref C) (.ref B)=some true)
 B:Fj mg
 kt:tQ K
section
variable[ax.aX]{P:aki}{w:World}{K:aM}{mg:a9}{base:Heap}
def QY:aI:=
  (bg (jc (df g_ (J (U 0) (J (af (.ty "int")) aj))) (t9 (df g_ (J (U 0) (J (af (.ty "bool")) aj))))))
def pv:bq:=fnOf 1 1 QY
def Gm:aI:=
  (bg (av oEq (av y8 (av Dw (U 0) (U 1)) (af (.int 1))) (af (.int 1))))
def pn:bq:=fnOf 2 2 Gm
def CP:aI:=
  (cY 1 (av sJ (U 1) (av Dv (af (.int 1)) (U 2))))
def GU:aI:=
  (bg (U 1))
def GS:aI:=
  bV (jd 2 (qu (U 0)) CP) GU
def GR:aI:=
  bV (cY 1 (af (.int 0))) GS
def px:bq:=fnOf 1 3 GR
def Gv:aI:=
  (bg (gR 1 [0] (sh (J (bE oBits (U 0)) aj)) (br (bj pn (J (U 1) (J (U 0) aj)))) (U 0)))
def sx:bq:=fnOf 1 1 Gv
def Zs:aI:=
  (cY 1 (av hj (U 1) (gR 1 [2] (mF (U 1)) gJ (av jr (U 0) (bj px (J (c8 (J (U 1) aj)) aj))))))
def RV:aI:=
  (bg (U 1))
def RU:aI:=
  bV (jd 2 (qu (bj sx (J (U 0) aj))) Zs) RV
def RT:aI:=
  bV (cY 1 (c8 (J (af (.int 0)) aj))) RU
def KH:bq:=fnOf 1 3 RT
def Gp:aI:=
  (bg (bb (J (av bB (U 2) (af (.int 1))) (J (av bB (U 2) (af (.int 2))) aj))))
def Gn:aI:=
  bV (cV (br (av oEq (av bB (U 2) (af (.int 1))) (bb (J (af (.int 0)) (J (af (.int 0)) aj))))) (bg (bb (J (av bB (U 2) (af (.int 1))) (J (U 1) aj)))) cH) Gp
def AA:aI:=
  bV (cY 2 (xp (fnOf 1 1 (bg (av bB (U 0) (af (.int 1))))) (U 0))) Gn
def yR:bq:=fnOf 2 3 AA
def Wv(T:Txt P w K mg base):bT P w K mg base "highest" ["grants","opening"] 4 (bL K mg yR):=by
 show bT P w K mg base _ _ _ (bL K mg (fnOf 2 3 AA));obtain⟨c,oH,L,hc⟩:=T.CL;refine BW (k:=3) T.TN hc NB rfl rfl λf A outer s H E aD=>?_
 have cp:=aD.units;refine eX.un ?_;refine kD ?_ (kD ?_ (lX ?_))
 .exact(rh (i:=2) NB.fT rfl (.inl rfl) (af5 (k:=0) (N:=["one"]) (p1:="one") rfl T.B.max (aD.mono (by omega)) L T.bm rfl rfl ⟨rfl,rfl,rfl,by decide +kernel,rfl,by decide +kernel,by decide +kernel⟩ (λ_ _ _ _=>rfl) (λ_ _ _ _ _ _=>(hD hA ht (dR 0) gK)) (dR 0)))
 .exact(E2 (i6 (DM cp) Aq (hD hA ht (dR 2) gK) (pX (e9 gK (e9 gK iA)))) (lX (pZ (pX (e9 (hD hA ht (dR 2) gK) (e9 (dR 1) iA))))) E3)
 .exact(pZ (pX (e9 (hD hA ht (dR 2) gK) (e9 (hD hA ht (dR 2) gK) iA))))
def QF:aI:=
  (bg (df oZ (J (gR 1 [0] (mF (U 0)) gJ (av oEq (av bB (U 0) (af (.int 1))) (av bB (av bB (U 1) (af (.int 0))) (af (.int 1))))) aj)))
def Kq:bq:=fnOf 1 1 QF
def Gl:aI:=
  (bg (bj px (J (gR 1 [] (mF (U 0)) gJ (av bB (U 0) (af (.int 0)))) aj)))
def nY:bq:=fnOf 1 1 Gl
def QS:aI:=
  (bg (jc (bj pv (J (U 0) aj)) (hZ oLe oLe (af (.int 0)) (U 0) (af (.int 5)))))
def KD:bq:=fnOf 1 1 QS
def QU:aI:=
  (bg (jc (df g_ (J (U 0) (J (af (.ty "tuple")) aj))) (av oEq (df iM (J (U 0) aj)) (af (.int 2)))))
def C7:bq:=fnOf 1 1 QU
def QP:aI:=
  (bg (jc (av oLe (U 1) (af (.int 6))) (hZ oLe oLe (af (.int 1)) (av bB (U 0) (af (.int 0))) (U 1))))
def QO:aI:=
  bV (cY 1 (df iM (J (av bB (U 0) (af (.int 1))) aj))) QP
def QN:aI:=
  bV (cV (gm (eF (br (bj C7 (J (U 0) aj)))) (gm (eF (br (bj pv (J (av bB (U 0) (af (.int 0))) aj)))) (eF (br (df g_ (J (av bB (U 0) (af (.int 1))) (J (af (.ty "tuple")) aj))))))) (bg (af (.au false))) cH) QO
def KC:bq:=fnOf 1 2 QN
def QM(self:bq):aI:=
  (bg (df oZ (J (gR 1 [1] (mG (av bB (U 0) (af (.int 1)))) gJ (bj self (J (U 0) (J (av n4 (U 1) (af (.int 1))) aj)))) aj)))
def QL(self:bq):aI:=
  bV (cV (gm (br (av oEq (U 1) (af (.int 0)))) (eF (br (bj KC (J (U 0) aj))))) (bg (af (.au false))) cH) (QM self)
def Gq(self:bq):aI:=
  bV (cV (br (bj KD (J (U 0) aj))) (bg (af (.au true))) cH) (QL self)
def yS:Nat->bq
 |0=>λ_=>bad
 |n+1=>fnOf 2 2 (Gq (yS n))
def CQ(self:bq):aI:=
  (rN 1 wo (J (bj self (J (U 2) aj)) aj))
def G0(self:bq):aI:=
  (xr 1)
def GZ(self:bq):aI:=
  bV (jd 2 (mG (av bB (U 0) (af (.int 1)))) (CQ self)) (G0 self)
def GY(self:bq):aI:=
  bV (oR 1 (c8 aj)) (GZ self)
def xh(self:bq):aI:=
  bV (cV (br (bj pv (J (U 0) aj))) (bg (c8 (J (U 0) aj))) cH) (GY self)
def n0:Nat->bq
 |0=>λ_=>bad
 |n+1=>fnOf 1 3 (xh (n0 n))
def QX:aI:=
  (bg (jc (bj (yS 12) (J (U 0) (J (af (.int 4)) aj))) (av oLe (df iM (J (bj (n0 12) (J (U 0) aj)) aj)) (af (.int 12)))))
def C8:bq:=fnOf 1 1 QX
def GX:aI:=
  (bg (bj px (J (bj (n0 12) (J (U 0) aj)) aj)))
def sA:bq:=fnOf 1 1 GX
def Gk(self:bq):aI:=
  (bg (av sL (df iM (J (gR 1 [1] (mG (av bB (U 0) (af (.int 1)))) (br (bj self (J (U 0) (J (U 1) aj)))) (U 0)) aj)) (av bB (U 0) (af (.int 0)))))
def xe(self:bq):aI:=
  bV (cV (br (bj pv (J (U 0) aj))) (bg (bj pn (J (U 1) (J (U 0) aj)))) cH) (Gk self)
def iX:Nat->bq
 |0=>λ_=>bad
 |n+1=>fnOf 2 2 (xe (iX n))
def QT:aI:=
  (bg (t9 (df uo (J (gR 1 [0,1] (mF (bj sx (J (U 0) aj))) gJ (av (pG false) (av n4 (U 1) (bj px (J (c8 (J (U 0) aj)) aj))) (U 2))) aj))))
def KG:bq:=fnOf 2 2 QT
def RS:aI:=
  (bg (gR 1 [1] (mF (U 1)) (br (bj KG (J (U 0) (J (U 1) aj)))) (U 0)))
def RR:aI:=
  bV (cY 1 (gR 1 [0] (mF (bj KH (J (bj sA (J (U 0) aj)) aj))) (br (bj (iX 12) (J (U 1) (J (U 0) aj)))) (U 0))) RS
def Dc:bq:=fnOf 1 2 RR
def Zr:aI:=
  (cV (br (av oEq (av y8 (U 0) (U 2)) (af (.int 0)))) (bg (U 2)) cH)
def QK:aI:=
  (bg (af (.aN)))
def QJ:aI:=
  bV (jd 2 (qu (U 1)) Zr) QK
def KA:bq:=fnOf 2 3 QJ
def Zt:aI:=
  (bV (cY 4 (bj KA (J (U 3) (J (U 2) aj))))
  (cV (br (av i0 (U 4) (af (.aN)))) (bg (bb (J (U 3) (J (U 4) aj)))) cH))
def RY:aI:=
  (bg (af (.aN)))
def RX:aI:=
  bV (jd 3 (qu (bj Dc (J (U 0) aj))) Zt) RY
def RW:aI:=
  bV (cY 2 (bj Dc (J (U 1) aj))) RX
def KI:bq:=fnOf 2 5 RW
def QR:aI:=
  (bg (av iZ (bj KI (J (av bB (U 0) (af (.int 0))) (J (av bB (U 0) (af (.int 1))) aj))) (af (.aN))))
def QQ:aI:=
  bV (cV (gm (eF (br (bj C7 (J (U 0) aj)))) (gm (eF (br (bj C8 (J (av bB (U 0) (af (.int 0))) aj)))) (eF (br (bj C8 (J (av bB (U 0) (af (.int 1))) aj)))))) (bg (af (.au false))) cH) QR
def C6:bq:=fnOf 1 1 QQ
def GV:aI:=
  (bg (av sJ (bj sA (J (av bB (U 0) (af (.int 0))) aj)) (bj sA (J (av bB (U 0) (af (.int 1))) aj))))
def yV:bq:=fnOf 1 1 GV
def GW:aI:=
  (bg (bj sx (J (bj yV (J (U 0) aj)) aj)))
def mQ:bq:=fnOf 1 1 GW
def AH:aI:=
  (bg (df oZ (J (gR 1 [] (Jw (U 0)) gJ (av (qN false) (U 0) (af (.str "abcdefghijklmnopqrstuvwxyz")))) aj)))
def AG:aI:=
  bV (cV (gm (eF (br (df g_ (J (U 0) (J (af (.ty "str")) aj))))) (eF (br (hZ oLe oLe (af (.int 1)) (df ur (J (U 0) aj)) (af (.int 8)))))) (bg (af (.au false))) cH) AH
def pq:bq:=fnOf 1 1 AG
def AI:aI:=
  (bg (jc (bj pv (J (U 0) aj)) (av oLt (df um (J (U 0) aj)) (av lG (af (.int 10)) (af (.int 60))))))
def nZ:bq:=fnOf 1 1 AI
def Gr:aI:=
  (bg (jc (bj nZ (J (U 0) aj)) (av sL (U 0) (af (.int 0)))))
def vk:bq:=fnOf 1 1 Gr
def Az:aI:=
  (bg (AY nW (U 0)))
def yQ:bq:=fnOf 1 1 Az
def QW:aI:=
  (bg (bj C6 (J (U 1) aj)))
def QV:aI:=
  bV (cV (br (av oEq (U 0) (af (.str "fence")))) (bg (bj vk (J (U 1) aj))) cH) QW
def Gs:aI:=
  bV (cV (br (av oEq (U 0) (af (.str "number")))) (bg (bj nZ (J (U 1) aj))) cH) QV
def AJ:aI:=
  bV (cV (br (av oEq (U 0) (af (.str "name")))) (bg (bj pq (J (U 1) aj))) cH) Gs
def gE:bq:=fnOf 2 2 AJ
def AF:aI:=
  (bg (df oZ (J (t7 [] (J (U 1) (J (AW (U 0) (p_ (af (.int 1))) xq) aj)) gJ (bj gE (J (U 0) (J (U 1) aj)))) aj)))
def AE:aI:=
  bV (cV (gm (br (av iZ (U 1) (af (.aN)))) (br (av d5 (df iM (J (U 0) aj)) (av jr (df iM (J (U 1) aj)) (af (.int 1)))))) (bg (af (.au false))) cH) AF
def AD:aI:=
  bV (cY 1 (bj yQ (J (av bB (U 0) (af (.int 0))) aj))) AE
def AB:aI:=
  bV (cV (gm (eF (br (df g_ (J (U 0) (J (af (.ty "tuple")) aj))))) (gm (br (av oEq (df iM (J (U 0) aj)) (af (.int 0)))) (eF (br (df g_ (J (av bB (U 0) (af (.int 0))) (J (af (.ty "str")) aj))))))) (bg (af (.au false))) cH) AD
def km:bq:=fnOf 1 2 AB
def QH:aI:=
  (bg (bb (J (bb aj) (J (bb aj) (J (bb (J (af (.int 0)) (J (af (.aN)) aj))) (J (af (.aN)) aj))))))
def Ks:bq:=fnOf 0 0 QH
def G1:aI:=
  (bg (av bB (U 0) (af (.int 3))))
def lC:bq:=fnOf 1 1 G1
def Gu:aI:=
  (bg (av i0 (bj lC (J (U 0) aj)) (af (.aN))))
def sv:bq:=fnOf 1 1 Gu
def yF:aI:=
  (cV (br (av oEq (av bB (U 2) (af (.int 0))) (U 1))) (bg (av bB (U 2) (af (.int 1)))) cH)
def Ge:aI:=
  (bg (af (.int 0)))
def Gd:aI:=
  bV (jd 2 (mG (av bB (U 0) (af (.int 0)))) yF) Ge
def vh:bq:=fnOf 2 3 Gd
def G3:aI:=
  (bg (bb (J (df qd (J (p' lu (fnOf 1 1 (bg (av bB (U 0) (af (.int 0))))) (U 3)) aj)) (J (av bB (U 0) (af (.int 1))) (J (av bB (U 0) (af (.int 2))) (J (av bB (U 0) (af (.int 3))) aj))))))
def G2:aI:=
  bV (cV (br (av d5 (U 2) (af (.int 0)))) (rN 3 m7 (J (bb (J (U 1) (J (U 2) aj))) aj)) cH) G3
def AM:aI:=
  bV (oR 3 (gR 1 [1] (mG (av bB (U 0) (af (.int 0)))) (br (av d5 (av bB (U 0) (af (.int 0))) (U 1))) (U 0))) G2
def vo:bq:=fnOf 3 4 AM
def Xb(T:Txt P w K mg base):bT P w K mg base "with_cell" ["slate","name","n"] 4 (bL K mg vo):=by
 show bT P w K mg base _ _ _ (bL K mg (fnOf 3 4 AM));obtain⟨c,oH,L,hc⟩:=T.CR;refine BW (k:=3) T.Ur hc NC rfl rfl λf A outer s H E aD=>?_
 have cp:=aD.units;refine eX.un ?_;refine kD ?_ (kD ?_ (lX ?_))
 .exact(E1 (i:=3) (esc:=(bk q1)) (EN:=["slate","name","n","cells"]) (N:=["cell","name"]) (n:=1) (cap:=[1]) ⟨rfl,by decide +kernel,by decide +kernel,by decide +kernel,by decide +kernel,rfl,by decide +kernel⟩ NC.fT rfl rfl (by decide) (EP (hD hA ht (dR 0) gK)) rfl (λ_ _ _ _=>⟨akO rfl,rfl⟩) (λ_ _ _ _=>(ES (i6 (vQ cp) t2 (hD hA ht (dR 0) gK) (dR 1)))) (λ_ _ _ _=>(dR 0)))
 .exact(E2 (i6 (vQ cp) t2 (dR 2) gK) (lX (zQ (i:=3) amn amo vu yL (e9 (pX (e9 (dR 1) (e9 (dR 2) iA))) iA) rfl (.inl rfl))) E3)
 .exact(pZ (pX (e9 (ER A0 Cs rfl T.B.tuple' xn (e9 (Oo (k:=0) (N:=["cell"]) (p1:="cell") Zn rfl T.B.sorted (aD.mono (by omega)) L T.bm rfl rfl ⟨rfl,rfl,rfl,by decide +kernel,rfl,by decide +kernel,by decide +kernel⟩ (λ_ _ _ _=>rfl) (λ_ _ _ _ _ _=>(hD hA ht (dR 0) gK)) (dR 3)) iA)) (e9 (hD hA ht (dR 0) gK) (e9 (hD hA ht (dR 0) gK) (e9 (hD hA ht (dR 0) gK) iA))))))
def yG:aI:=
  (cV (br (av oEq (av bB (U 2) (af (.int 0))) (U 1))) (bg (U 2)) cH)
def Gj:aI:=
  (bg (bb (J (U 1) (J (af (.int 0)) (J (af (.aN)) aj)))))
def Gi:aI:=
  bV (jd 2 (mG (av bB (U 0) (af (.int 1)))) yG) Gj
def nX:bq:=fnOf 2 3 Gi
def G5:aI:=
  (bg (bb (J (av bB (U 0) (af (.int 0))) (J (df qd (J (p' fp (fnOf 1 1 (bg (av bB (U 0) (af (.int 0))))) (U 4)) aj)) (J (av bB (U 0) (af (.int 2))) (J (av bB (U 0) (af (.int 3))) aj))))))
def G4:aI:=
  bV (rN 4 m7 (J (bb (J (U 1) (J (U 2) (J (U 3) aj)))) aj)) G5
def AN:aI:=
  bV (oR 4 (gR 1 [1] (mG (av bB (U 0) (af (.int 1)))) (br (av d5 (av bB (U 0) (af (.int 0))) (U 1))) (U 0))) G4
def yW:bq:=fnOf 4 5 AN
def Xc(T:Txt P w K mg base):bT P w K mg base "with_doing" ["slate","asker","number","answer"] 4 (bL K mg yW):=by
 show bT P w K mg base _ _ _ (bL K mg (fnOf 4 5 AN));obtain⟨c,oH,L,hc⟩:=T.CS;refine BW (k:=3) T.Us hc ND rfl rfl λf A outer s H E aD=>?_
 have cp:=aD.units;refine eX.un ?_;refine kD ?_ (kD ?_ (lX ?_))
 .exact(E1 (i:=4) (esc:=(bk q2)) (EN:=["slate","asker","number","answer","doings"]) (N:=["doing","asker"]) (n:=1) (cap:=[1]) ⟨rfl,by decide +kernel,by decide +kernel,by decide +kernel,by decide +kernel,rfl,by decide +kernel⟩ ND.fT rfl rfl (by decide) (EP (hD hA ht (dR 0) gK)) rfl (λ_ _ _ _=>⟨akO rfl,rfl⟩) (λ_ _ _ _=>(ES (i6 (vQ cp) t2 (hD hA ht (dR 0) gK) (dR 1)))) (λ_ _ _ _=>(dR 0)))
 .exact(zQ (i:=4) amn amo vu yL (e9 (pX (e9 (dR 1) (e9 (dR 2) (e9 (dR 3) iA)))) iA) rfl (.inl rfl))
 .exact(pZ (pX (e9 (hD hA ht (dR 0) gK) (e9 (ER A0 Cs rfl T.B.tuple' xn (e9 (Oo (k:=0) (N:=["doing"]) (p1:="doing") Zm rfl T.B.sorted (aD.mono (by omega)) L T.bm rfl rfl ⟨rfl,rfl,rfl,by decide +kernel,rfl,by decide +kernel,by decide +kernel⟩ (λ_ _ _ _=>rfl) (λ_ _ _ _ _ _=>(hD hA ht (dR 0) gK)) (dR 4)) iA)) (e9 (hD hA ht (dR 0) gK) (e9 (hD hA ht (dR 0) gK) iA))))))
def R0:aI:=
  (bg (bb (J (av bB (U 0) (af (.int 0))) (J (av bB (U 0) (af (.int 1))) (J (av bB (U 0) (af (.int 2))) (J (U 1) aj))))))
def KL:bq:=fnOf 2 2 R0
def Gh:aI:=
  (bg (bb (J (bj vo (J (U 0) (J (av bB (U 2) (af (.int 1))) (J (av bB (U 2) (af (.int 2))) aj)))) (J (bj vh (J (U 0) (J (av bB (U 2) (af (.int 1))) aj))) aj))))
def vj:bq:=fnOf 3 3 Gh
def Gg:aI:=
  (bg (bb (J (bj vo (J (U 0) (J (av bB (U 2) (af (.int 1))) (J (U 3) aj)))) (J (U 3) aj))))
def Gf:aI:=
  bV (cY 3 (av jr (bj vh (J (U 0) (J (av bB (U 2) (af (.int 1))) aj))) (av bB (U 2) (af (.int 2))))) Gg
def vi:bq:=fnOf 3 4 Gf
def Ky:bq:=λ_=>bad
def I1(T:Txt P w K mg base):bT P w K mg base "do_swap" ["slate","asker","deed"] 1 (bL K mg Ky):=T.TA.none (by rintro vs H Q E ⟨O,ds,r,S,_,_,_,h,_⟩;cases h)
def Kz:bq:=λ_=>bad
def I2(T:Txt P w K mg base):bT P w K mg base "do_take" ["slate","asker","deed"] 1 (bL K mg Kz):=T.TB.none (by rintro vs H Q E ⟨O,ds,r,S,_,_,_,h,_⟩;cases h)
def Kw:bq:=λ_=>bad
def IZ(T:Txt P w K mg base):bT P w K mg base "do_renew" ["slate","asker","deed"] 1 (bL K mg Kw):=T.Tx.none (by rintro vs H Q E ⟨O,ds,r,S,_,_,_,h,_⟩;cases h)
def Ku:bq:=λ_=>bad
def IW(T:Txt P w K mg base):bT P w K mg base "do_free" ["slate","asker","deed"] 1 (bL K mg Ku):=T.Tu.none (by rintro vs H Q E ⟨O,ds,r,S,_,_,_,h,_⟩;cases h)
def Kx:bq:=λ_=>bad
def I0(T:Txt P w K mg base):bT P w K mg base "do_sure" ["slate","asker","deed"] 1 (bL K mg Kx):=T.Tz.none (by rintro vs H Q E ⟨O,ds,r,S,_,_,_,h,_⟩;cases h)
def Kv:bq:=λ_=>bad
def IX(T:Txt P w K mg base):bT P w K mg base "do_move" ["slate","asker","deed"] 1 (bL K mg Kv):=T.Tv.none (by rintro vs H Q E ⟨O,ds,r,S,_,_,_,h,_⟩;cases h)
def QI:aI:=
  (bg (bb (J (bj KL (J (U 0) (J (af (.str "over")) aj))) (J (af (.int 1)) aj))))
def Kt:bq:=fnOf 3 3 QI
abbrev uw:List (Str×bq):=[("do_put",vj),("do_add",vi),("do_swap",Ky),("do_take",Kz),("do_renew",Kw),("do_free",Ku),("do_sure",Kx),("do_move",Kv),("do_end",Kt)]
def AL:aI:=
  (bg (AU 3 uw (J (U 0) (J (U 1) (J (U 2) aj)))))
def xi:aI:=
  bV (cY 3 (AX q7 (av bB (U 2) (af (.int 0))))) AL
def mR:bq:=fnOf 3 4 xi
def Ay:aI:=
  (bg (bj yW (J (av bB (U 4) (af (.int 0))) (J (U 1) (J (U 2) (J (av bB (U 4) (af (.int 1))) aj))))))
def Ax:aI:=
  bV (cY 4 (bj mR (J (U 0) (J (U 1) (J (U 3) aj))))) Ay
def Aw:aI:=
  bV (cV (gm (br (av iZ (U 3) (af (.aN)))) (gm (br (bj sv (J (U 0) aj))) (br (av sL (av bB (bj nX (J (U 0) (J (U 1) aj))) (af (.int 1))) (U 2))))) (bg (U 0)) cH) Ax
def jk:bq:=fnOf 4 5 Aw
def QG:aI:=
  (bg (bb (J (af (.str "ask")) (J (U 0) (J (U 1) (J (U 2) (J (U 3) (J (bb aj) aj))))))))
def Kr:bq:=fnOf 4 4 QG
def RZ:aI:=
  (bg (bb (J (af (.str "tell")) (J (U 0) (J (U 1) (J (U 2) (J (U 3) (J (U 4) aj))))))))
def KJ:bq:=fnOf 5 5 RZ
def PX:bt:=
  (ek "Asker" "told_slate" (U 0) (dE (af (.aN))))
def PW:bt:=
  bX (ek "Asker" "kept_mask" (U 0) (dE (af (.int 0)))) PX
def PV:bt:=
  bX (ek "Asker" "grants" (U 0) (tr (dE (c8 aj)))) PW
def PU:bt:=
  bX (ek "Asker" "last_outcome" (U 0) (dE (af (.aN)))) PV
def P8:bt:=
  bX (ek "Asker" "standing" (U 0) (dE (af (.str "calm")))) PU
def P7:bt:=
  bX (ek "Asker" "deed" (U 0) (dE (af (.aN)))) P8
def P6:bt:=
  bX (ek "Asker" "wishes" (U 0) (dE (af (.int 0)))) P7
def P5:bt:=
  bX (ek "Asker" "last_stamp" (U 0) (dE (bb (J (af (.int 0)) (J (af (.int 0)) aj))))) P6
def P4:bt:=
  bX (ek "Asker" "greatest_round" (U 0) (dE (af (.int 0)))) P5
def P2:bt:=
  bX (ek "Asker" "over_known" (U 0) (dE (af (.au false)))) P4
def PZ:bt:=
  bX (ek "Asker" "opening" (U 0) (dE (bj Ks aj))) P2
def PY:bt:=
  bX (ek "Asker" "hall" (U 0) (dE (U 2))) PZ
def PT:bt:=
  bX (ek "Asker" "epoch" (U 0) (dE (af (.int 0)))) PY
def Ar:bt:=
  bX (ek "Asker" "me" (U 0) (dE (U 1))) PT
def C1:eY:=fnX 3 3 Ar
def Qa:bt:=
  (c2 (bg (gR 1 [0] (mF (bj mQ (J (bE (cm "Asker" "hall") (U 0)) aj))) gJ (bj Kr (J (bE (cm "Asker" "me") (U 1)) (J (U 0) (J (bE (cm "Asker" "epoch") (U 1)) (J (bE (cm "Asker" "last_stamp") (U 1)) aj))))))))
def P':bt:=
  bX (ek "Asker" "grants" (U 0) (tr (dE (c8 aj)))) Qa
def P_:bt:=
  bX (ek "Asker" "standing" (U 0) (dE (af (.str "asking")))) P'
def P9:bt:=
  bX (ek "Asker" "last_stamp" (U 0) (dE (bb (J (bE (cm "Asker" "greatest_round") (U 0)) (J (bE (cm "Asker" "me") (U 0)) aj))))) P_
def FY:bt:=
  bX (ek "Asker" "greatest_round" (U 0) (dE (av jr (bE (cm "Asker" "greatest_round") (U 0)) (af (.int 1))))) P9
def yM:eY:=fnX 1 1 FY
def Qg:bt:=
  (kG (fw "Asker" "ask_members" yM (U 0) rk))
def Qf:bt:=
  bX (ek "Asker" "last_outcome" (U 0) (dE (af (.aN)))) Qg
def Qe:bt:=
  bX (ek "Asker" "deed" (U 0) (dE (U 1))) Qf
def Qd:bt:=
  bX (ek "Asker" "wishes" (U 0) (dE (av jr (bE (cm "Asker" "wishes") (U 0)) (af (.int 1))))) Qe
def Qc:bt:=
  bX (c2 (cV (br (av d5 (bE (cm "Asker" "standing") (U 0)) (af (.str "calm")))) t8 cH)) Qd
def Qb:bt:=
  bX (c2 (cV (br (bE (cm "Asker" "over_known") (U 0))) t8 cH)) Qc
def As:bt:=
  bX (c2 (cV (ky (br (av i0 (U 1) (af (.aN)))) (eF (br (bj km (J (U 1) aj))))) t8 cH)) Qb
def su:eY:=fnX 2 2 As
def Fc:aI:=(tA (ky (br (av i0 (U 1) (af (.aN)))) (eF (br (bj km (J (U 1) aj))))) "NoDeed" (tA (br (bE (cm "Asker" "over_known") (U 0))) "Over" (tA (br (av d5 (bE (cm "Asker" "standing") (U 0)) (af (.str "calm")))) "Busy" OM)))
def sC:bq:=fnOf 2 2 Fc
def Qh:bt:=
  (kG (fw "Asker" "ask_members" yM (U 0) rk))
def FZ:bt:=
  bX (c2 (cV (br (av oEq (bE (cm "Asker" "standing") (U 0)) (af (.str "calm")))) (bg (c8 aj)) cH)) Qh
def C2:eY:=fnX 1 1 FZ
def QC:aI:=
  (bg (av (pG false) (av bB (U 1) (af (.int 1))) (bj mQ (J (bE (cm "Asker" "hall") (U 0)) aj))))
def F5:aI:=
  bV (cV (gm (br (av d5 (av bB (U 1) (af (.int 3))) (bE (cm "Asker" "epoch") (U 0)))) (br (av d5 (av bB (U 1) (af (.int 4))) (bE (cm "Asker" "last_stamp") (U 0))))) (bg (af (.au false))) cH) QC
def yO:bq:=fnOf 2 2 F5
def QE:aI:=
  (bg (bj (iX 12) (J (av bB (bE (cm "Asker" "hall") (U 0)) (af (.int 1))) (J (bj nY (J (kd (bE (cm "Asker" "grants") (U 0))) aj)) aj))))
def F':aI:=
  bV (cV (gm (br (bj sv (J (U 1) aj))) (eF (br (bj Kq (J (kd (bE (cm "Asker" "grants") (U 0))) aj))))) (bg (af (.au false))) cH) QE
def Ko:bq:=fnOf 2 2 F'
def Qj:bt:=
  (ek "Asker" "last_outcome" (U 0) (dE (U 1)))
def Au:bt:=
  bX (ek "Asker" "standing" (U 0) (dE (af (.str "calm")))) Qj
def qF:eY:=fnX 2 2 Au
def Qo:bt:=
  (c2 (bg (gR 1 [0,2] (mF (bj mQ (J (bE (cm "Asker" "hall") (U 0)) aj))) gJ (bj KJ (J (bE (cm "Asker" "me") (U 1)) (J (U 0) (J (bE (cm "Asker" "epoch") (U 1)) (J (bE (cm "Asker" "last_stamp") (U 1)) (J (U 2) aj)))))))))
def Qn:bt:=
  bX (c2 (cY 2 (bb (J (av bB (U 1) (af (.int 0))) (J (bE (cm "Asker" "wishes") (U 0)) (J (bE (cm "Asker" "deed") (U 0)) (J (bE (cm "Asker" "told_slate") (U 0)) aj))))))) Qo
def Qm:bt:=
  bX (ek "Asker" "told_slate" (U 0) (dE (bj jk (J (av bB (U 1) (af (.int 1))) (J (bE (cm "Asker" "me") (U 0)) (J (bE (cm "Asker" "wishes") (U 0)) (J (bE (cm "Asker" "deed") (U 0)) aj))))))) Qn
def Ql:bt:=
  bX (ek "Asker" "kept_mask" (U 0) (dE (af (.int 0)))) Qm
def Qk:bt:=
  bX (ek "Asker" "standing" (U 0) (dE (af (.str "telling")))) Ql
def F1:bt:=
  bX (gp (hE (ky (br (av iZ (bE (cm "Asker" "deed") (U 0)) (af (.aN)))) (br (fk "Asker" "sees_at_once" Ko (U 0) (J (av bB (U 1) (af (.int 1))) aj))))) (bX (kF (fw "Asker" "end_wish" qF (U 0) (gL (J (bb (J (af (.str "saw")) (J (bb (J (bE (cm "Asker" "epoch") (U 0)) (J (av bB (U 1) (af (.int 0))) (J (av bB (U 1) (af (.int 1))) aj)))) aj))) aj))))
  (c2 (bg (c8 aj)))) (c2 cH)) Qk
def yN:eY:=fnX 2 3 F1
def Qw:bt:=
  (kG (fw "Asker" "go_on" yN (U 0) (gL (J (bj yR (J (kd (bE (cm "Asker" "grants") (U 0))) (J (bE (cm "Asker" "opening") (U 0)) aj))) aj))))
def Qv:bt:=
  bX (c2 (cV (eF (br (bj (iX 12) (J (av bB (bE (cm "Asker" "hall") (U 0)) (af (.int 0))) (J (bj nY (J (kd (bE (cm "Asker" "grants") (U 0))) aj)) aj))))) (bg (c8 aj)) cH)) Qw
def Qu:bt:=
  bX (wy m7 (bE (cm "Asker" "grants") (U 0)) (J (bb (J (av bB (U 1) (af (.int 1))) (J (av bB (av bB (U 1) (af (.int 5))) (af (.int 0))) (J (av bB (av bB (U 1) (af (.int 5))) (af (.int 1))) aj)))) aj)) Qv
def F3:bt:=
  bX (c2 (cV (br (bj pn (J (bj nY (J (kd (bE (cm "Asker" "grants") (U 0))) aj)) (J (av bB (U 1) (af (.int 1))) aj)))) (bg (c8 aj)) cH)) Qu
def vf:eY:=fnX 2 2 F3
def Qi:bt:=
  (gp (hE (br (av i0 (bE (cm "Asker" "deed") (U 0)) (af (.aN))))) (bX (c2 (cY 2 (bj nX (J (U 1) (J (bE (cm "Asker" "me") (U 0)) aj)))))
  (gp (hE (br (av oEq (av bB (U 2) (af (.int 1))) (bE (cm "Asker" "wishes") (U 0))))) (kF (fw "Asker" "end_wish" qF (U 0) (gL (J (bb (J (af (.str "did")) (J (av bB (U 2) (af (.int 2))) aj))) aj)))) (c2 cH))) (gp (hE (eF (br (bj sv (J (U 1) aj))))) (kF (fw "Asker" "end_wish" qF (U 0) (gL (J (bb (J (af (.str "saw")) (J (bb (J (bE (cm "Asker" "epoch") (U 0)) (J (bE (cm "Asker" "last_stamp") (U 0)) (J (U 1) aj)))) aj))) aj)))) (gp (hE (br (av oEq (bj lC (J (U 1) aj)) (af (.str "over"))))) (kF (fw "Asker" "end_wish" qF (U 0) (gL (J (bb (J (af (.str "saw")) (J (bb (J (bE (cm "Asker" "epoch") (U 0)) (J (af (.aN)) (J (U 1) aj)))) aj))) aj)))) (c2 cH))))
def F0:bt:=
  bX (c2 (cY 1 (bE (cm "Asker" "told_slate") (U 0)))) Qi
def ve:eY:=fnX 1 3 F0
def QD:bt:=
  (gp (hE (br (av d5 (bE (cm "Asker" "standing") (U 0)) (af (.str "calm"))))) (kF (fw "Asker" "end_wish" qF (U 0) (gL (J (bb (J (af (.str "over")) (J (af (.aN)) aj))) aj)))) (c2 cH))
def F7:bt:=
  bX (ek "Asker" "over_known" (U 0) (dE (af (.au true)))) QD
def C4:eY:=fnX 1 1 F7
def Km:eY:=λ_=>gF
def V8(T:Txt P w K mg base):dq P w K mg base "Asker" "go_over" ["self","hall"] 1 (dM K mg Km):=T.S_.none (by rintro vs H Q E ⟨O,ds,r,S,ar,_,_,_,_,h,_⟩;cases h)
def QB:bt:=
  (kG (fw "Asker" "go_over" Km (U 0) (gL (J (U 2) aj))))
def QA:bt:=
  bX (gp (hE (br (av oEq (U 2) (af (.str "over"))))) (bX (kF (fw "Asker" "learn_over" C4 (U 0) rk))
  (c2 (bg (c8 aj)))) (c2 cH)) QB
def Qz:bt:=
  bX (c2 (cV (br (av iZ (U 2) (af (.aN)))) (bg (c8 aj)) cH)) QA
def Qy:bt:=
  bX (c2 (cY 2 (bj lC (J (bE (cm "Asker" "told_slate") (U 0)) aj)))) Qz
def Qx:bt:=
  bX (kF (fw "Asker" "end_where_told" ve (U 0) rk)) Qy
def F4:bt:=
  bX (c2 (cV (eF (br (bj (iX 12) (J (av bB (bE (cm "Asker" "hall") (U 0)) (af (.int 1))) (J (bE (cm "Asker" "kept_mask") (U 0)) aj))))) (bg (c8 aj)) cH)) Qx
def Av:bt:=
  bX (ek "Asker" "kept_mask" (U 0) (dE (av sJ (bE (cm "Asker" "kept_mask") (U 0)) (bj px (J (c8 (J (av bB (U 1) (af (.int 1))) aj)) aj))))) F4
def qG:eY:=fnX 2 3 Av
def Qt:bt:=
  (c2 (bg (c8 aj)))
def Qs:bt:=
  bX (gp (hE (ky (br (av oEq (av bB (U 1) (af (.int 0))) (af (.str "kept")))) (br (av oEq (bE (cm "Asker" "standing") (U 0)) (af (.str "telling")))))) (kG (fw "Asker" "hear_kept" qG (U 0) (gL (J (U 1) aj)))) (c2 cH)) Qt
def Qr:bt:=
  bX (gp (hE (ky (br (av oEq (av bB (U 1) (af (.int 0))) (af (.str "grant")))) (br (av oEq (bE (cm "Asker" "standing") (U 0)) (af (.str "asking")))))) (kG (fw "Asker" "hear_grant" vf (U 0) (gL (J (U 1) aj)))) (c2 cH)) Qs
def Qq:bt:=
  bX (c2 (cV (eF (br (fk "Asker" "is_for_now" yO (U 0) (J (U 1) aj)))) (bg (c8 aj)) cH)) Qr
def Qp:bt:=
  bX (gp (hE (br (av oEq (av bB (U 1) (af (.int 0))) (af (.str "late"))))) (bX (ek "Asker" "greatest_round" (U 0) (dE (df U6 (J (bE (cm "Asker" "greatest_round") (U 0)) (J (av bB (av bB (av bB (U 1) (af (.int 5))) (af (.int 0))) (af (.int 0))) aj)))))
  (c2 (bg (c8 aj)))) (c2 cH)) Qq
def F2:bt:=
  bX (c2 (cV (br (av d5 (av bB (U 1) (af (.int 2))) (bE (cm "Asker" "me") (U 0)))) (bg (c8 aj)) cH)) Qp
def pk:eY:=fnX 2 2 F2
def F9:aI:=
  (bg (bE (cm "Asker" "last_outcome") (U 0)))
def yP:bq:=fnOf 1 1 F9
def F8:aI:=
  (bg (bE (cm "Asker" "wishes") (U 0)))
def C5:bq:=fnOf 1 1 F8
def Gb:aI:=
  (bg (bE (cm "Asker" "standing") (U 0)))
def vg:bq:=fnOf 1 1 Gb
def Ga:aI:=
  (bg (bE (cm "Asker" "last_stamp") (U 0)))
def Kp:bq:=fnOf 1 1 Ga
def F_:aI:=
  (bg (bb (J (bE (cm "Asker" "epoch") (U 0)) (J (bE (cm "Asker" "hall") (U 0)) (J (bE (cm "Asker" "opening") (U 0)) aj)))))
def Kn:bq:=fnOf 1 1 F_
def F6:aI:=
  (bg (bE (cm "Asker" "over_known") (U 0)))
def C3:bq:=fnOf 1 1 F6
def GA:aI:=
  (bg (af (.int 0)))
def Gz:aI:=
  bV (cV (br (av oLt (U 1) (df iM (J (U 0) aj)))) (bg (av bB (U 0) (U 1))) cH) GA
def lB:bq:=fnOf 2 2 Gz
def CO(self:bq):aI:=
  (cV (eF (br (bj self (J (U 2) (J (U 3) aj))))) (bg (af (.au false))) cH)
def RQ(self:bq):aI:=
  (bg (jc (df g_ (J (U 0) (J (af (.ty "str")) aj))) (av oEq (U 0) (U 1))))
def RP(self:bq):aI:=
  bV (cV (br (df g_ (J (U 1) (J (af (.ty "int")) aj)))) (bg (jc (df g_ (J (U 0) (J (af (.ty "int")) aj))) (jc (t9 (df g_ (J (U 0) (J (af (.ty "bool")) aj)))) (av oEq (U 0) (U 1))))) cH) (RQ self)
def RO(self:bq):aI:=
  bV (cV (br (df g_ (J (U 1) (J (af (.ty "bool")) aj)))) (bg (jc (df g_ (J (U 0) (J (af (.ty "bool")) aj))) (av oEq (U 0) (U 1)))) cH) (RP self)
def RN(self:bq):aI:=
  bV (cV (br (av iZ (U 1) (af (.aN)))) (bg (av iZ (U 0) (af (.aN)))) cH) (RO self)
def GP(self:bq):aI:=
  bV (cV (br (df uq (J (U 1) (J (bb (J (af (.ty "tuple")) (J (af (.ty "list")) aj))) aj)))) (bV (cV (gm (eF (br (df uq (J (U 0) (J (bb (J (af (.ty "tuple")) (J (af (.ty "list")) aj))) aj))))) (br (av d5 (df g_ (J (U 0) (J (af (.ty "tuple")) aj))) (df g_ (J (U 1) (J (af (.ty "tuple")) aj)))))) (bg (af (.au false))) cH)
  (bV (cV (br (av d5 (df iM (J (U 0) aj)) (df iM (J (U 1) aj)))) (bg (af (.au false))) cH)
  (bV (rM [2,3] (J (U 0) (J (U 1) aj)) (CO self))
  (bg (af (.au true)))))) cH) (RN self)
def hg:Nat->bq
 |0=>λ_=>bad
 |n+1=>fnOf 2 4 (GP (hg n))
def GQ(self:bq):aI:=
  (bg (bb (J (av bB (U 0) (af (.int 0))) (J (df qd (J (gR 1 [1] (mG (av bB (U 0) (af (.int 1)))) gJ (bj self (J (U 0) (J (U 1) aj)))) aj)) aj))))
def xg(self:bq):aI:=
  bV (cV (eF (br (df g_ (J (U 0) (J (af (.ty "tuple")) aj))))) (bg (av oMod (av jr (U 0) (U 1)) (af (.int 6)))) cH) (GQ self)
def mP:Nat->bq
 |0=>λ_=>bad
 |n+1=>fnOf 2 2 (xg (mP n))
def GF:aI:=
  (bg (bb (J (bj (mP 6) (J (U 5) (J (av oMod (av ko (U 0) (af (.int 10))) (af (.int 6))) aj))) (J (bj (mP 6) (J (U 6) (J (av oMod (av ko (U 0) (af (.int 10))) (af (.int 6))) aj))) aj))))
def xf:aI:=
  bV (rP [5,6] (av bB (U 4) (av oMod (U 0) (af (.int 10))))) GF
def Rv:aI:=
  bV (cY 4 (av hj (U 4) (c8 (J (bb (J (bb (J (af (.int 2)) (J (bb (J (af (.int 0)) (J (bb (J (af (.int 1)) (J (bb (J (af (.int 1)) (J (af (.int 2)) aj))) aj))) aj))) aj))) (J (bb (J (af (.int 1)) (J (bb (J (af (.int 0)) (J (bb (J (af (.int 2)) (J (bb (J (af (.int 1)) (J (af (.int 2)) aj))) aj))) aj))) aj))) aj))) aj)))) xf
def Ru:aI:=
  bV (cY 4 (av hj (U 4) (c8 (J (bb (J (bb (J (af (.int 2)) (J (bb (J (af (.int 0)) (J (af (.int 0)) (J (af (.int 1)) (J (af (.int 2)) aj))))) aj))) (J (bb (J (af (.int 3)) (J (bb (J (af (.int 0)) (J (af (.int 0)) (J (af (.int 1)) (J (af (.int 2)) aj))))) aj))) aj))) (J (bb (J (bb (J (af (.int 2)) (J (bb (J (af (.int 0)) (J (af (.int 1)) aj))) aj))) (J (bb (J (af (.int 1)) (J (bb (J (af (.int 0)) (J (af (.int 1)) aj))) aj))) aj))) aj))))) Rv
def Rt:aI:=
  bV (cY 4 (av hj (U 4) (c8 (J (bb (J (U 2) (J (U 3) aj))) (J (bb (J (U 3) (J (U 2) aj))) (J (bb (J (bb (J (af (.int 3)) (J (bb (J (af (.int 0)) (J (af (.int 1)) (J (af (.int 2)) (J (af (.int 3)) (J (af (.int 4)) aj)))))) aj))) (J (bb (J (af (.int 3)) (J (bb (J (af (.int 4)) (J (af (.int 3)) (J (af (.int 2)) (J (af (.int 1)) (J (af (.int 0)) aj)))))) aj))) aj))) aj)))))) Ru
def Rr:aI:=
  bV (cY 4 (c8 (J (bb (J (U 1) (J (U 1) aj))) (J (bb (J (af (.int 0)) (J (af (.int 0)) aj))) (J (bb (J (bb (J (af (.int 1)) (J (bb (J (af (.int 0)) (J (af (.int 1)) (J (af (.int 2)) aj)))) aj))) (J (bb (J (af (.int 3)) (J (bb (J (af (.int 0)) (J (af (.int 1)) (J (af (.int 2)) aj)))) aj))) aj))) (J (bb (J (bb (J (af (.int 3)) (J (bb (J (af (.int 0)) (J (af (.int 1)) (J (af (.int 2)) aj)))) aj))) (J (bb (J (af (.int 1)) (J (bb (J (af (.int 0)) (J (af (.int 1)) (J (af (.int 2)) aj)))) aj))) aj))) aj)))))) Rt
def Rq:aI:=
  bV (cY 3 (bb (J (af (.int 2)) (J (bb (J (bb (J (af (.int 1)) (J (bb (J (af (.int 0)) (J (af (.int 1)) aj))) aj))) (J (bb (J (af (.int 1)) (J (bb (J (af (.int 2)) (J (af (.int 3)) aj))) aj))) aj))) aj)))) Rr
def Rp:aI:=
  bV (cY 2 (bb (J (af (.int 1)) (J (bb (J (bb (J (af (.int 2)) (J (bb (J (af (.int 0)) (J (af (.int 1)) aj))) aj))) (J (bb (J (af (.int 2)) (J (bb (J (af (.int 2)) (J (af (.int 3)) aj))) aj))) aj))) aj)))) Rq
def AK:aI:=
  bV (cY 1 (bb (J (af (.int 2)) (J (bb (J (af (.int 0)) (J (af (.int 1)) (J (af (.int 2)) aj)))) aj)))) Rp
def vm:bq:=fnOf 1 7 AK
def yH:aI:=
  (cV (br (av oEq (U 4) (U 2))) (cY 3 (av mV (U 3) (av bB (af (.str "abcdefghijklmnopqrstuvwxyz")) (av oMod (av ko (U 0) (af (.int 64))) (af (.int 26)))))) (cY 3 (av mV (U 3) (af (.str "m")))))
def GO:aI:=
  (bg (U 3))
def GN:aI:=
  bV (jd 4 (sh (J (U 1) aj)) yH) GO
def GL:aI:=
  bV (cY 3 (af (.str ""))) GN
def GK:aI:=
  bV (cY 2 (av oMod (av ko (U 0) (af (.int 8))) (U 1))) GL
def GJ:aI:=
  bV (cY 1 (av jr (af (.int 1)) (av oMod (U 0) (af (.int 8))))) GK
def yT:bq:=fnOf 1 5 GJ
def GD:aI:=
  (bg (bb (J (av bB (c8 (J (af (.str "put")) (J (af (.str "add")) (J (af (.str "add")) aj)))) (av oMod (U 0) (af (.int 3)))) (J (bj yT (J (av jr (U 1) (av Du (af (.int 64)) (av oMod (av ko (U 0) (af (.int 6))) (af (.int 3))))) aj)) (J (U 2) aj)))))
def GC:aI:=
  bV (cV (br (av oEq (av oMod (U 0) (af (.int 5))) (af (.int 0)))) (cY 2 (av n4 (af (.int 0)) (U 2))) cH) GD
def GB:aI:=
  bV (cY 2 (av oMod (av ko (U 0) (af (.int 6))) (av lG (af (.int 10)) (af (.int 40))))) GC
def vl:bq:=fnOf 2 3 GB
def RF:aI:=
  (bg (xu (U 0) (J (U 1) (J (U 2) aj)) (bb (J (bb (J (af (.int 0)) (J (af (.int 0)) aj))) (J (bb (J (af (.int 0)) (J (af (.int 0)) aj))) (J (af (.aN)) aj))))))
def yU:bq:=fnOf 3 3 RF
def Rz:bt:=
  (c2 (bg (bb (J (af (.str "late")) (J (U 4) (J (U 3) (J (U 5) (J (U 6) (J (bb (J (U 8) aj)) aj)))))))))
def Ry:bt:=
  bX (gp (hE (ky (br (av oEq (U 2) (af (.str "tell")))) (br (av (pF h7) (U 6) (U 8))))) (bX (wx (U 0) (J (U 4) (J (U 5) aj)) (dE (bb (J (U 6) (J (U 6) (J (av bB (U 7) (af (.int 3))) aj))))))
  (c2 (bg (bb (J (af (.str "kept")) (J (U 4) (J (U 3) (J (U 5) (J (U 6) (J (bb aj) aj)))))))))) (c2 cH)) Rz
def Rx:bt:=
  bX (gp (hE (ky (br (av oEq (U 2) (af (.str "ask")))) (br (av (pF gD) (U 6) (U 8))))) (bX (wx (U 0) (J (U 4) (J (U 5) aj)) (dE (bb (J (U 6) (J (U 9) (J (U 10) aj))))))
  (c2 (bg (bb (J (af (.str "grant")) (J (U 4) (J (U 3) (J (U 5) (J (U 6) (J (bb (J (U 9) (J (U 10) aj))) aj)))))))))) (c2 cH)) Ry
def Rw:bt:=
  bX (c2 (rP [8,9,10] (bj yU (J (U 0) (J (U 4) (J (U 5) aj)))))) Rx
def GG:bt:=
  bX (c2 (rP [2,3,4,5,6,7] (U 1))) Rw
def sy:eY:=fnX 2 11 GG
def Rm:aI:=
  (bg (av bB (U 3) (av oMod (U 0) (df iM (J (U 3) aj)))))
def Rl:aI:=
  bV (cY 3 (av hj (U 3) (c8 (J (bb (J (af (.str "put")) (J (av mV (AV (U 1) (p_ (af (.int 1))) xq) (af (.str "1"))) (J (af (.int 1)) aj)))) (J (bb (J (af (.str "put")) (J (af (.str "m m")) (J (af (.int 1)) aj)))) (J (U 2) (J (av n4 (af (.int 0)) (U 2)) (J (c8 (J (af (.aN)) aj)) (J (bb (J (af (.str "renew")) (J (af (.int 0)) (J (af (.int 0)) aj)))) aj))))))))) Rm
def Rk:aI:=
  bV (cY 3 (av hj (U 3) (c8 (J (bb (J (af (.str "move")) (J (bb (J (af (.int 0)) (J (af (.int 1)) aj))) aj))) (J (bb (J (af (.str "move")) (J (c8 (J (af (.int 0)) (J (af (.int 0)) aj))) aj))) (J (bb (J (af (.str "end")) (J (af (.int 1)) aj))) (J (af (.str "end")) (J (bb (J (af (.str "glance")) aj)) (J (bb (J (af (.aN)) aj)) (J (bb (J (af (.str "over")) aj)) (J (bb (J (af (.str "End")) aj)) aj))))))))))) Rl
def Rj:aI:=
  bV (cY 3 (av hj (U 3) (c8 (J (bb (J (af (.str "sure")) (J (af (.int 0)) (J (U 1) aj)))) (J (bb (J (af (.str "sure")) (J (U 1) (J (af (.int 0)) (J (af (.int 1)) aj))))) (J (bb (J (af (.str "move")) aj)) (J (bb (J (af (.str "move")) (J (af (.str "over")) aj))) (J (bb (J (af (.str "move")) (J (af (.aN)) aj))) aj)))))))) Rk
def Ri:aI:=
  bV (cY 3 (av hj (U 3) (c8 (J (bb (J (af (.str "take")) (J (av n4 (bE y9 (af (.int 1))) (U 2)) aj))) (J (bb (J (af (.str "take")) (J (af (.au true)) aj))) (J (bb (J (af (.str "take")) (J (av jr (av lG (af (.int 10)) (af (.int 60))) (U 2)) aj))) (J (bb (J (af (.str "renew")) (J (af (.str "0")) aj))) (J (bb (J (af (.str "free")) (J (af (.aN)) aj))) aj)))))))) Rj
def Rh:aI:=
  bV (cY 3 (av hj (U 3) (c8 (J (c8 (J (af (.str "put")) (J (U 1) (J (af (.int 1)) aj)))) (J (bb (J (af (.str "put")) (J (U 1) (J (af (.int 1)) (J (af (.int 1)) aj))))) (J (bb (J (af (.str "swap")) (J (U 1) (J (af (.int 1)) aj)))) (J (bb (J (af (.str "swap")) (J (U 1) (J (af (.int 1)) (J (af (.au true)) aj))))) (J (bb (J (af (.str "take")) aj)) aj)))))))) Ri
def Rg:aI:=
  bV (cY 3 (av hj (U 3) (c8 (J (bb (J (af (.str "add")) (J (U 1) (J (av n4 (av n4 (af (.int 0)) (av lG (af (.int 10)) (af (.int 60)))) (U 2)) aj)))) aj)))) Rh
def Rf:aI:=
  bV (cY 3 (av hj (U 3) (c8 (J (bb (J (af (.str "put")) (J (av mV (U 1) (af (.str "mmmmmmmm"))) (J (af (.int 1)) aj)))) (J (bb (J (af (.str "add")) (J (U 1) (J (av jr (av lG (af (.int 10)) (af (.int 60))) (U 2)) aj)))) aj))))) Rg
def Rd:aI:=
  bV (cY 3 (av hj (U 3) (c8 (J (bb (J (af (.str "put")) (J (U 1) (J (af (.aN)) aj)))) (J (bb (J (af (.str "put")) (J (U 1) (J (af (.str "1")) aj)))) (J (bb (J (af (.str "put")) (J (bE vL (U 1)) (J (af (.int 1)) aj)))) (J (bb (J (af (.str "put")) (J (af (.str "")) (J (af (.int 1)) aj)))) aj))))))) Rf
def Gx:aI:=
  bV (cY 3 (c8 (J (af (.str "put")) (J (af (.str "glance")) (J (af (.str "")) (J (af (.int 0)) (J (af (.au true)) (J (af (.au false)) (J (bb aj) (J (c8 aj) (J (bb (J (af (.str "put")) aj)) (J (bb (J (af (.str "put")) (J (U 1) aj))) (J (bb (J (af (.str "put")) (J (U 1) (J (af (.au true)) aj)))) aj))))))))))))) Rd
def C_:bq:=fnOf 3 4 Gx
def RB:aI:=
  (bg (U 2))
def RA:aI:=
  bV (rO (fk "Asker" "begin" sC (U 0) (J (U 1) aj)) [("NoDeed",kc 3 2 [true,false,false,true,false]),("Over",kc 3 2 [false,true,false,true,false]),("Busy",kc 3 2 [false,false,true,true,false])]) RB
def GH:aI:=
  bV (cY 2 (c8 aj)) RA
def vn:bq:=fnOf 2 4 GH
def RD:aI:=
  (bg (U 1))
def RC:aI:=
  bV (rO (fk "Asker" "begin" sC (U 0) (J (af .aN) aj)) [("Over",(cY 1 (af (.str "over")))),("Busy",(cY 1 (af (.str "busy"))))]) RD
def GI:aI:=
  bV (cY 1 (af (.str ""))) RC
def C':bq:=fnOf 1 2 GI
def RE:aI:=
  (bg (c8 (J (fk "Asker" "stand" vg (U 0) aj) (J (fk "Asker" "outcome" yP (U 0) aj) (J (fk "Asker" "number" C5 (U 0) aj) (J (fk "Asker" "stamp" Kp (U 0) aj) (J (fk "Asker" "place" Kn (U 0) aj) (J (fk "Asker" "knows_over" C3 (U 0) aj) aj))))))))
def sz:bq:=fnOf 1 1 RE
def CN:aI:=
  (bV (cY 8 (av oMod (av ko (U 7) (af (.int 50))) (av lG (af (.int 10)) (af (.int 40)))))
  (cV (br (av d5 (bj vn (J (U 0) (J (bj C_ (J (U 7) (J (U 6) (J (U 8) aj)))) aj))) (c8 (J (af (.au true)) (J (af (.au false)) (J (af (.au false)) (J (af (.au true)) (J (af (.au false)) aj)))))))) (bg (af (.au false))) cH))
def RM:aI:=
  (bg (bj (hg 14) (J (bj sz (J (U 0) aj)) (J (U 5) aj))))
def RL:aI:=
  bV (cV (gm (br (av d5 (bj vn (J (U 0) (J (U 3) aj))) (U 9))) (gm (br (av d5 (bj vn (J (U 0) (J (af (.aN)) aj))) (U 9))) (br (av d5 (bj C' (J (U 0) aj)) (U 4))))) (bg (af (.au false))) cH) RM
def RK:aI:=
  bV (cY 9 (c8 (J (af (.au false)) (J (av oEq (U 4) (af (.str "over"))) (J (av oEq (U 4) (af (.str "busy"))) (J (af (.au true)) (J (af (.au false)) aj))))))) RL
def RJ:aI:=
  bV (cV (br (av oEq (U 4) (af (.str "")))) (bg (bj (hg 14) (J (bj sz (J (U 0) aj)) (J (U 5) aj)))) cH) RK
def RI:aI:=
  bV (jd 7 (qu (xt (U 1) (p_ (av jr (af (.int 3)) (U 2))) (p_ (af (.int 4))))) CN) RJ
def RH:aI:=
  bV (cY 6 (av bB (U 3) (af (.int 1)))) RI
def RG:aI:=
  bV (cY 5 (bj sz (J (U 0) aj))) RH
def pw:bq:=fnOf 5 10 RG
def CM:bt:=
  (lZ 3 (ri hj (dE (U 3)) (fw "Asker" "hear" pk (U 0) (oj (kE sy (gL (J (U 1) (J (U 4) aj)))) aj))))
def Ro:bt:=
  (c2 (bg (U 3)))
def Rn:bt:=
  bX (zS 4 (Ck 2) CM) Ro
def Gy:bt:=
  bX (c2 (cY 3 (c8 aj))) Rn
def kn:eY:=fnX 3 5 Gy
def Q6:bt:=
  (kG (zR (dE (bj pw (J (U 3) (J (U 0) (J (af (.int 3)) (J (U 2) (J (af (.str "over")) aj))))))) (ts (hg 14) (oj (fw "Asker" "bell" C2 (U 3) rk) (J (c8 aj) aj)))))
def Q5:bt:=
  bX (c2 (cV (eF (br (bj (hg 14) (J (c8 (J (fk "Asker" "outcome" yP (U 3) aj) (J (fk "Asker" "knows_over" C3 (U 3) aj) aj))) (J (c8 (J (bb (J (af (.str "did")) (J (af (.int 1)) aj))) (J (af (.au true)) aj))) aj))))) (bg (af (.au false))) cH)) Q6
def Q4:bt:=
  bX (gp (wA (wB (ts (hg 14) (oj (kE kn (gL (J (U 3) (J (U 4) (J (U 6) aj))))) (J (c8 aj) aj))))) (c2 (bg (af (.au false)))) (c2 cH)) Q5
def Q3:bt:=
  bX (lZ 6 (kE kn (rj (dE (U 3)) (rj (dE (U 4)) (oj (fw "Asker" "begin" su (U 3) (gL (J (bb (J (af (.str "end")) aj)) aj))) aj))))) Q4
def Q2:bt:=
  bX (c2 (cV (gm (br (av d5 (fk "Asker" "number" C5 (U 3) aj) (af (.int 2)))) (br (av iZ (fk "Asker" "outcome" yP (U 3) aj) (af (.aN))))) (bg (af (.au false))) cH)) Q3
def Q1:bt:=
  bX (kF (kE kn (gL (J (U 3) (J (U 4) (J (U 6) aj)))))) Q2
def Q0:bt:=
  bX (lZ 6 (kE kn (rj (dE (U 3)) (rj (dE (U 4)) (oj (fw "Asker" "begin" su (U 3) (gL (J (U 2) aj))) aj))))) Q1
def Rc:bt:=
  bX (gp (z1 (wA (wB (ts (hg 14) (oj (kE kn (gL (J (U 3) (J (U 4) (J (U 6) aj))))) (J (c8 aj) aj))))) (hE (br (av d5 (fk "Asker" "stand" vg (U 3) aj) (af (.str "calm")))))) (c2 (bg (af (.au false)))) (c2 cH)) Q0
def Rb:bt:=
  bX (c2 (cV (gm (br (av d5 (fk "Asker" "stand" vg (U 3) aj) (af (.str "telling")))) (eF (br (bj pw (J (U 3) (J (U 0) (J (af (.int 2)) (J (U 2) (J (af (.str "busy")) aj))))))))) (bg (af (.au false))) cH)) Rc
def Ra:bt:=
  bX (lZ 6 (kE kn (gL (J (U 3) (J (U 4) (J (U 5) aj)))))) Rb
def Q':bt:=
  bX (c2 (cV (eF (br (bj pw (J (U 3) (J (U 0) (J (af (.int 1)) (J (U 2) (J (af (.str "busy")) aj)))))))) (bg (af (.au false))) cH)) Ra
def Q_:bt:=
  bX (lZ 5 (fw "Asker" "begin" su (U 3) (gL (J (U 2) aj)))) Q'
def Q9:bt:=
  bX (c2 (cV (eF (br (bj pw (J (U 3) (J (U 0) (J (af (.int 0)) (J (U 2) (J (af (.str "")) aj)))))))) (bg (af (.au false))) cH)) Q_
def Q8:bt:=
  bX (lZ 4 (tq (.e0 []))) Q9
def Q7:bt:=
  bX (lZ 3 (zT "Asker" C1 (gL (J (U 1) (J (bj vm (J (av oMod (bj lB (J (U 0) (J (af (.int 0)) aj))) (af (.int 600))) aj)) aj))))) Q8
def QZ:bt:=
  bX (c2 (cY 2 (bj vl (J (av oMod (av ko (bj lB (J (U 0) (J (af (.int 2)) aj))) (af (.int 512))) (av lG (af (.int 10)) (af (.int 50)))) (J (av oMod (bj lB (J (U 0) (J (af (.int 2)) aj))) (af (.int 512))) aj))))) Q7
def Gw:bt:=
  bX (c2 (cY 1 (av oMod (bj lB (J (U 0) (J (af (.int 1)) aj))) (af (.int 6))))) QZ
def C9:eY:=fnX 1 7 Gw
structure O0(P:aki)(w:World)(K:aM)(mg:a9)(base:Heap)(j:Nat):Prop where
 WK:1<=j->bT P w K mg base "is_whole" ["thing"] 1 (bL K mg pv)
 Wu:1<=j->bT P w K mg base "has_keeper" ["mask","keeper"] 1 (bL K mg pn)
 W3:1<=j->bT P w K mg base "mask_of" ["keepers"] 1 (bL K mg px)
 WL:2<=j->bT P w K mg base "keepers_of" ["mask"] 2 (bL K mg sx)
 W4:3<=j->bT P w K mg base "masks_within" ["mask"] 3 (bL K mg KH)
 Wj:1<=j->bT P w K mg base "all_alike" ["grants"] 1 (bL K mg Kq)
 Wt:2<=j->bT P w K mg base "granters" ["grants"] 2 (bL K mg nY)
 WB:2<=j->bT P w K mg base "is_keeper" ["thing"] 2 (bL K mg KD)
 WG:1<=j->bT P w K mg base "is_pair" ["thing"] 1 (bL K mg C7)
 Wx:2<=j->bT P w K mg base "is_choice" ["thing"] 2 (bL K mg KC)
 Ww:∀n,n+3<=j->bT P w K mg base "is_built" ["thing","deep"] (n+3) (bL K mg (yS n))
 W8:∀n,n+2<=j->bT P w K mg base "namings" ["rule"] (n+2) (bL K mg (n0 n))
 WI:16<=j->bT P w K mg base "is_rule" ["thing"] 16 (bL K mg C8)
 W7:15<=j->bT P w K mg base "named" ["rule"] 15 (bL K mg sA)
 Wq:∀n,n+2<=j->bT P w K mg base "fills" ["rule","mask"] (n+2) (bL K mg (iX n))
 WC:3<=j->bT P w K mg base "is_least" ["mask","filling"] 3 (bL K mg KG)
 W2:16<=j->bT P w K mg base "least_masks" ["rule"] 16 (bL K mg Dc)
 Wr:1<=j->bT P w K mg base "first_apart" ["mask","others"] 1 (bL K mg KA)
 W_:17<=j->bT P w K mg base "parting" ["asking","keeping"] 17 (bL K mg KI)
 WA:18<=j->bT P w K mg base "is_hall" ["thing"] 18 (bL K mg C6)
 W5:16<=j->bT P w K mg base "members_mask" ["hall"] 16 (bL K mg yV)
 W6:17<=j->bT P w K mg base "members_of" ["hall"] 17 (bL K mg mQ)
 WD:1<=j->bT P w K mg base "is_name" ["thing"] 1 (bL K mg pq)
 WE:2<=j->bT P w K mg base "is_number" ["thing"] 2 (bL K mg nZ)
 Wz:3<=j->bT P w K mg base "is_fence" ["thing"] 3 (bL K mg vk)
 Ws:1<=j->bT P w K mg base "form_of" ["word"] 1 (bL K mg yQ)
 WH:19<=j->bT P w K mg base "is_part" ["kind","thing"] 19 (bL K mg gE)
 Wy:20<=j->bT P w K mg base "is_deed" ["thing"] 20 (bL K mg km)
 Wl:1<=j->bT P w K mg base "blank" [] 1 (bL K mg Ks)
 W':1<=j->bT P w K mg base "shut_of" ["slate"] 1 (bL K mg lC)
 WJ:2<=j->bT P w K mg base "is_shut" ["slate"] 2 (bL K mg sv)
 Wm:1<=j->bT P w K mg base "cell_of" ["slate","name"] 1 (bL K mg vh)
 Wn:1<=j->bT P w K mg base "doing_of" ["slate","asker"] 1 (bL K mg nX)
 Xd:1<=j->bT P w K mg base "with_shut" ["slate","shut"] 1 (bL K mg KL)
 IY:5<=j->bT P w K mg base "do_put" ["slate","asker","deed"] 5 (bL K mg vj)
 IU:5<=j->bT P w K mg base "do_add" ["slate","asker","deed"] 5 (bL K mg vi)
 IV:2<=j->bT P w K mg base "do_end" ["slate","asker","deed"] 2 (bL K mg Kt)
 W9:6<=j->bT P w K mg base "outcome_of" ["slate","asker","deed"] 6 (bL K mg mR)
 Wo:7<=j->bT P w K mg base "done_on" ["slate","asker","number","deed"] 7 (bL K mg jk)
 Wk:1<=j->bT P w K mg base "ask_letter" ["asker","keeper","epoch","stamp"] 1 (bL K mg Kr)
 Xa:1<=j->bT P w K mg base "tell_letter" ["asker","keeper","epoch","stamp","load"] 1 (bL K mg KJ)
 V1:2<=j->dq P w K mg base "Asker" "__init__" ["self","me","hall"] 2 (dM K mg C1)
 V2:18<=j->dq P w K mg base "Asker" "ask_members" ["self"] 18 (dM K mg yM)
 I3:21<=j->tN P w K mg base "Asker" "begin" ["self","deed"] 21 (q4 K mg sC)
 V3:21<=j->Ab P w K mg base "Asker" "begin" ["self","deed"] 21 (dM K mg su)
 V4:19<=j->dq P w K mg base "Asker" "bell" ["self"] 19 (dM K mg C2)
 Wa:18<=j->dq P w K mg base "Asker" "is_for_now" ["self","letter"] 18 (bL K mg yO)
 Wg:15<=j->dq P w K mg base "Asker" "sees_at_once" ["self","slate"] 15 (bL K mg Ko)
 V6:1<=j->dq P w K mg base "Asker" "end_wish" ["self","outcome"] 1 (dM K mg qF)
 V7:18<=j->dq P w K mg base "Asker" "go_on" ["self","pair"] 18 (dM K mg yN)
 V_:19<=j->dq P w K mg base "Asker" "hear_grant" ["self","letter"] 19 (dM K mg vf)
 V5:3<=j->dq P w K mg base "Asker" "end_where_told" ["self"] 3 (dM K mg ve)
 Wc:2<=j->dq P w K mg base "Asker" "learn_over" ["self"] 2 (dM K mg C4)
 V':15<=j->dq P w K mg base "Asker" "hear_kept" ["self","letter"] 15 (dM K mg qG)
 V9:20<=j->dq P w K mg base "Asker" "hear" ["self","letter"] 20 (dM K mg pk)
 We:1<=j->dq P w K mg base "Asker" "outcome" ["self"] 1 (bL K mg yP)
 Wd:1<=j->dq P w K mg base "Asker" "number" ["self"] 1 (bL K mg C5)
 Wi:1<=j->dq P w K mg base "Asker" "stand" ["self"] 1 (bL K mg vg)
 Wh:1<=j->dq P w K mg base "Asker" "stamp" ["self"] 1 (bL K mg Kp)
 Wf:1<=j->dq P w K mg base "Asker" "place" ["self"] 1 (bL K mg Kn)
 Wb:1<=j->dq P w K mg base "Asker" "knows_over" ["self"] 1 (bL K mg C3)
 WO:1<=j->bT P w K mg base "_law_cell_at" ["script","k"] 1 (bL K mg lB)
 WZ:∀n,n+1<=j->bT P w K mg base "_law_same" ["found","due"] (n+1) (bL K mg (hg n))
 W0:∀n,n+1<=j->bT P w K mg base "_law_turned" ["rule","shift"] (n+1) (bL K mg (mP n))
 WR:8<=j->bT P w K mg base "_law_hall" ["cell"] 8 (bL K mg vm)
 WW:1<=j->bT P w K mg base "_law_name" ["cell"] 1 (bL K mg yT)
 WQ:2<=j->bT P w K mg base "_law_deed" ["cell","seed"] 2 (bL K mg vl)
 WX:1<=j->bT P w K mg base "_law_page" ["books","keeper","epoch"] 1 (bL K mg yU)
 WS:2<=j->bT P w K mg base "_law_heard" ["books","letter"] 2 (dM K mg sy)
 WM:1<=j->bT P w K mg base "_law_bad" ["cell","name","number"] 1 (bL K mg C_)
 WT:22<=j->bT P w K mg base "_law_kinds" ["one","deed"] 22 (bL K mg vn)
 WU:22<=j->bT P w K mg base "_law_left_out" ["one"] 22 (bL K mg C')
 WV:2<=j->bT P w K mg base "_law_look" ["one"] 2 (bL K mg sz)
 WY:23<=j->bT P w K mg base "_law_refuses" ["one","script","first","deed","word"] 23 (bL K mg pw)
 WN:21<=j->bT P w K mg base "_law_brought" ["one","books","letters"] 21 (dM K mg kn)
 DH {f:Addr}{fd:ak4}(F:j3 K "law" "law" v' f fd):24<=j->ez P w K mg base eh 24 f fd ["script"] (dM K mg C9)
theorem az(T:Txt P w K mg base):∀j,O0 P w K mg base j
 |0=>by constructor<;>intros<;>omega
 |j+1=>by
  have aZ:=az T j;refine⟨λaR=>c0 T.T3 adx rfl ?_,
   λaR=>c0 T.TM adi rfl ?_,
   λaR=>c0 T.Uh adP rfl ?_,
   λaR=>c0 T.T4 ady rfl ?_,
   λaR=>c0 T.Ui adQ rfl ?_,
   λaR=>c0 T.To ac3 rfl ?_,
   λaR=>c0 T.TL adh rfl ?_,
   λaR=>c0 T.TS ado rfl ?_,
   λaR=>c0 T.TY adt rfl ?_,
   λaR=>c0 T.TO adk rfl ?_,
   vF (λ_=>T.HJ.none (by rintro vs H Q E ⟨O,ds,r,ar,_,_,_,h,_⟩;cases h)) λn aR=>(nH (k:=n+3) T.HJ adj rfl rfl λf bc A outer s H E aD=>eX.un ?_:bT P w K mg base _ _ _ (bL K mg (fnOf 2 2 (Gq (yS n))))).mono (by omega),
   vF (λ_=>T.HM.none (by rintro vs H Q E ⟨O,ds,r,ar,_,_,_,h,_⟩;cases h)) λn aR=>(nH (k:=n+2) T.HM adU rfl rfl λf bc A outer s H E aD=>eX.un ?_:bT P w K mg base _ _ _ (bL K mg (fnOf 1 3 (xh (n0 n))))).mono (by omega),
   λaR=>c0 T.T1 adv rfl ?_,
   λaR=>c0 T.Ul adT rfl ?_,
   vF (λ_=>T.HI.none (by rintro vs H Q E ⟨O,ds,r,ar,_,_,_,h,_⟩;cases h)) λn aR=>(nH (k:=n+2) T.HI ade rfl rfl λf bc A outer s H E aD=>eX.un ?_:bT P w K mg base _ _ _ (bL K mg (fnOf 2 2 (xe (iX n))))).mono (by omega),
   λaR=>c0 T.TU adp rfl ?_,
   λaR=>c0 T.Ug adO rfl ?_,
   λaR=>c0 T.TG adf rfl ?_,
   λaR=>c0 T.Un adW rfl ?_,
   λaR=>c0 T.TR adn rfl ?_,
   λaR=>c0 T.Uj adR rfl ?_,
   λaR=>c0 T.Uk adS rfl ?_,
   λaR=>c0 T.TV adq rfl ?_,
   λaR=>c0 T.TX ads rfl ?_,
   λaR=>c0 T.TQ adm rfl ?_,
   λaR=>c0 T.TH adg rfl ?_,
   λaR=>c0 T.TZ adu rfl ?_,
   λaR=>c0 T.TP adl rfl ?_,
   λaR=>c0 T.Tq ac5 rfl ?_,
   λaR=>c0 T.Up adX rfl ?_,
   λaR=>c0 T.T2 adw rfl ?_,
   λaR=>c0 T.Tr ac6 rfl ?_,
   λaR=>c0 T.TC ada rfl ?_,
   λaR=>c0 T.Ut adZ rfl ?_,
   λaR=>c0 T.Tw ac9 rfl ?_,
   λaR=>c0 T.Ts ac7 rfl ?_,
   λaR=>c0 T.Tt ac8 rfl ?_,
   λaR=>(nH (k:=5) T.Um adV rfl rfl λf bc A outer s H E aD=>eX.un (@kD _ _ _ _ _ _ ((rh (i:=3) (gX (by kernel_rfl)) rfl (.inl rfl) (Oq T.zF rfl (hD hA ht (dR 2) gK)))) (@lX _ _ _ _ ((pZ (af0 (k:=5) (pp:=["slate","asker","deed"]) (lookup_all (by simp only[alq];exact⟨(aZ.IY (by omega)).mono (by omega),(aZ.IU (by omega)).mono (by omega),(I1 T).mono (by omega),(I2 T).mono (by omega),(IZ T).mono (by omega),(IW T).mono (by omega),(I0 T).mono (by omega),(IX T).mono (by omega),(aZ.IV (by omega)).mono (by omega),λ_ h=>nomatch h⟩)) rfl (.inl rfl) (aD.mono (by omega)) (e9 (dR 0) (e9 (dR 1) (e9 (dR 2) iA)))))))):bT P w K mg base _ _ _ (bL K mg (fnOf 3 4 xi))),
   λaR=>c0 T.TF adb rfl ?_,
   λaR=>c0 T.Tp ac4 rfl ?_,
   λaR=>c0 T.Uq adY rfl ?_,
   λaR=>(mz (k:=1) T.S4 acL rfl rfl λf bc A outer s H E aD=>?_:dq P w K mg base _ _ _ _ (dM K mg (fnX 3 3 Ar))),
   λaR=>(mz (k:=17) T.S5 acM rfl rfl λf bc A outer s H E aD=>?_:dq P w K mg base _ _ _ _ (dM K mg (fnX 1 1 FY))),
   λaR=>(VZ (k:=20) T.xy NA rfl rfl λf bc A outer s H E aD L=>?_:tN P w K mg base _ _ _ _ (q4 K mg (fnOf 2 2 Fc))),
   λaR=>(V0 (k:=20) T.xy NA rfl rfl λf bc A outer s H E aD=>?_:Ab P w K mg base _ _ _ _ (dM K mg (fnX 2 2 As))),
   λaR=>(mz (k:=18) T.S6 acN rfl rfl λf bc A outer s H E aD=>?_:dq P w K mg base _ _ _ _ (dM K mg (fnX 1 1 FZ))),
   λaR=>(o4 (k:=17) T.Tc acU rfl rfl λf bc A outer s H E aD=>eX.un ?_:dq P w K mg base _ _ _ _ (bL K mg (fnOf 2 2 F5))),
   λaR=>(o4 (k:=14) T.Ti ac0 rfl rfl λf bc A outer s H E aD=>eX.un ?_:dq P w K mg base _ _ _ _ (bL K mg (fnOf 2 2 F'))),
   λaR=>(mz (k:=0) T.S8 acP rfl rfl λf bc A outer s H E aD=>?_:dq P w K mg base _ _ _ _ (dM K mg (fnX 2 2 Au))),
   λaR=>(mz (k:=17) T.S9 acQ rfl rfl λf bc A outer s H E aD=>?_:dq P w K mg base _ _ _ _ (dM K mg (fnX 2 3 F1))),
   λaR=>(mz (k:=18) T.Ta acS rfl rfl λf bc A outer s H E aD=>?_:dq P w K mg base _ _ _ _ (dM K mg (fnX 2 2 F3))),
   λaR=>(mz (k:=2) T.S7 acO rfl rfl λf bc A outer s H E aD=>?_:dq P w K mg base _ _ _ _ (dM K mg (fnX 1 3 F0))),
   λaR=>(mz (k:=1) T.Te acW rfl rfl λf bc A outer s H E aD=>?_:dq P w K mg base _ _ _ _ (dM K mg (fnX 1 1 F7))),
   λaR=>(mz (k:=14) T.Tb acT rfl rfl λf bc A outer s H E aD=>?_:dq P w K mg base _ _ _ _ (dM K mg (fnX 2 3 Av))),
   λaR=>(mz (k:=19) T.S' acR rfl rfl λf bc A outer s H E aD=>?_:dq P w K mg base _ _ _ _ (dM K mg (fnX 2 2 F2))),
   λaR=>(o4 (k:=0) T.Tg acY rfl rfl λf bc A outer s H E aD=>eX.un ?_:dq P w K mg base _ _ _ _ (bL K mg (fnOf 1 1 F9))),
   λaR=>(o4 (k:=0) T.Tf acX rfl rfl λf bc A outer s H E aD=>eX.un ?_:dq P w K mg base _ _ _ _ (bL K mg (fnOf 1 1 F8))),
   λaR=>(o4 (k:=0) T.Tn ac2 rfl rfl λf bc A outer s H E aD=>eX.un ?_:dq P w K mg base _ _ _ _ (bL K mg (fnOf 1 1 Gb))),
   λaR=>(o4 (k:=0) T.Tj ac1 rfl rfl λf bc A outer s H E aD=>eX.un ?_:dq P w K mg base _ _ _ _ (bL K mg (fnOf 1 1 Ga))),
   λaR=>(o4 (k:=0) T.Th acZ rfl rfl λf bc A outer s H E aD=>eX.un ?_:dq P w K mg base _ _ _ _ (bL K mg (fnOf 1 1 F_))),
   λaR=>(o4 (k:=0) T.Td acV rfl rfl λf bc A outer s H E aD=>eX.un ?_:dq P w K mg base _ _ _ _ (bL K mg (fnOf 1 1 F6))),
   λaR=>c0 T.T7 adC rfl ?_,
   vF (λ_=>T.HK.none (by rintro vs H Q E ⟨O,ds,r,ar,_,_,_,h,_⟩;cases h)) λn aR=>(nH (k:=n+1) T.HK adM rfl rfl λf bc A outer s H E aD=>eX.un ?_:bT P w K mg base _ _ _ (bL K mg (fnOf 2 4 (GP (hg n))))).mono (by omega),
   vF (λ_=>T.HL.none (by rintro vs H Q E ⟨O,ds,r,ar,_,_,_,h,_⟩;cases h)) λn aR=>(nH (k:=n+1) T.HL adN rfl rfl λf bc A outer s H E aD=>eX.un ?_:bT P w K mg base _ _ _ (bL K mg (fnOf 2 2 (xg (mP n))))).mono (by omega),
   λaR=>c0 T.T9 adE rfl ?_,
   λaR=>c0 T.Uc adJ rfl ?_,
   λaR=>c0 T.T8 adD rfl ?_,
   λaR=>c0 T.Ud adK rfl ?_,
   λaR=>(IT (k:=1) T.T_ adF rfl rfl λf bc A outer s H E aD=>?_:bT P w K mg base _ _ _ (dM K mg (fnX 2 11 GG))),
   λaR=>c0 T.T5 adA rfl ?_,
   λaR=>(nH (k:=21) T.T' adG rfl rfl λf bc A outer s H E aD=>eX.un (@kD _ _ _ _ _ _ ((rh (i:=2) (gX (by kernel_rfl)) rfl (.inl rfl) (Om iA))) (@kD _ _ _ _ _ _ ((agw (aZ.I3 (by omega)) (aD.mono (by omega)) (dR 0) (e9 (dR 1) iA) rfl ⟨rfl,rfl⟩ (u_ (λC lA=>by obtain⟨_,ec,⟨_,m0,x0⟩,Z,⟨_,_,pC,nr⟩,⟨_,_,e7,a1⟩,⟨_,_,dG,a2⟩,⟨_,_,qI,eu⟩,⟨_,_,_,_,_,_,_,_,_,_,_,_,_,_,_,_,vv,vw,vx,vy,vz,vA,vB,vC,gg⟩⟩:=T.E9;cases lA.symm.trans ec;exact(ET m0 x0 (by exact rfl) (gX (by kernel_rfl)) (by exact rfl) (by exact rfl) (by decide) (by show 2<4;omega) (λa cL=>(EX (by decide) (gX (by kernel_rfl)) (by exact rfl) (akO (by exact rfl)) (i5 (kC Z pC nr T.B.isinstance (by exact rfl) (by exact rfl) (akO (by exact rfl)) (by exact rfl)) (i5 (kC Z e7 a1 T.B.isinstance (by exact rfl) (by exact rfl) (akO (by exact rfl)) (by exact rfl)) (i5 (kC Z dG a2 T.B.isinstance (by exact rfl) (by exact rfl) (akO (by exact rfl)) (by exact rfl)) (i5 (kC Z qI eu T.B.isinstance (by exact rfl) (by exact rfl) (akO (by exact rfl)) (by exact rfl)) tp)))) (EY (by decide) (gX (by kernel_rfl)) (by exact rfl) (akO (by exact rfl)) (akO (by exact rfl)) (i5 (EW Z (f9 (by exact rfl) vv (f9 (by exact rfl) vw (f9 (by exact rfl) vx (f9 (by exact rfl) vy (f9 (by exact rfl) vz (f9 (by exact rfl) vA (f9 (by exact rfl) vB (f9 (by exact rfl) vC E0)))))))) gg (by simp) T.B.isinstance (by exact rfl) (by exact rfl) (akO (by exact rfl))) tp) EZ (by simp)) (by simp))))) (u_ (λC lA=>by obtain⟨_,ec,⟨_,m0,x0⟩,Z,⟨_,_,pC,nr⟩,⟨_,_,e7,a1⟩,⟨_,_,dG,a2⟩,⟨_,_,qI,eu⟩,⟨_,_,_,_,_,_,_,_,_,_,_,_,_,_,_,_,vv,vw,vx,vy,vz,vA,vB,vC,gg⟩⟩:=T.E_;cases lA.symm.trans ec;exact(ET m0 x0 (by exact rfl) (gX (by kernel_rfl)) (by exact rfl) (by exact rfl) (by decide) (by show 2<4;omega) (λa cL=>(EX (by decide) (gX (by kernel_rfl)) (by exact rfl) (akO (by exact rfl)) (i5 (kC Z pC nr T.B.isinstance (by exact rfl) (by exact rfl) (akO (by exact rfl)) (by exact rfl)) (i5 (kC Z e7 a1 T.B.isinstance (by exact rfl) (by exact rfl) (akO (by exact rfl)) (by exact rfl)) (i5 (kC Z dG a2 T.B.isinstance (by exact rfl) (by exact rfl) (akO (by exact rfl)) (by exact rfl)) (i5 (kC Z qI eu T.B.isinstance (by exact rfl) (by exact rfl) (akO (by exact rfl)) (by exact rfl)) tp)))) (EY (by decide) (gX (by kernel_rfl)) (by exact rfl) (akO (by exact rfl)) (akO (by exact rfl)) (i5 (EW Z (f9 (by exact rfl) vv (f9 (by exact rfl) vw (f9 (by exact rfl) vx (f9 (by exact rfl) vy (f9 (by exact rfl) vz (f9 (by exact rfl) vA (f9 (by exact rfl) vB (f9 (by exact rfl) vC E0)))))))) gg (by simp) T.B.isinstance (by exact rfl) (by exact rfl) (akO (by exact rfl))) tp) EZ (by simp)) (by simp))))) (u_ (λC lA=>by obtain⟨_,ec,⟨_,m0,x0⟩,Z,⟨_,_,pC,nr⟩,⟨_,_,e7,a1⟩,⟨_,_,dG,a2⟩,⟨_,_,qI,eu⟩,⟨_,_,_,_,_,_,_,_,_,_,_,_,_,_,_,_,vv,vw,vx,vy,vz,vA,vB,vC,gg⟩⟩:=T.E8;cases lA.symm.trans ec;exact(ET m0 x0 (by exact rfl) (gX (by kernel_rfl)) (by exact rfl) (by exact rfl) (by decide) (by show 2<4;omega) (λa cL=>(EX (by decide) (gX (by kernel_rfl)) (by exact rfl) (akO (by exact rfl)) (i5 (kC Z pC nr T.B.isinstance (by exact rfl) (by exact rfl) (akO (by exact rfl)) (by exact rfl)) (i5 (kC Z e7 a1 T.B.isinstance (by exact rfl) (by exact rfl) (akO (by exact rfl)) (by exact rfl)) (i5 (kC Z dG a2 T.B.isinstance (by exact rfl) (by exact rfl) (akO (by exact rfl)) (by exact rfl)) (i5 (kC Z qI eu T.B.isinstance (by exact rfl) (by exact rfl) (akO (by exact rfl)) (by exact rfl)) tp)))) (EY (by decide) (gX (by kernel_rfl)) (by exact rfl) (akO (by exact rfl)) (akO (by exact rfl)) (i5 (EW Z (f9 (by exact rfl) vv (f9 (by exact rfl) vw (f9 (by exact rfl) vx (f9 (by exact rfl) vy (f9 (by exact rfl) vz (f9 (by exact rfl) vA (f9 (by exact rfl) vB (f9 (by exact rfl) vC E0)))))))) gg (by simp) T.B.isinstance (by exact rfl) (by exact rfl) (akO (by exact rfl))) tp) EZ (by simp)) (by simp))))) J4))))) (@lX _ _ _ _ ((pZ (dR 2)))))):bT P w K mg base _ _ _ (bL K mg (fnOf 2 4 GH))),
   λaR=>(nH (k:=21) T.Ua adH rfl rfl λf bc A outer s H E aD=>eX.un (@kD _ _ _ _ _ _ ((rh (i:=1) (gX (by kernel_rfl)) rfl (.inl rfl) wu)) (@kD _ _ _ _ _ _ ((agx (aZ.I3 (by omega)) (aD.mono (by omega)) (dR 0) rfl ⟨rfl,rfl⟩ (u_ (λC lA=>by obtain⟨_,ec,⟨_,m0,x0⟩⟩:=T.Fb;cases lA.symm.trans ec;exact(Ot m0 x0 (by exact rfl) (λa cL=>(lX (rh (i:=1) (gX (by kernel_rfl)) rfl (.inl rfl) wu)).un))) (u_ (λC lA=>by obtain⟨_,ec,⟨_,m0,x0⟩,⟨_,yK,jx⟩⟩:=T.E';cases lA.symm.trans ec;exact(agm m0 x0 (by exact rfl) (Ot yK jx (by exact rfl) (λa cL=>(lX (rh (i:=1) (gX (by kernel_rfl)) rfl (.inl rfl) wu)).un)))) J4)))) (@lX _ _ _ _ ((pZ (dR 1)))))):bT P w K mg base _ _ _ (bL K mg (fnOf 1 2 GI))),
   λaR=>c0 T.Ub adI rfl ?_,
   λaR=>c0 T.Ue adL rfl ?_,
   λaR=>(IT (k:=20) T.T6 adB rfl rfl λf bc A outer s H E aD=>?_:bT P w K mg base _ _ _ (dM K mg (fnX 3 5 Gy))),
   λF aR=>(Bx (k:=23) F adz rfl rfl λbc A outer s H E aD=>?_:ez P w K mg base eh _ _ _ _ (dM K mg (fnX 1 7 Gw)))⟩
  all_goals try intro f bc A outer s H E aD
  all_goals repeat' first
   |((with_reducible show a5 _ _ _);first
    |(with_reducible show a5 _ _ (U _));exact dR _
    |(with_reducible show a5 _ (.BoolOp _ [_] _) _);refine agb ?_
    |(with_reducible show a5 _ _ (av bB _ _));refine hD hA ht ?_ ?_ (λ_ _=>rfl)
    |(with_reducible show a5 _ _ (bb _));refine pX ?_
    |(with_reducible show a5 _ _ (bj _ aj));refine' afZ ?_ ?_ rfl
    |(with_reducible show a5 _ _ (bj _ _));refine' afY ?_ ?_ rfl ?_
    |(with_reducible show a5 _ _ (af (.int _)));first|exact gK|exact lV (sV rfl T.BG) λ_ _=>rfl|exact lV (sV rfl T.BE) λ_ _=>rfl|exact lV (sV rfl T.BF) λ_ _=>rfl|exact lV (sV rfl T.BH) λ_ _=>rfl|exact lV (sV rfl T.BI) λ_ _=>rfl
    |(with_reducible show a5 _ _ (af .aN));exact af9
    |(with_reducible show a5 _ _ (af (.au _)));exact afX
    |(with_reducible show a5 _ _ (af (.ty "tuple")));exact lV (sU (v:=.ty "tuple") rfl T.B.tuple' xn rfl) λ_ _=>rfl
    |(with_reducible show a5 _ _ (af (.ty "bool")));exact lV (sU (v:=.ty "bool") rfl T.B.R9 Sd rfl) λ_ _=>rfl
    |(with_reducible show a5 _ _ (af (.ty "str")));exact lV (sU (v:=.ty "str") rfl T.B.ael Sj rfl) λ_ _=>rfl
    |(with_reducible show a5 _ _ (af (.ty "int")));exact lV (sU (v:=.ty "int") rfl T.B.Ys Se rfl) λ_ _=>rfl
    |(with_reducible show a5 _ _ (af (.ty "list")));exact lV (sU (v:=.ty "list") rfl T.B.ZI Sf rfl) λ_ _=>rfl
    |(with_reducible show a5 _ _ (af (.str _)));first|exact wu|exact lV (sV rfl T.BJ) λ_ _=>rfl
    |(with_reducible show a5 _ _ (av jr _ _));refine kB aaN PG ?_ ?_
    |(with_reducible show a5 _ _ (av oMod _ _));refine kB aaT PM ?_ ?_
    |(with_reducible show a5 _ _ (av ko _ _));refine kB aaQ PK ?_ ?_
    |(with_reducible show a5 _ _ (av hj _ _));refine kB DL FP ?_ ?_
    |(with_reducible show a5 _ _ (av mV _ _));refine kB aaO PJ ?_ ?_
    |(with_reducible show a5 _ _ (av lG _ _));refine kB aaW PO ?_ ?_
    |(with_reducible show a5 _ _ (av n4 _ _));refine kB aaZ PS ?_ ?_
    |(with_reducible show a5 _ _ (av Du _ _));refine kB aaU PN ?_ ?_
    |(with_reducible show a5 _ _ (av y8 _ _));refine kB aaP PH ?_ ?_
    |(with_reducible show a5 _ _ (av sJ _ _));refine kB aaV PI ?_ ?_
    |(with_reducible show a5 _ _ (av Dv _ _));refine kB aaX PQ ?_ ?_
    |(with_reducible show a5 _ _ (av Dw _ _));refine kB aaY PR ?_ ?_
    |(with_reducible show a5 _ _ (av oEq _ _));refine oi (DM aD.units) Aq ?_ ?_ (h8 _)
    |(with_reducible show a5 _ _ (av iZ _ _));refine oi Lk FV ?_ ?_ (h8 _)
    |(with_reducible show a5 _ _ (av i0 _ _));refine oi Lm FX ?_ ?_ (h8 _)
    |(with_reducible show a5 _ _ (av sL _ _));refine oi Lh FR ?_ ?_ (h8 _)
    |(with_reducible show a5 _ _ (av oLt _ _));refine oi Ll FW ?_ ?_ (h8 _)
    |(with_reducible show a5 _ _ (av (pG false) _ _));refine oi Li (FT false) ?_ ?_ rfl
    |(with_reducible show a5 _ _ (av (qN false) _ _));refine oi Lj FU ?_ ?_ rfl
    |(with_reducible show a5 _ _ (df iM _));refine pW Ss YW rfl T.B.len Hk ?_
    |(with_reducible show a5 _ _ (df g_ _));refine pW (Sq T.kt) YU rfl T.B.isinstance xm ?_
    |(with_reducible show a5 _ _ (df uq _));refine pW (Sr T.kt) YV rfl T.B.isinstance xm ?_
    |(with_reducible show a5 _ _ (df oZ _));refine pW (Sm rfl) YS rfl T.B.all Sa ?_
    |(with_reducible show a5 _ _ (df (xI _) _));refine pW (Sv rfl) YQ rfl T.B.max Sg ?_
    |(with_reducible show a5 _ _ (df um _));refine pW Sl YR rfl T.B.abs R' ?_
    |(with_reducible show a5 _ _ (df ur _));refine pW Su YX rfl T.B.len Hk ?_
    |(with_reducible show a5 _ _ (df qd _));refine ER A0 Cs rfl T.B.tuple' xn ?_
    |(with_reducible show a5 _ _ (c8 _));refine Om ?_
    |(with_reducible show a5 _ _ (jc _ _));refine afU ?_ ?_
    |(with_reducible show a5 _ _ (t9 _));refine aga ?_
    |(with_reducible show a5 _ _ (bE oBits _));refine afW ?_
    |(with_reducible show a5 _ _ (gR _ _ _ _ _));refine af2 (A8 (xs:=[_]) (by kernel_rfl)) (by decide) ?_ rfl (λ_ _ _ _=>⟨akO rfl,rfl⟩) (λ_ _ _ _=>?_) (λ_ _ _ _=>?_) (he:=rfl) (hN:=rfl)
    |(with_reducible show a5 _ _ (t7 _ _ _ _));refine af3 (A8 (xs:=[_,_]) (by kernel_rfl)) rfl T.B.zip ?_ rfl rfl (λ_ _ _ _=>⟨akO rfl,rfl⟩) (λ_ _ _ _=>⟨akO rfl,rfl⟩) (λ_ _ _ _=>?_) (λ_ _ _ _=>?_) (he:=rfl) (hN:=rfl)
    |(with_reducible show a5 _ _ (AW _ _ _));refine agd ?_ ?_ ?_
    |(with_reducible show a5 _ _ (AX _ _));refine Oq T.zF rfl ?_
    |(with_reducible show a5 _ _ (AY _ _));refine agf T.Ct rfl ?_
    |(with_reducible show a5 _ _ (xu _ _ _));refine agg aD.units ?_ ?_ ?_
    |(with_reducible show a5 _ _ (av d5 _ _));refine oi (vQ aD.units) t2 ?_ ?_ (h8 _)
    |(with_reducible show a5 _ _ (bE y9 _));refine af8 ?_
    |(with_reducible show a5 _ _ (bE (cm _ _) _));refine afV T.nt (by simp[y6]) ?_
    |(with_reducible show a5 _ _ (kd _));refine af4 ?_
    |(with_reducible show a5 _ _ (fk _ _ _ _ aj));refine' af7 ?_ ?_ ?_
    |(with_reducible show a5 _ _ (fk _ _ _ _ _));refine' af6 ?_ ?_ ?_ ?_
    |(with_reducible show a5 _ _ (hZ _ _ _ _ _));refine af1 sP rI sP rI ?_ ?_ ?_
    |(with_reducible show a5 _ _ (av oLe _ _));refine oi sP rI ?_ ?_ (h8 _)
    |(with_reducible show a5 _ _ (df uo _));refine pW (Sn rfl) YT rfl T.B.any Sb ?_
    |(with_reducible show a5 _ _ (xt _ _ _));refine age ?_ ?_ ?_
    |(with_reducible show a5 _ _ (bE vL _));refine agh ?_
    |(with_reducible show a5 _ _ (AV _ _ _));refine agc ?_ ?_ ?_)
   |((with_reducible show fQ _ _ _);first
    |(with_reducible show fQ _ _ (aj));exact iA
    |(with_reducible show fQ _ _ (J _ _));refine e9 ?_ ?_)
   |((with_reducible show e4 _ _ _);first
    |(show e4 _ _ (bg _));refine pZ ?_
    |(show e4 _ _ (cY _ _));refine rh (gX (by kernel_rfl)) rfl (by first|exact akO rfl|exact akP rfl|exact akP (.inl rfl)|exact akP (akP rfl)) ?_
    |(show e4 _ _ (cV _ _ _));refine E2 ?_ ?_ ?_
    |(show e4 _ _ (oR _ (gR _ _ _ _ _)));refine E1 (A8 (xs:=[_]) (by kernel_rfl)) (gX (by kernel_rfl)) rfl rfl (by decide) ?_ rfl (λ_ _ _ _=>⟨akO rfl,rfl⟩) (λ_ _ _ _=>?_) (λ_ _ _ _=>?_) (he:=rfl) (hN:=rfl)
    |(show e4 _ _ (oR _ _));refine agu (gX (by kernel_rfl)) rfl (by first|exact akO rfl|exact akP rfl|exact akP (.inl rfl)|exact akP (akP rfl)) ?_
    |(show e4 _ _ (jd _ _ _));refine agr aoZ rfl ?_ (gX (by kernel_rfl)) rfl (by first|exact akO rfl|exact akP rfl|exact akP (.inl rfl)|exact akP (akP rfl)) ?_
    |(show e4 _ _ (rM _ _ _));refine ags aoZ rfl rfl T.B.zip ?_ ?_ ?_
    |(show e4 _ _ (rP _ _));refine agy rfl ?_ ?_
    |(show e4 _ _ (rN _ m7 _));refine zQ amn amo vu yL ?_ rfl (by first|exact akO rfl|exact akP rfl|exact akP (.inl rfl)|exact akP (akP rfl))
    |(show e4 _ _ (rN _ wo _));refine zQ PySem.F.slot_list_extend PySem.F.type_list_extend Z' ZT ?_ rfl (by first|exact akO rfl|exact akP rfl|exact akP (.inl rfl)|exact akP (akP rfl))
    |(show e4 _ _ (xr _));exact agv _
    |(show e4 _ _ (t8));exact agt)
   |((with_reducible show e5 _ _ _);first
    |(with_reducible show e5 _ _ (br (av oEq _ _)));refine i6 (DM aD.units) Aq ?_ ?_ (h8 _)
    |(with_reducible show e5 _ _ (br (av d5 _ _)));refine i6 (vQ aD.units) t2 ?_ ?_ (h8 _)
    |(with_reducible show e5 _ _ (br (av iZ _ _)));refine i6 Lk FV ?_ ?_ (h8 _)
    |(with_reducible show e5 _ _ (br (av i0 _ _)));refine i6 Lm FX ?_ ?_ (h8 _)
    |(with_reducible show e5 _ _ (br (av sL _ _)));refine i6 Lh FR ?_ ?_ (h8 _)
    |(with_reducible show e5 _ _ (br (av oLt _ _)));refine i6 Ll FW ?_ ?_ (h8 _)
    |(with_reducible show e5 _ _ (br (av oLe _ _)));refine i6 sP rI ?_ ?_ (h8 _)
    |(with_reducible show e5 _ _ (br (av (pF gD) _ _)));refine i6 (aaS aD.units) FQ ?_ ?_ (h8 _)
    |(with_reducible show e5 _ _ (br (av (pF h7) _ _)));refine i6 (aaR aD.units) FQ ?_ ?_ (h8 _)
    |(with_reducible show e5 _ _ (br (av (pG false) _ _)));refine i6 Li (FT false) ?_ ?_ rfl
    |(with_reducible show e5 _ _ (br (av (qN false) _ _)));refine i6 Lj FU ?_ ?_ rfl
    |(with_reducible show e5 _ _ (br (hZ _ _ _ _ _)));refine agz sP rI sP rI ?_ ?_ ?_
    |(with_reducible show e5 _ _ (br _));refine agB ?_
    |(with_reducible show e5 _ _ (eF _));refine agA ?_
    |refine j_.cb ?_)
   |((with_reducible show j_ _ _ _);first
    |(with_reducible show j_ _ _ (gm _ _));refine agE ?_ ?_
    |(with_reducible show j_ _ _ (ky _ _));refine agC ?_ ?_
    |first|refine agF ?_|refine agD ?_)
   |((with_reducible show d0 _ _ _);first
    |(with_reducible show d0 _ _ (dE _));refine ag8 ?_
    |(with_reducible show d0 _ (.BoolOp _ [_] _) _);refine ag9 ?_
    |(with_reducible show d0 _ _ (zR _ _));refine ag1 ?_ ?_
    |(with_reducible show d0 _ _ (ri hj _ _));refine aha DL FP ?_ ?_
    |(with_reducible show d0 _ _ (ts _ _));refine' ahb ?_ ?_ rfl ?_
    |(with_reducible show d0 _ _ (tr _));refine ag7 ?_
    |(with_reducible show d0 _ _ (fw _ _ _ _ rk));refine' ag6 ?_ ?_ ?_
    |(with_reducible show d0 _ _ (fw _ _ _ _ _));refine' ag5 ?_ ?_ ?_ ?_
    |(with_reducible show d0 _ _ (kE _ _));refine' ag2 ?_ ?_ rfl ?_
    |(with_reducible show d0 _ _ (zT _ _ _));refine' ag4 T.nt ?_ ?_ rfl ?_
    |(with_reducible show d0 _ _ (tq _));exact ag3)
   |((with_reducible show jD _ _ _);first
    |(with_reducible show jD _ _ (hE _));refine ahp ?_
    |(with_reducible show jD _ _ (wB _));refine ahq ?_
    |(with_reducible show jD _ _ (wA _));refine aho ?_
    |(with_reducible show jD _ _ (z1 _ _));refine rG.t (ahr ?_ (ahs ?_)))
   |((with_reducible show j' _ _ _);first
    |(with_reducible show j' _ _ (gL _));refine ag0 ?_
    |(with_reducible show j' _ _ (rj _ _));refine agY ?_ ?_
    |(with_reducible show j' _ _ (oj _ _));refine agZ ?_ ?_)
   |((with_reducible show gx _ _ _);first
    |(show gx _ _ (c2 _));refine ahj ?_
    |(show gx _ _ (lZ _ _));refine ahl (gX (by kernel_rfl)) rfl (by first|exact akO rfl|exact akP rfl|exact akP (.inl rfl)|exact akP (akP rfl)) ?_
    |(show gx _ _ (gp _ _ _));refine ahh ?_ ?_ ?_
    |(show gx _ _ (kG _));refine ahk ?_
    |(show gx _ _ (kF _));refine ahe ?_
    |(show gx _ _ (ek _ _ _ _));refine ahd T.nt (by simp[y6]) ?_ ?_
    |(show gx _ _ (wx _ _ _));refine ahf aD.units ?_ ?_ ?_
    |(show gx _ _ (wy m7 _ _));refine ahi amn amo vu yL ?_ ?_
    |(show gx _ _ (zS _ _ _));refine ahg aoZ rfl ?_ (gX (by kernel_rfl)) rfl (by first|exact akO rfl|exact akP rfl|exact akP (.inl rfl)|exact akP (akP rfl)) ?_)
   |((with_reducible show eX _ _ _);first|exact E3|refine lX ?_|refine kD ?_ ?_)
   |((with_reducible show i' _ _ _);first|((show i' _ _ (bX _ _));refine ahm ?_ ?_)|((with_reducible show i' _ [] _);refine OL ?_)|refine ahn ?_|refine OL ?_)
   |((with_reducible show rE _ _ _);first|exact agl|refine ES ?_)
   |((with_reducible show tW _ _ _ _);first|exact agG|refine agH (by first|exact T.E5|exact T.E6|exact T.E4) rfl rfl L ?_ (e9 wu iA) ?_)
   |((with_reducible show cg _ _);exact aD.mono (by omega))
   |((with_reducible show bT _ _ _ _ _ _ _ _ _);first|exact(aZ.WK (by omega))|exact(aZ.Wu (by omega))|exact(aZ.W3 (by omega))|exact(aZ.WL (by omega))|exact(aZ.W4 (by omega))|exact Wv T|exact(aZ.Wj (by omega))|exact(aZ.Wt (by omega))|exact(aZ.WB (by omega))|exact(aZ.WG (by omega))|exact(aZ.Wx (by omega))|exact aZ.Ww _ (by omega)|exact aZ.W8 _ (by omega)|exact(aZ.WI (by omega))|exact(aZ.W7 (by omega))|exact aZ.Wq _ (by omega)|exact(aZ.WC (by omega))|exact(aZ.W2 (by omega))|exact(aZ.Wr (by omega))|exact(aZ.W_ (by omega))|exact(aZ.WA (by omega))|exact(aZ.W5 (by omega))|exact(aZ.W6 (by omega))|exact(aZ.WD (by omega))|exact(aZ.WE (by omega))|exact(aZ.Wz (by omega))|exact(aZ.Ws (by omega))|exact(aZ.WH (by omega))|exact(aZ.Wy (by omega))|exact(aZ.Wl (by omega))|exact(aZ.W' (by omega))|exact(aZ.WJ (by omega))|exact(aZ.Wm (by omega))|exact Xb T|exact(aZ.Wn (by omega))|exact Xc T|exact(aZ.Xd (by omega))|exact(aZ.IY (by omega))|exact(aZ.IU (by omega))|exact I1 T|exact I2 T|exact IZ T|exact IW T|exact I0 T|exact IX T|exact(aZ.IV (by omega))|exact(aZ.W9 (by omega))|exact(aZ.Wo (by omega))|exact(aZ.Wk (by omega))|exact(aZ.Xa (by omega))|exact(aZ.WO (by omega))|exact aZ.WZ _ (by omega)|exact aZ.W0 _ (by omega)|exact(aZ.WR (by omega))|exact(aZ.WW (by omega))|exact(aZ.WQ (by omega))|exact(aZ.WX (by omega))|exact(aZ.WS (by omega))|exact(aZ.WM (by omega))|exact(aZ.WT (by omega))|exact(aZ.WU (by omega))|exact(aZ.WV (by omega))|exact(aZ.WY (by omega))|exact(aZ.WN (by omega)))
   |((with_reducible show dq _ _ _ _ _ _ _ _ _ _);first|exact(aZ.V1 (by omega))|exact(aZ.V2 (by omega))|exact(aZ.V3 (by omega)).all|exact(aZ.V4 (by omega))|exact(aZ.Wa (by omega))|exact(aZ.Wg (by omega))|exact(aZ.V6 (by omega))|exact(aZ.V7 (by omega))|exact(aZ.V_ (by omega))|exact(aZ.V5 (by omega))|exact(aZ.Wc (by omega))|exact V8 T|exact(aZ.V' (by omega))|exact(aZ.V9 (by omega))|exact(aZ.We (by omega))|exact(aZ.Wd (by omega))|exact(aZ.Wi (by omega))|exact(aZ.Wh (by omega))|exact(aZ.Wf (by omega))|exact(aZ.Wb (by omega)))
   |(first|exact LD|refine DU (gX (by kernel_rfl)) rfl (by first|exact akO rfl|exact akP rfl|exact akP (.inl rfl)|exact akP (akP rfl)) ?_|refine afO ?_|refine EP ?_|refine afP rfl T.B.range ?_|refine afQ ?_|refine agi ?_|refine agk ?_|refine agj rfl T.B.range ?_|exact ahc|exact ago|refine agp ?_)
def DH(T:Txt P w K mg base)(F:j3 K "law" "law" v' f fd):ez P w K mg base eh 24 f fd ["script"] (dM K mg C9):=(az T 24).DH F (aj8 _)
end
end en
set_option maxHeartbeats 1000000
namespace aE
open PySem PySem.Spec ax
@[simp] theorem ail{x y:R}:hj x y=match x.own,y.own with
 |some xs,some ys=>if xs.length+ys.length<=aj6 then pure (.fr (xs++ys))else bad|_,_=>bad:=rfl
@[simp] theorem ajL{i j:Int}(ae:0<j)(ag:j<10 ^ 200):ow i j:=UB ae ag
def FL{α:Type}{xs:List α}{i:Int}{v:α}(h:eK xs i=some v):v∈xs:=by
 obtain⟨j,_,e,_⟩:=xc h;exact akQ e
def FN{α:Type}{xs:List α}{i:Int}(h0:0<=i)(ae:i<xs.length):∃v,eK xs i=some v:=by
 have hl:i.toNat<xs.length:=by omega
 refine⟨xs[i.toNat],?_⟩;have:=oP (xs:=xs) i.toNat (v:=xs[i.toNat]) (by simp[hl])
 rwa[Int.toNat_of_nonneg h0]at this
end aE
namespace iG
inductive a4 where
 |kp (k:Nat)
 |ch (k:Nat) (ps:List a4)
mutual
def a4.names:a4->List Nat
 |.kp k=>[k]
 |.ch _ ps=>a4.e1 ps
def a4.e1:List a4->List Nat
 |[]=>[]
 |r::rs=>r.names++a4.e1 rs
end
mutual
def a4.deep:a4->Nat
 |.kp _=>0|.ch _ ps=>a4.kU ps+1
def a4.kU:List a4->Nat
 |[]=>0|r::rs=>max r.deep (a4.kU rs)
end
mutual
def a4.wf:a4->Prop
 |.kp k=>k<6|.ch k ps=>1<=k/\k<=ps.length/\ps.length<=6/\a4.iB ps
def a4.iB:List a4->Prop
 |[]=>True|r::rs=>r.wf/\a4.iB rs
end
mutual
def a4.fills(p:Nat->Bool):a4->Bool
 |.kp k=>p k|.ch k ps=>decide (k<=a4.cnt p ps)
def a4.cnt(p:Nat->Bool):List a4->Nat
 |[]=>0|r::rs=>(if r.fills p then 1 else 0)+a4.cnt p rs
end
theorem zO:∀{ps:List a4},a4.iB ps↔∀r∈ps,r.wf
 |[]=>by simp[a4.iB]| r::rs=>by simp[a4.iB,zO]
theorem uc:∀{ps:List a4}{n:Nat},a4.kU ps<n->∀r∈ps,r.deep<n
 |r::rs,n,h,x,ai=>by
  simp only[a4.kU]at h;rcases aj5.mp ai with rfl|ai
  .omega
  .exact uc (ps:=rs) (by omega) x ai
theorem A5(p:Nat->Bool):∀ps:List a4,(ps.filter (a4.fills p)).length=a4.cnt p ps
 |[]=>rfl|r::rs=>by
  rw[List.filter_cons];simp only[a4.cnt]
  cases h:r.fills p with
  |true=>simp[A5 p rs];omega|false=>simp[A5 p rs]
mutual
theorem qJ:∀r:a4,r.wf->∀k∈r.names,k<6
 |.kp k,h,x,ai=>by simp only[a4.names,akE]at ai;simp only[a4.wf]at h;omega| .ch k ps,h,x,ai=>by simp only[a4.wf]at h;exact KZ ps h.2.2.2 x (by simpa only[a4.names]using ai)
theorem KZ:∀ps:List a4,a4.iB ps->∀k∈a4.e1 ps,k<6
 |[],_,x,ai=>by simp[a4.e1]at ai|r::rs,h,x,ai=>by
  simp only[a4.iB]at h;simp only[a4.e1,alb]at ai;rcases ai with ai|ai
  .exact qJ r h.1 x ai
  .exact KZ rs h.2 x ai
end
theorem Dj:∀ps gH:List a4,a4.e1 (ps++gH)=a4.e1 ps++a4.e1 gH
 |[],_=>rfl|r::rs,gH=>by
  show r.names++a4.e1 (rs++gH)=(r.names++a4.e1 rs)++a4.e1 gH;rw[Dj rs gH,amC]
end iG
namespace aE
open PySem PySem.Spec ax iG
mutual
def enc:a4->D
 |.kp k=>.int (k:Nat)|.ch k ps=>.tup [.int (k:Nat),.tup (encL ps)]
def encL:List a4->List D
 |[]=>[]
 |r::rs=>enc r::encL rs
end
theorem HZ:∀ps:List a4,encL ps=ps.map enc
 |[]=>rfl| r::rs=>by rw[akb,<-HZ rs];rfl
def rY(k:Nat)(ps:List a4):enc (.ch k ps)=.tup [.int (k:Nat),.tup (ps.map enc)]:=by rw[<-HZ];rfl
def uj(k:Nat):enc (.kp k)=.int (k:Nat):=rfl
@[simp] theorem Ei(r:a4):c9 (enc r)=.v (enc r):=by cases r<;>rfl
def HH{α:Type}(xs:List α)(k:Nat):cutD xs (some (k:Int)) none=xs.drop k:=by
 unfold cutD;rw[da.acB,da.acC]
 by_cases h:k<=xs.length
 .rw[Nat.min_eq_left h]
  exact amA (by rw[akY];omega)
 .rw[Nat.min_eq_right (by omega),ao5 (aj8 _),ao5 (by omega),apg]
end aE
namespace gO
def eM(m k:Nat):Bool:=m / 2 ^ k % 2==1
def yz(m:Nat):List Nat:=(akU (if m==0 then 0 else m.log2+1)).filter (eM m)
def rH(b:Bool)(n:Nat):Nat:=if b then n else 0
def sE(gh b3 bY fa g9 hY:Bool):Nat:=rH gh 1+rH b3 2+rH bY 4+rH fa 8+rH g9 16+rH hY 32
def mS(p:Nat->Bool):Nat:=sE (p 0) (p 1) (p 2) (p 3) (p 4) (p 5)
def Z9(p:Nat->Bool)(k:Nat)(aB:k<6):mS p ||| 2 ^ k=mS λj=>p j||j==k:=by
 have all:∀gh b3 bY fa g9 hY:Bool,∀k:Fin 6,sE gh b3 bY fa g9 hY ||| 2 ^ k.val=sE (gh||0==k.val) (b3||1==k.val) (bY||2==k.val) (fa||3==k.val) (g9||4==k.val) (hY||5==k.val):=by decide +kernel
 exact all (p 0) (p 1) (p 2) (p 3) (p 4) (p 5) ⟨k,aB⟩
def KX(p:Nat->Bool)(k:Nat)(aB:k<6):(mS p / 2 ^ k % 2==1)=p k:=by
 have all:∀gh b3 bY fa g9 hY:Bool,∀k:Fin 6,(sE gh b3 bY fa g9 hY / 2 ^ k.val % 2==1)=[gh,b3,bY,fa,g9,hY].getD k.val false:=by decide +kernel
 have e:=all (p 0) (p 1) (p 2) (p 3) (p 4) (p 5) ⟨k,aB⟩;rw[show mS p=sE (p 0) (p 1) (p 2) (p 3) (p 4) (p 5)from rfl,e];have:k=0\/k=1\/k=2\/k=3\/k=4\/k=5:=by omega
 rcases this with rfl|rfl|rfl|rfl|rfl|rfl<;>rfl
def Z8(p:Nat->Bool):mS p<64:=by
 have all:∀gh b3 bY fa g9 hY:Bool,sE gh b3 bY fa g9 hY<64:=by decide +kernel
 exact all _ _ _ _ _ _
def bits(m:Nat):Nat:=if m==0 then 0 else m.log2+1
def maskOf(ns:List Nat):Nat:=ns.foldl (λm k=>m ||| 2 ^ k) 0
theorem KR:∀(ns:List Nat)(p:Nat->Bool),(∀n∈ns,n<6)->ns.foldl (λm k=>m ||| 2 ^ k) (mS p)=mS λj=>p j||ns.contains j
 |[],p,_=>by simp|n::r,p,h=>by
  rw[List.foldl_cons,Z9 p n (h n akh),KR r _ λx ai=>h x (akg _ ai)]
  congr 1
  funext j
  rw[List.contains_cons,Bool.or_assoc]
def KP(ns:List Nat)(h:∀n∈ns,n<6):maskOf ns=mS λj=>ns.contains j:=by
 have e:=KR ns (λ_=>false) h;have z:mS (λ_=>false)=0:=rfl;rw[z]at e;show ns.foldl (λm k=>m ||| 2 ^ k) 0=_;rw[e];simp
end gO
namespace kL
open gO iG
def sub(x m:Nat):Bool:=(akU 6).all λk=>!eM x k||eM m k
end kL
namespace aE
open PySem PySem.Spec ax gO iG kL
def cF(k:Nat):D:=.int (k:Int)
def lD(k:Nat):cF k=.int (k:Int):=rfl
def Pt(x:Int):amD x 1=x % 2:=W.kbt_mask x 1
def DN(a b:Nat):anl (a:Int) (b:Int)=((a ||| b:Nat):Int):=by
 have ae:decide (0<=alu (a:Int))=false:=decide_eq_false (by unfold alu;omega);have ag:decide (0<=alu (b:Int))=false:=decide_eq_false (by unfold alu;omega);have aw:(alu (alu (a:Int))).toNat=a:=by unfold alu;omega
 have aG:(alu (alu (b:Int))).toNat=b:=by unfold alu;omega
 unfold anl amD;rw[ae,ag];dsimp only;rw[aw,aG];unfold alu;omega
def Yt(m:Nat):ale (m:Int)=gO.bits m:=by
 unfold ale gO.bits;rw[Int.natAbs_natCast]
 by_cases h:m=0
 .subst h;rfl
 .have h':(m:Int)≠0:=by omega
  rw[beq_eq_false_iff_ne.mpr h,beq_eq_false_iff_ne.mpr h']
def bits_le(m:Nat)(h:m<64):gO.bits m<=6:=by
 have all:∀m:_root_.Fin 64,gO.bits m.val<=6:=by decide +kernel
 exact all ⟨m,h⟩
def Y5(m:Nat):yz m=(akU (gO.bits m)).filter (eM m):=rfl
def Df(ks:List Nat)(k:Nat):gO.maskOf (ks++[k])=gO.maskOf ks ||| 2 ^ k:=by
 unfold gO.maskOf;rw[List.foldl_append];rfl
def take_snoc{α:Type}{l:List α}{i:Nat}{x:α}(h:l[i]? = some x):l.take (i+1)=l.take i++[x]:=by
 rw[List.take_add_one,h];rfl
def KN{α β:Type}{f:α->β}{l:List α}{i:Nat}{y:β}(h:(l.map f)[i]? = some y):∃x,l[i]? = some x/\y=f x:=by
 rw[akD]at h
 cases e:l[i]? with
 |none=>rw[e]at h;cases h
 |some x=>rw[e]at h;exact⟨x,rfl,(aky h).symm⟩
def R6(m k:Nat):(amD ((m:Int) / 2 ^ k) 1==1)=eM m k:=by
 rw[Pt];unfold eM;have aw:((m:Int) / 2 ^ k) % 2=((m / 2 ^ k % 2:Nat):Int):=by
  rw[Int.natCast_emod,Int.natCast_ediv,Int.natCast_pow];rfl
 rw[aw,alm,beq_iff_eq,beq_iff_eq];omega
def acn(n:Nat):mZ 0 n=(akU n).map cF:=by
 unfold mZ;refine List.map_congr_left λi _=>?_
 show D.int (0+(i:Int))=.int (i:Int);rw[Int.zero_add]
def Yn(k:Nat)(ks:List Nat):inD (cF k) (ks.map cF)=ks.contains k:=by
 unfold inD;rw[List.any_map,List.contains_eq_any_beq]
 congr 1
 funext j
 show iv (.int (j:Int)) (.int (k:Int))=(k==j);rw[alm,beq_iff_eq];simp[iv];omega
theorem rT{α:Type}{t:aQ->M Bool}{el:bf}{Y:aQ}(f:α->D)(p:α->Bool)(g:α->D):∀xs:List α,(∀x∈xs,t (Y.set 0 (.v (f x)))=pure (p x))->(∀x∈xs,p x=true->(el (Y.set 0 (.v (f x))) >>= R.dat)=pure (g x))->
  h4 t el Y (xs.map f)=pure ((xs.filter p).map g)
 |[],_,_=>rfl|x::xs,ae,ag=>by
  have aZ:=rT f p g xs (λx ai=>ae x (akg _ ai)) λx ai=>ag x (akg _ ai)
  rw[akb];unfold h4;rw[ae x akh,pure_bind]
  cases e:p x with
  |false=>rw[if_neg aj7,aZ,List.filter_cons_of_neg (by rw[e];exact aj7)]|true=>
   have h:=ag x akh e;rw[if_pos rfl,<-bind_assoc,h,pure_bind,aZ,pure_bind,List.filter_cons_of_pos e];rfl
def A7{α:Type}{el:bf}{Y:aQ}(f:α->D)(g:α->D)(xs:List α)(h:∀x∈xs,(el (Y.set 0 (.v (f x))) >>= R.dat)=pure (g x)):h4 gJ el Y (xs.map f)=pure (xs.map g):=by
 have:=rT (t:=gJ) (el:=el) (Y:=Y) f (λ_=>true) g xs (λ_ _=>rfl) λx ai _=>h x ai
 rw[this]
 congr 2
 exact List.filter_eq_self.mpr λ_ _=>rfl
theorem By{α:Type}{b:D->aI}(f:α->D)(p:α->Bool)(v:α->R)(I:aQ->Prop):∀(xs:List α)(Y:aQ),I Y->
  (∀x Y,x∈xs->I Y->(p x=true->b (f x) Y=pure (.cP (v x)))/\(p x=false->∃Y',b (f x) Y=pure (.bw Y')/\I Y'))->
  (∀x,xs.find? p=some x->ha b (xs.map f) Y=pure (.cP (v x)))/\(xs.find? p=none->∃Y',ha b (xs.map f) Y=pure (.bw Y')/\I Y')
 |[],Y,h0,_=>⟨λx h=>(nomatch h),λ_=>⟨Y,rfl,h0⟩⟩
 |x::xs,Y,h0,step=>by
  obtain⟨s1,s2⟩:=step x Y akh h0
  cases e:p x with
  |true=>
   rw[ald e];refine⟨λy h=>?_,λh=>(nomatch h)⟩;cases h;show(b (f x) Y >>= _)=_;rw[s1 e];rfl
  |false=>
   obtain⟨gM,aw,ae⟩:=s2 e;have aZ:=By f p v I xs gM ae λy Y a'=>step y Y (akg _ a')
   rw[akT (by rw[e];exact aj7)];have u:ha b ((x::xs).map f) Y=ha b (xs.map f) gM:=by
    show(b (f x) Y >>= _)=_;rw[aw];rfl
   rw[u];exact aZ
end aE
namespace aE
open PySem PySem.Spec ax
mutual
def D.EU:D->Bool
 |.tup xs=>decide (xs.length<=1000)&&pY xs|.lst xs=>decide (xs.length<=1000)&&pY xs|.ref _=>true|.fn _=>true|.ty _=>true|.aN=>true|.au _=>true|.int _=>true|.str _=>true
def pY:List D->Bool
 |[]=>true|x::xs=>x.EU&&pY xs
end
theorem EV:∀{xs:List D},pY xs=true↔∀x∈xs,x.EU=true
 |[]=>by simp[pY]| x::xs=>by simp[pY,EV]
theorem BK:∀{xs:List D}{n:Nat},hL xs n=true↔∀x∈xs,x.b4 n=true
 |[],_=>by simp[hL]| x::xs,n=>by simp[hL,BK]
def Ok(n:Nat)(d:D):Prop:=d.b4 n=true/\d.EU=true
def zf:Ok n .aN:=⟨rfl,rfl⟩
def Ld:Ok n (.au b):=⟨rfl,rfl⟩
def js{i:Int}:Ok n (.int i):=⟨rfl,rfl⟩
def zg(h:akf x=true):Ok n (.str x):=⟨h,rfl⟩
def qR{xs:List D}(hl:xs.length<=1000)(h:∀x∈xs,Ok n x):Ok (n+1) (.tup xs):=
 ⟨BK.mpr λx ai=>(h x ai).1,by show(decide (xs.length<=1000)&&pY xs)=true;rw[decide_eq_true hl,EV.mpr λx ai=>(h x ai).2];rfl⟩
def Vl:∀{d:D}{n m:Nat},n<=m->d.b4 n=true->d.b4 m=true:=by
 intro d
 induction d using D.rec (motive_2:=λds=>∀n m,n<=m->hL ds n=true->hL ds m=true)with
 |aN=>exact λ_ h=>h
 |au _=>exact λ_ h=>h
 |int _=>exact λ_ h=>h
 |str _=>exact λ_ h=>h
 |fn _=>exact λ_ h=>h
 |ty _=>exact λ_ h=>h
 |ref _=>exact λ_ h=>h
 |tup xs aZ=>
  intro n m hm h
  cases n with
  |zero=>cases h
  |succ n=>
   cases m with
   |zero=>omega| succ m=>exact aZ n m (by omega) h
 |lst xs aZ=>
  intro n m hm h
  cases n with
  |zero=>cases h
  |succ n=>
   cases m with
   |zero=>omega| succ m=>exact aZ n m (by omega) h
 |nil=>rfl|cons x xs u2 u3=>
  rename_i n m hm h;have h:(x.b4 n&&hL xs n)=true:=h;rw[akw]at h;show(x.b4 m&&hL xs m)=true;rw[u2 hm h.1,u3 n m hm h.2];rfl
def qQ(h:Ok n d)(hm:n<=m):Ok m d:=⟨Vl hm h.1,h.2⟩
def sN(ae:Ok n a)(ag:Ok n b):Ok (n+1) (.tup [a,b]):=qR (by simp) (by simp only[alq];exact⟨ae,ag,λ_ h=>nomatch h⟩)
def Lc(ae:Ok n a)(ag:Ok n b)(bO:Ok n c):Ok (n+1) (.tup [a,b,c]):=qR (by simp) (by simp only[alq];exact⟨ae,ag,bO,λ_ h=>nomatch h⟩)
def aaH(ae:Ok n a)(ag:Ok n b)(bO:Ok n c)(cO:Ok n d):Ok (n+1) (.tup [a,b,c,d]):=qR (by simp) (by simp only[alq];exact⟨ae,ag,bO,cO,λ_ h=>nomatch h⟩)
@[simp] theorem aiJ{z:Str}:ur [.v (.str z)]=if z.length<=aj6 then pure (.v (.int (z.length:Nat)))else bad:=rfl
@[simp] theorem aim{x y:Str}:mV (.v (.str x)) (.v (.str y))=if x.length+y.length<=aj6 then pure (.v (.str (x++y)))else bad:=rfl
def U0(b:Bool):oEq (.v (.au b)) (.v (.au b))=pure (.v (.au true)):=by rw[rX rfl rfl];simp[iv]
def eq_str(h:akf x=true):oEq (.v (.str x)) (.v (.str x))=pure (.v (.au true)):=by rw[rX (x:=.v (.str x)) (y:=.v (.str x)) h h];simp[iv]
structure Pa where
 e:Int
 p1:Int
 cy:Int
 k1:Int
 k2:Int
 cq:D
def cf(a b:Int):D:=.tup [.int a,.int b]
def hO(g:Pa):D:=.tup [.int g.e,cf g.p1 g.cy,cf g.k1 g.k2,g.cq]
end aE
namespace aE
open PySem PySem.Spec ax PyProof.Rows
section
variable{Q:alH}[DecidableEq Q.α]
def j8(Q:alH)(l:List (Q.α×D)):Prop:=l.Pairwise λa b=>Q.blt a.1 b.1=true
def j8.nodup{l:List (Q.α×D)}(h:j8 Q l):(l.map (·.1)).Nodup:=by
 rw[List.nodup_iff_pairwise_ne,List.pairwise_map];refine List.Pairwise.imp (λ{a b} h e=>?_) h;rw[e,Q.irrefl]at h;cases h
def iL(l:List (Q.α×D))(a:Q.α):List (Q.α×D):=l.filter λq=>!decide (q.1=a)
def lJ(l:List (Q.α×D))(p:Q.α×D):List (Q.α×D):=iL l p.1++[p]
def jt(l:List (Q.α×D))(p:Q.α×D):List (Q.α×D):=jV Q.blt (lJ l p)
def e6(l:List (Q.α×D))(a:Q.α):Option D:=(l.find? λq=>decide (q.1=a)).map (·.2)
def HW{l:List (Q.α×D)}(a:Q.α)(h:(l.map (·.1)).Nodup):((iL l a).map (·.1)).Nodup:=h.sublist (anQ.map _)
def uf{l:List (Q.α×D)}{a:Q.α}{x:Q.α×D}:x∈iL l a↔x∈l/\x.1≠a:=by
 unfold iL;rw[ams];simp
def Bc(l:List (Q.α×D))(a:Q.α):(iL l a).length<=l.length:=List.length_filter_le _ _
def D3{l:List (Q.α×D)}(p:Q.α×D)(h:(l.map (·.1)).Nodup):((lJ l p).map (·.1)).Nodup:=by
 unfold lJ;rw[aln,ane];refine⟨HW _ h,by simp,λa ao b aa=>?_⟩;obtain⟨x,ai,rfl⟩:=alj.mp ao;rw[show b=p.1 by simpa using aa];exact(uf.mp ai).2
def D2{l:List (Q.α×D)}{p x:Q.α×D}:x∈lJ l p↔(x∈l/\x.1≠p.1)\/x=p:=by
 unfold lJ;rw[alb,uf,akE]
def LO(l:List (Q.α×D))(p:Q.α×D):(lJ l p).length<=l.length+1:=by
 unfold lJ;rw[aj9,amH];have:=Bc l p.1;omega
def D4{l:List (Q.α×D)}(p:Q.α×D)(h:(l.map (·.1)).Nodup):j8 Q (jt l p):=Ek Q _ (D3 p h)
def sY{l:List (Q.α×D)}{p x:Q.α×D}:x∈jt l p↔(x∈l/\x.1≠p.1)\/x=p:=by
 unfold jt;rw[(zw _ _).mem_iff,D2]
def U7{l:List (Q.α×D)}(aF:(l.map (·.1)).Nodup)(ai:x∈l):l.find? (λq=>decide (q.1=x.1))=some x:=by
 induction l with
 |nil=>cases ai
 |cons y l aZ=>
  rw[akb,alw]at aF;rcases aj5.mp ai with rfl|ai
  .rw[ald (by simp)]
  .have hy:¬y.1=x.1:=λh=>aF.1 (by rw[h];exact amS ai)
   rw[akT (by simpa using hy)];exact aZ aF.2 ai
def Vq{l:List (Q.α×D)}(aF:(l.map (·.1)).Nodup)(ai:x∈l):e6 l x.1=some x.2:=by
 unfold e6;rw[U7 aF ai];rfl
def BM{l:List (Q.α×D)}{a:Q.α}{d:D}(h:e6 l a=some d):(a,d)∈l:=by
 unfold e6 at h;obtain⟨x,ai,rfl⟩:=amz.mp h;have ae:=aot ai;have ag:x.1=a:=by have:=List.find?_some ai;simpa using this
 rw[<-ag];exact ae
def Iq{l:List (Q.α×D)}(aF:(l.map (·.1)).Nodup):e6 l a=some d↔(a,d)∈l:=⟨BM,λh=>Vq aF h⟩
def Vp{l mL:List (Q.α×D)}(aF:(mL.map (·.1)).Nodup)(h:∀d,(a,d)∈mL↔o=some d):e6 mL a=o:=by
 cases o with
 |some d=>exact(Iq aF).mpr ((h d).mpr rfl)|none=>
  cases e:e6 mL a with
  |none=>rfl|some d=>exact((h d).mp (BM e)).symm
def Ir{l:List (Q.α×D)}(p:Q.α×D)(aF:(l.map (·.1)).Nodup)(a:Q.α):e6 (jt l p) a=if a=p.1 then some p.2 else e6 l a:=
 Vp (l:=l) (D4 p aF).nodup fun d=>by
  rw[sY]
  by_cases e:a=p.1
  .rw[if_pos e]
   constructor
   .rintro(⟨_,h⟩|h)
    .exact absurd e h
    .rw[<-h]
   .intro h
    refine .inr ?_;cases p;cases h;rw[e]
  .rw[if_neg e,Iq aF]
   constructor
   .rintro(⟨h,_⟩|h)
    .exact h
    .rw[<-h]at e;exact absurd rfl e
   .exact λh=>.inl ⟨h,e⟩
def HX(b:Q.α)(h:j8 Q l):j8 Q (iL l b):=List.Pairwise.sublist anQ h
def aeb(h:j8 Q l):jV Q.blt l=l:=(NL Q h.nodup (.refl _) h).symm
def Pu(h:l.Nodup):oN Q.blt l=true:=by
 induction l with
 |nil=>rfl|cons a r aZ=>
  rw[alw]at h;unfold oN;rw[aZ h.2,Bool.and_true,alp];intro b aa
  cases aw:Q.blt a b with
  |true=>rfl|false=>
   cases aG:Q.blt b a with
   |true=>rfl|false=>exact absurd (Q.total a b aw aG▸aa) h.1
end
section
variable{Z:hV}[DecidableEq Z.κ.α]
theorem JY(ym:∀a,Z.un (Z.dH a)=some a){mf:bq}:∀{l:List (Z.κ.α×D)},(∀x∈l,mf [x.2]=pure (.v (Z.dH x.1)))->keysOf Z mf (l.map (·.2))=some (l.map (·.1))
 |[],_=>rfl|x::l,h=>by
  have e:yA Z mf x.2=some x.1:=by
   unfold yA;rw[h x akh];exact ym x.1
  rw[akb,akb];unfold keysOf;rw[e,JY ym λy a'=>h y (akg _ a')]
theorem zip_rows{α β:Type}:∀l:List (α×β),(l.map (·.1)).zip (l.map (·.2))=l
 |[]=>rfl| x::l=>by rw[akb,akb,alN,zip_rows l]
def El(ym:∀a,Z.un (Z.dH a)=some a){mf:bq}{l:List (Z.κ.α×D)}(h:∀x∈l,mf [x.2]=pure (.v (Z.dH x.1))){r:R}(ai:r.fG=some (l.map (·.2)))(aF:(l.map (·.1)).Nodup)(hl:l.length<64) :
  r2 Z mf r=pure (.fr ((jV Z.κ.blt l).map (·.2))):=by
 unfold r2;rw[ai];dsimp only;rw[JY ym h];dsimp only;rw[if_pos ⟨Pu (Q:=Z.κ.toKeyOrd) aF,by rw[aj2];exact hl⟩,zip_rows]
end
end aE
namespace aE
open PySem PySem.Spec ax
abbrev e_:=lu.κ.toKeyOrd
def bo(a:List Nat):Str:=⟨a.toArray⟩
abbrev cd(s:Str):List Nat:=s.cps.toList
def Hp(a:List Nat):cd (bo a)=a:=rfl
def Of(a:List Nat):lu.un (lu.dH a)=some a:=rfl
def Y4(a:List Nat):lu.dH a=.str (bo a):=rfl
def Od:bo a=bo b↔a=b:=⟨λh=>by rw[<-Hp a,h,Hp],λh=>by rw[h]⟩
def U2(ao:akf (bo a)=true)(aa:akf (bo b)=true):oEq (.v (.str (bo a))) (.v (.str (bo b)))=pure (.v (.au (decide (a=b)))):=by
 rw[rX (x:=.v (.str (bo a))) (y:=.v (.str (bo b))) ao aa];show pure (R.v (D.au (bo a==bo b)))=_
 congr 3
 rw[alm,beq_iff_eq,decide_eq_true_eq,Od]
def aan(ao:akf (bo a)=true)(aa:akf (bo b)=true):d5 (.v (.str (bo a))) (.v (.str (bo b)))=pure (.v (.au (!decide (a=b)))):=by
 rw[Bf (x:=.v (.str (bo a))) (y:=.v (.str (bo b))) ao aa];show pure (R.v (D.au (!(bo a==bo b))))=_
 congr 4
 rw[alm,beq_iff_eq,decide_eq_true_eq,Od]
def nq(a:List Nat):Prop:=akf (bo a)=true/\1<=a.length/\a.length<=8
def aem:akf (bo a)=true↔∀c∈a,c<0x110000:=by
 unfold akf bo;rw[List.all_toArray,alp];simp
def od(a:List Nat):(bo a).length=a.length:=by
 show a.toArray.size=_;simp
def zK(a b:List Nat):bo a++bo b=bo (a++b):=by
 show(⟨a.toArray++b.toArray⟩:Str)=_;unfold bo;simp
def aak:(("add":Str) == "put")=false:=by decide +kernel
def aal:(("do_add":Str) == "do_put")=false:=by decide +kernel
end aE
namespace en
open PySem PySem.Spec ax aE
def oA(x:Int×D):Prop:=∃n z:D,x.2=.tup [.int x.1,n,z]
def oA.gC{x:Int×D}(h:oA x):bB (.v x.2) (.v (.int 0))=pure (.v (.int x.1)):=by
 obtain⟨n,z,e⟩:=h;rw[e];simp
def oA.slot{x:Int×D}(h:oA x):c9 x.2=.v x.2:=by
 obtain⟨n,z,e⟩:=h;rw[e];rfl
def xC{l:List (Int×D)}(h:∀x∈l,oA x)(c le cz:D)(a:Int):nX [.tup [c,.tup (l.map (·.2)),le,cz],.int a]=pure (.v ((e6 (Q:=fp.κ.toKeyOrd) l a).getD (.tup [.int a,.int 0,.aN]))):=by
 have L:=By (b:=λd Y=>yG (Y.set 2 (.v d))) (λx:Int×D=>x.2) (λx=>decide (x.1=a)) (λx=>.v x.2) (λY=>∃s2,Y=[.v (.tup [c,.tup (l.map (·.2)),le,cz]),.v (.int a),s2]) l [.v (.tup [c,.tup (l.map (·.2)),le,cz]),.v (.int a),.e] ⟨_,rfl⟩
  (λx Y ai ⟨s2,ay⟩=>by
   subst ay;have gC:=(h x ai).gC;refine⟨λq=>?_,λq=>⟨[.v (.tup [c,.tup (l.map (·.2)),le,cz]),.v (.int a),.v x.2],?_,_,rfl⟩⟩
   .have q:x.1=a:=of_decide_eq_true q
    simp only[yG];simp[gC,q]
   .have q:¬x.1=a:=of_decide_eq_false q
    simp only[yG];simp[gC,q])
 simp only[nX,Gi,Gj];unfold e6
 cases e:l.find? (λx=>decide (x.1=a))with
 |some x=>
  have:=L.1 x e;simp[this]
 |none=>
  obtain⟨Y',bZ,s2,rfl⟩:=L.2 e;simp[bZ]
def J8{x:Int×D}(h:oA x):fnOf 1 1 (bg (av bB (U 0) (af (.int 0)))) [x.2]=pure (.v (.int x.1)):=by
 have:=h.gC;simp[h.slot,this]
def agn{l:List (Int×D)}(h:∀x∈l,oA x)(aF:(l.map (·.1)).Nodup)(hl:l.length<63)(c le cz:D)(a:Int)(n z:D)(az:c9 n=.v n)(hz:c9 z=.v z) :
  yW [.tup [c,.tup (l.map (·.2)),le,cz],.int a,n,z]=pure (.v (.tup [c,.tup ((jt (Q:=fp.κ.toKeyOrd) l (a,.tup [.int a,n,z])).map (·.2)),le,cz])):=by
 have bE:h4 (br (av d5 (av bB (U 0) (af (.int 0))) (U 1))) (U 0) [.e,.v (.int a)] (l.map (·.2))=pure ((iL (Q:=fp.κ.toKeyOrd) l a).map (·.2)):=
  rT (λx:Int×D=>x.2) (λx=>!decide (x.1=a)) (λx=>x.2) l (λx ai=>by
   have gC:=(h x ai).gC;simp[gC];rfl) λx _ _=>by simp
 have eH:l.length<aj6:=f5 (by omega);have dl:=Bc (Q:=fp.κ.toKeyOrd) l a;have d7:(iL (Q:=fp.κ.toKeyOrd) l a).length<aj6:=f5 (by omega);have d3:=El (Z:=fp) (λ_=>rfl) (mf:=fnOf 1 1 (bg (av bB (U 0) (af (.int 0))))) (l:=lJ (Q:=fp.κ.toKeyOrd) l (a,.tup [.int a,n,z])) (λx ai=>by
  rcases(D2 (Q:=fp.κ.toKeyOrd)).mp ai with⟨ai,_⟩|rfl
  .exact J8 (h x ai)
  .exact J8 ⟨n,z,rfl⟩) (r:=.mv ((iL (Q:=fp.κ.toKeyOrd) l a).map (·.2)++[.tup [.int a,n,z]])) (by
   show some _=some _;unfold lJ;rw[aln];rfl) (D3 _ aF) (by have:=LO (Q:=fp.κ.toKeyOrd) l (a,.tup [.int a,n,z]);omega)
 have xG:∀(cA:bf)(Y:aQ)(mf:bq),p' fp mf cA Y=(do let x <-cA Y;r2 fp mf x):=λ_ _ _=>rfl
 simp only[yW,AN,G4,G5];unfold jt;simp[az,hz,bE,eH,d7,d3,xG]
abbrev rC:=List (List Nat×D)
def kJ(x:List Nat×D):Prop:=nq x.1/\∃n:Int,n≠0/\x.2=.tup [.str (bo x.1),.int n]
def kJ.gC(h:kJ x):bB (.v x.2) (.v (.int 0))=pure (.v (.str (bo x.1))):=by
 obtain⟨_,n,_,e⟩:=h;rw[e];simp
def kJ.slot(h:kJ x):c9 x.2=.v x.2:=by
 obtain⟨_,n,_,e⟩:=h;rw[e];rfl
def nu:Option D->Int
 |some (.tup [_,.int n])=>n|_=>0
def Hr{l:rC}(h:∀x∈l,kJ x)(d le cz:D)(ao:nq a):vh [.tup [.tup (l.map (·.2)),d,le,cz],.str (bo a)]=pure (.v (.int (nu (e6 (Q:=e_) l a)))):=by
 have L:=By (b:=λd Y=>yF (Y.set 2 (.v d))) (λx:List Nat×D=>x.2) (λx=>decide (x.1=a)) (λx=>.v (.int (nu (some x.2)))) (λY=>∃s2,Y=[.v (.tup [.tup (l.map (·.2)),d,le,cz]),.v (.str (bo a)),s2]) l [.v (.tup [.tup (l.map (·.2)),d,le,cz]),.v (.str (bo a)),.e] ⟨_,rfl⟩
  (λx Y ai ⟨s2,ay⟩=>by
   subst ay;have gC:=(h x ai).gC;have eq:=U2 (h x ai).1.1 ao.1;obtain⟨_,n,_,e⟩:=h x ai;refine⟨λq=>?_,λq=>⟨[.v (.tup [.tup (l.map (·.2)),d,le,cz]),.v (.str (bo a)),.v x.2],?_,_,rfl⟩⟩
   .rw[q]at eq
    simp only[yF];rw[e]at gC ⊢;simp[gC,eq,nu]
   .rw[q]at eq
    simp only[yF];simp[gC,eq])
 simp only[vh,Gd,Ge];unfold e6
 cases e:l.find? (λx=>decide (x.1=a))with
 |some x=>
  have:=L.1 x e;simp[this]
 |none=>
  obtain⟨Y',bZ,s2,rfl⟩:=L.2 e;simp[bZ,nu]
def CT(h:kJ x):fnOf 1 1 (bg (av bB (U 0) (af (.int 0)))) [x.2]=pure (.v (lu.dH x.1)):=by
 have:=h.gC;rw[Y4];simp[h.slot,this]
def lU(l:rC)(a:List Nat)(n:Int):rC:=if n=0 then iL (Q:=e_) l a else jt (Q:=e_) l (a,.tup [.str (bo a),.int n])
def afR(h:j8 e_ l)(a:List Nat)(n:Int):j8 e_ (lU l a n):=by
 unfold lU;split
 .exact HX a h
 .exact D4 _ h.nodup
def afS(h:∀x∈l,kJ x)(ao:nq a)(n:Int):∀x∈lU l a n,kJ x:=λx ai=>by
 unfold lU at ai;split at ai
 .exact h x ((uf (Q:=e_)).mp ai).1
 .rename_i q
  rcases(sY (Q:=e_)).mp ai with⟨ai,_⟩|rfl
  .exact h x ai
  .exact⟨ao,n,q,rfl⟩
def Ov{l:rC}(h:∀x∈l,kJ x)(aD:j8 e_ l)(hl:l.length<63)(d le cz:D)(ao:nq a)(n:Int) :
  vo [.tup [.tup (l.map (·.2)),d,le,cz],.str (bo a),.int n]=pure (.v (.tup [.tup ((lU l a n).map (·.2)),d,le,cz])):=by
 have bE:h4 (br (av d5 (av bB (U 0) (af (.int 0))) (U 1))) (U 0) [.e,.v (.str (bo a))] (l.map (·.2))=pure ((iL (Q:=e_) l a).map (·.2)):=
  rT (λx:List Nat×D=>x.2) (λx=>!decide (x.1=a)) (λx=>x.2) l (λx ai=>by
   have gC:=(h x ai).gC;have ne:=aan (h x ai).1.1 ao.1;simp[gC,ne]) λx _ _=>by simp
 have eH:l.length<aj6:=f5 (by omega);have dl:=Bc (Q:=e_) l a;have d7:(iL (Q:=e_) l a).length<aj6:=f5 (by omega);have xG:∀(cA:bf)(Y:aQ)(mf:bq),p' lu mf cA Y=(do let x <-cA Y;r2 lu mf x):=λ_ _ _=>rfl
 simp only[vo,AM,G2,G3];unfold lU
 by_cases q:n=0
 .have d3:=El (Z:=lu) Of (mf:=fnOf 1 1 (bg (av bB (U 0) (af (.int 0))))) (l:=iL (Q:=e_) l a) (λx ai=>CT (h x ((uf (Q:=e_)).mp ai).1)) (r:=.mv ((iL (Q:=e_) l a).map (·.2))) rfl (HW a aD.nodup) (by omega)
  rw[aeb (Q:=e_) (HX a aD)]at d3;rw[if_pos q];simp[q,bE,eH,d7,d3,xG]
 .have d3:=El (Z:=lu) Of (mf:=fnOf 1 1 (bg (av bB (U 0) (af (.int 0))))) (l:=lJ (Q:=e_) l (a,.tup [.str (bo a),.int n])) (λx ai=>by
   rcases(D2 (Q:=e_)).mp ai with⟨ai,_⟩|rfl
   .exact CT (h x ai)
   .exact CT ⟨ao,n,q,rfl⟩) (r:=.mv ((iL (Q:=e_) l a).map (·.2)++[.tup [.str (bo a),.int n]])) (by
    show some _=some _;unfold lJ;rw[aln];rfl) (D3 _ aD.nodup) (by have:=LO (Q:=e_) l (a,.tup [.str (bo a),.int n]);omega)
  rw[if_neg q];unfold jt;simp[q,bE,eH,d7,d3,xG]
def FO(x:D)(ds:List D):eK (x::ds) 0=some x:=oP 0 rfl
def ae2:q7.lookup ("put":Str)=some ("do_put":Str):=by
 unfold q7;simp only[akH,beq_self_eq_true]
def U_:uw.lookup ("do_put":Str)=some vj:=by
 unfold uw;simp only[akH,beq_self_eq_true]
def aa5{s a r:D}(az:c9 s=.v s)(ao:c9 a=.v a)(h:vj [s,a,.tup (.str "put"::ds)]=pure (.v r)):mR [s,a,.tup (.str "put"::ds)]=pure (.v r):=by
 simp only[mR,xi,AL];simp[az,ao,FO,ae2,U_,h]
def ae1:q7.lookup ("add":Str)=some ("do_add":Str):=by
 unfold q7;simp only[akH,beq_self_eq_true,aak]
def U9:uw.lookup ("do_add":Str)=some vi:=by
 unfold uw;simp only[akH,beq_self_eq_true,aal]
def aa1{s a r:D}(az:c9 s=.v s)(ao:c9 a=.v a)(h:vi [s,a,.tup (.str "add"::ds)]=pure (.v r)):mR [s,a,.tup (.str "add"::ds)]=pure (.v r):=by
 simp only[mR,xi,AL];simp[az,ao,FO,ae1,U9,h]
section
variable{l:rC}(h:∀x∈l,kJ x)(aD:j8 e_ l)(hl:l.length<63)(d le cz:D){a:List Nat}(ao:nq a)(n i:Int)
include h aD hl ao
theorem aa8:mR [.tup [.tup (l.map (·.2)),d,le,cz],.int i,.tup [.str "put",.str (bo a),.int n]]=pure (.v (.tup [.tup [.tup ((lU l a n).map (·.2)),d,le,cz],.int (nu (e6 (Q:=e_) l a))])):=
 aa5 rfl rfl (by
  have aw:=Ov h aD hl d le cz ao n;have aG:=Hr h d le cz ao;simp[vj,Gh,aw,aG])
theorem aa7:mR [.tup [.tup (l.map (·.2)),d,le,cz],.int i,.tup [.str "add",.str (bo a),.int n]]=pure (.v (.tup [.tup [.tup ((lU l a (nu (e6 (Q:=e_) l a)+n)).map (·.2)),d,le,cz],.int (nu (e6 (Q:=e_) l a)+n)])):=
 aa1 rfl rfl (by
  have aw:=Ov h aD hl d le cz ao (nu (e6 (Q:=e_) l a)+n);have aG:=Hr h d le cz ao;simp[vi,Gf,Gg,aw,aG])
end
def p4(x:Int×D):Prop:=∃(n:Int)(z:D),x.2=.tup [.int x.1,.int n,z]
def p4.kV{x:Int×D}(h:p4 x):oA x:=by obtain⟨n,z,e⟩:=h;exact⟨_,_,e⟩
def n2:Option D->Int
 |some (.tup [_,.int n,_])=>n|_=>0
def Ka{l:List (Int×D)}(h:∀x∈l,p4 x)(a:Int):bB (.v ((e6 (Q:=fp.κ.toKeyOrd) l a).getD (.tup [.int a,.int 0,.aN]))) (.v (.int 1))=pure (.v (.int (n2 (e6 (Q:=fp.κ.toKeyOrd) l a)))):=by
 cases q:e6 (Q:=fp.κ.toKeyOrd) l a with
 |none=>simp[n2]|some d=>
  obtain⟨n,z,e⟩:=h _ (BM q);have e:d=.tup [.int a,.int n,z]:=e;subst e;simp[n2]
def yt(c d le cz:D):sv [.tup [c,d,le,cz]]=(do i0 (.v cz) (.v .aN)):=by
 simp[sv,Gu,lC,G1]
section
variable{l:List (Int×D)}(h:∀x∈l,p4 x)(c le cz:D)(a n:Int)
include h
theorem HV(ds:D)(hd:c9 ds=.v ds)(q:ds=.aN\/(∃xs,ds=.tup xs)/\(cz=.str "over"\/(∃zs,cz=.tup zs)\/cz=.aN/\n<=n2 (e6 (Q:=fp.κ.toKeyOrd) l a))) :
  jk [.tup [c,.tup (l.map (·.2)),le,cz],.int a,.int n,ds]=pure (.v (.tup [c,.tup (l.map (·.2)),le,cz])):=by
 have aw:=xC (λx ai=>(h x ai).kV) c le cz a;have aG:=Ka h a;simp only[jk,Aw,Ax,Ay];rcases q with rfl|⟨⟨xs,rfl⟩,rfl|⟨zs,rfl⟩|⟨rfl,q⟩⟩
 .simp
 .simp[yt]
 .simp[yt]
 .simp[yt,aw,aG,q]
theorem HT(xs:List D)(q:n2 (e6 (Q:=fp.κ.toKeyOrd) l a)<n)(hl:l.length<63)(aF:(l.map (·.1)).Nodup){c' le' sh' v:D}
  (aT:mR [.tup [c,.tup (l.map (·.2)),le,.aN],.int a,.tup xs]=pure (.v (.tup [.tup [c',.tup (l.map (·.2)),le',sh'],v]))) (bu:c9 v=.v v) :
  jk [.tup [c,.tup (l.map (·.2)),le,.aN],.int a,.int n,.tup xs]=pure (.v (.tup [c',.tup ((jt (Q:=fp.κ.toKeyOrd) l (a,.tup [.int a,.int n,v])).map (·.2)),le',sh'])):=by
 have aw:=xC (λx ai=>(h x ai).kV) c le .aN a;have aG:=Ka h a;have c3:=agn (λx ai=>(h x ai).kV) aF hl c' le' sh' a (.int n) v rfl bu;have g5:¬n<=n2 (e6 (Q:=fp.κ.toKeyOrd) l a):=by omega
 simp only[jk,Aw,Ax,Ay];simp[yt,aw,aG,g5,aT,c3]
end
def K_{l:List (Int×D)}(h:∀x∈l,p4 x)(a n:Int)(v:D):∀x∈jt (Q:=fp.κ.toKeyOrd) l (a,.tup [.int a,.int n,v]),p4 x:=λx ai=>by
 rcases(sY (Q:=fp.κ.toKeyOrd)).mp ai with⟨ai,_⟩|rfl
 .exact h x ai
 .exact⟨n,v,rfl⟩
end en
namespace en
open PySem PySem.Spec ax aE iG
def Good(r:a4):Prop:=r.wf/\r.deep<=4/\r.names.length<=12
end en
namespace en
open PySem PySem.Spec ax aE iG gO kL
def zP(i:Int):pv [.int i]=pure (.v (.au true)):=by kernel_rfl
def Ou(xs:List D):pv [.tup xs]=pure (.v (.au false)):=by kernel_rfl
def BV(m k:Nat):pn [cF m,cF k]=pure (.v (.au (eM m k))):=by
 have e:=R6 m k;simp only[pn,Gm,lD];simp[e]
def De(ks:List Nat)(h:∀k∈ks,k<=1000):px [.lst (ks.map cF)]=pure (.v (cF (maskOf ks))):=by
 obtain⟨Y',e,s2,rfl⟩:=xP (b:=λd Y=>CP (Y.set 2 (.v d))) (ds:=ks.map cF) (Y:=[.b8 (ks.map cF),.v (.int 0),.e])
  (λi Y=>∃s2,Y=[.b8 (ks.map cF),.v (cF (maskOf (ks.take i))),s2]) ⟨_,rfl⟩ (λi d Y hd ⟨s2,ay⟩=>by
   subst ay;obtain⟨k,aB,rfl⟩:=KN hd;have sa:=h k (akQ aB);refine⟨_,.inl (?_:_=pure (f_.bw [.b8 (ks.map cF),.v (cF (maskOf (ks.take (i+1)))),.v (cF k)])),_,rfl⟩;rw[take_snoc aB,Df,lD (_ ||| _),<-DN];have k1:(k:Int)<=1000000:=by omega
   simp only[CP,lD];simp[k1])
 rw[aj2,List.take_length]at e;simp only[px,GR,GS,GU];simp[e]
def Y8(h:m<64):sx [cF m]=pure (.fr ((yz m).map cF)):=by
 have aa:=bits_le m h;have c:h4 (br (bj pn (J (U 1) (J (U 0) aj)))) (U 0) [.e,.v (cF m)] ((akU (bits m)).map cF)=pure (((akU (bits m)).filter (eM m)).map cF):=
  rT cF (eM m) cF _ (λk _=>by simp[BV]) λk _ _=>by simp
 have bF:-4611686018427387904<=((bits m:Nat):Int)/\((bits m:Nat):Int)<4611686018427387904:=by omega
 have z:bits m<aj6:=f5 (by omega);rw[Y5];simp only[sx,Gv];simp only[lD m]at c ⊢;simp[Yt,bF,acn,z,c]
theorem K1:∀(n:Nat)(r:a4),r.deep<n->r.names.length<=1000->n0 n [enc r]=pure (.fr (r.names.map cF))
 |0,r,h,_=>absurd h (anL _)|n+1,.kp k,h,_=>by
  simp only[n0,xh,uj,a4.names];simp[zP,lD]
 |n+1,.ch k ps,h,hl=>by
  simp only[a4.deep]at h;simp only[a4.names]at hl ⊢;have dl:=uc (ps:=ps) (n:=n) (by omega);rw[rY];obtain⟨Y',e,s2,rfl⟩:=xP (b:=λd Y=>CQ (n0 n) (Y.set 2 (.v d))) (ds:=ps.map enc) (Y:=[.v (.tup [.int (k:Nat),.tup (ps.map enc)]),.e2 false [],.e])
   (λi Y=>∃s2,Y=[.v (.tup [.int (k:Nat),.tup (ps.map enc)]),.e2 false ((a4.e1 (ps.take i)).map cF),s2]) ⟨_,rfl⟩ (λi d Y hd ⟨s2,ay⟩=>by
    subst ay;obtain⟨r,aD,rfl⟩:=KN hd;have hm:=akQ aD;refine⟨_,.inl (?_:_=pure (f_.bw [.v (.tup [.int (k:Nat),.tup (ps.map enc)]),.e2 false ((a4.e1 (ps.take (i+1))).map cF),.v (enc r)])),_,rfl⟩;have bC:=take_snoc aD;have le:(a4.e1 (ps.take (i+1))).length<=1000:=by
     have:a4.e1 ps=a4.e1 (ps.take (i+1))++a4.e1 (ps.drop (i+1)):=by rw[<-Dj,List.take_append_drop]
     rw[this,aj9]at hl;omega
    rw[bC,Dj]at le ⊢;rw[show a4.e1 [r]=r.names from ak3 _]at le ⊢;rw[aj9]at le;have aZ:=K1 n r (dl r hm) (by omega);have z:(a4.e1 (ps.take i)).length+r.names.length<=aj6:=akZ (f5 (by omega));simp only[CQ];simp[aZ,z])
  rw[aj2,List.take_length]at e;simp only[n0,xh,GY,GZ,G0];simp[Ou,e]
def named_eq{r:a4}(hw:r.wf)(hd:r.deep<12)(hl:r.names.length<=1000):sA [enc r]=pure (.v (cF (maskOf r.names))):=by
 have ae:=K1 12 r hd hl;have ag:=De r.names λk aB=>by have:=qJ r hw k aB;omega
 simp only[sA,GX];simp[ae,ag]
theorem Bu(m:Nat):∀(n:Nat)(r:a4),r.deep<n->r.wf->iX n [enc r,cF m]=pure (.v (.au (r.fills (eM m))))
 |0,r,h,_=>absurd h (anL _)|n+1,.kp k,h,hw=>by
  have aB:=BV m k;simp only[iX,xe,uj,a4.fills];simp only[lD]at aB ⊢;simp[zP,aB]
 |n+1,.ch k ps,h,hw=>by
  simp only[a4.deep]at h;simp only[a4.wf]at hw;have dl:=uc (ps:=ps) (n:=n) (by omega);have wl:=zO.mp hw.2.2.2;rw[rY];have c:h4 (br (bj (iX n) (J (U 0) (J (U 1) aj)))) (U 0) [.e,.v (cF m)] (ps.map enc)=pure ((ps.filter (a4.fills (eM m))).map enc):=
   rT enc (a4.fills (eM m)) enc ps (λr aD=>by simp[Bu m n r (dl r aD) (wl r aD)]) λr _ _=>by simp
  have z:ps.length<aj6:=f5 (by omega);have e:decide (((k:Nat):Int)<=(a4.cnt (eM m) ps:Nat))=decide (k<=a4.cnt (eM m) ps):=decide_eq_decide.mpr (by omega);simp only[iX,xe,Gk,a4.fills];simp only[lD m]at c ⊢;simp[Ou,c,z,A5,e]
end en
namespace kL
open gO iG
def r0(a k:a4):Nat:=maskOf a.names ||| maskOf k.names
def ZY(xs:List Nat):∀ys:List Nat,maskOf (xs++ys)=maskOf xs ||| maskOf ys:=by
 intro ys;have:∀n,∀ys:List Nat,ys.length=n->maskOf (xs++ys)=maskOf xs ||| maskOf ys:=by
  intro n
  induction n with
  |zero=>intro ys h;rw[aoP.mp h,ak3];exact(Nat.or_zero _).symm|succ n aZ=>
   intro ys h;rcases List.eq_nil_or_concat ys with rfl|⟨l,k,rfl⟩
   .cases h
   .rw[List.concat_eq_append]at h ⊢
    rw[aj9,amH]at h;rw[<-amC,aE.Df,aZ l (by omega),aE.Df,Nat.or_assoc]
 exact this _ _ rfl
def H4{a k:a4}(ao:a.wf)(aB:k.wf):r0 a k=mS λj=>(a.names++k.names).contains j:=by
 unfold r0;rw[<-ZY,KP];intro n aF;rcases alb.mp aF with h|h
 .exact qJ a ao n h
 .exact qJ k aB n h
def H5{a k:a4}(ao:a.wf)(aB:k.wf):r0 a k<64:=by rw[H4 ao aB];exact Z8 _
end kL
namespace en
open PySem PySem.Spec ax aE iG gO kL
def gV(a k:a4):D:=.tup [enc a,enc k]
def Z3{a k:a4}(ao:Good a)(aB:Good k):yV [gV a k]=pure (.v (cF (r0 a k))):=by
 have ae:=named_eq (r:=a) ao.1 (by have:=ao.2.1;omega) (by have:=ao.2.2;omega);have ag:=named_eq (r:=k) aB.1 (by have:=aB.2.1;omega) (by have:=aB.2.2;omega);unfold gV;simp only[yV,GV];simp only[lD]at ae ag ⊢;simp[ae,ag,DN,r0]
def Yp(j:Nat)(ks:List Nat):pG false (.v (cF j)) (.v (.lst (ks.map cF)))=pure (.v (.au (ks.contains j))):=by
 have dU:(ks.map cF).all D.flat=true:=by rw[List.all_map];exact alp.mpr λ_ _=>rfl
 show(if(cF j).flat=true/\(ks.map cF).all D.flat=true then pure (R.v (D.au (if false=true then !inD (cF j) (ks.map cF)else inD (cF j) (ks.map cF))))else bad)=_;rw[if_pos ⟨rfl,dU⟩,if_neg aj7,Yn]
def Y7:∀m:Nat,m<64->yz m=(akU 6).filter (eM m):=by decide +kernel
def Y6{a k:a4}(ao:a.wf)(aB:k.wf):yz (r0 a k)=(akU 6).filter λj=>(a.names++k.names).contains j:=by
 rw[Y7 _ (H5 ao aB),H4 ao aB];exact List.filter_congr λj aR=>KX _ j (alh.mp aR)
def Z4{a k:a4}(ao:Good a)(aB:Good k):mQ [gV a k]=pure (.fr (((akU 6).filter λj=>(a.names++k.names).contains j).map cF)):=by
 have m:=Z3 ao aB;have e:=Y8 (H5 ao.1 aB.1);rw[Y6 ao.1 aB.1]at e;have cz:c9 (gV a k)=.v (gV a k):=rfl;simp only[mQ,GW];simp[cz,m,e]
def eE(a k:a4):List Nat:=(akU 6).filter λj=>(a.names++k.names).contains j
end en
namespace en
open PySem PySem.Spec ax aE gO iG kL
abbrev eo:=Int×Int
abbrev dI(s:eo):D:=.tup [.int s.1,.int s.2]
structure fx where
 k:Nat
 s:eo
 w:D
abbrev dY(g:fx):D:=.tup [cF g.k,dI g.s,g.w]
def Vy(ps:List fx)(h:∀p∈ps,p.k<6)(hl:ps.length<=1000):nY [.lst (ps.map dY)]=pure (.v (cF (maskOf (ps.map (·.k))))):=by
 have c:h4 gJ (av bB (U 0) (af (.int 0))) [.e] (ps.map dY)=pure (ps.map (cF∘λp=>p.k)):=A7 dY _ ps λp _=>by simp[dY]
 have z:ps.length<aj6:=f5 (by omega);have m:=De (ps.map (·.k)) (λk aB=>by obtain⟨p,aL,rfl⟩:=alj.mp aB;have:=h p aL;omega);rw[anF]at m;simp only[nY,Gl];simp[c,z,m]
def U1(s t:eo):oEq (.v (dI s)) (.v (dI t))=pure (.v (.au (decide (s=t)))):=by
 rw[rX (x:=.v (dI s)) (y:=.v (dI t)) rfl rfl]
 congr 3
 obtain⟨a,b⟩:=s;obtain⟨c,d⟩:=t;rw[alm];simp[iv,R.arg,qV]
def aam(s t:eo):d5 (.v (dI s)) (.v (dI t))=pure (.v (.au (!decide (s=t)))):=by
 rw[Bf (x:=.v (dI s)) (y:=.v (dI t)) rfl rfl]
 congr 4
 obtain⟨a,b⟩:=s;obtain⟨c,d⟩:=t;rw[alm];simp[iv,R.arg,qV]
def ja(s t:eo):Bool:=decide (t.1<s.1)||decide (s.1=t.1)&&decide (t.2<s.2)
def Ke(s t:eo):gD [s.1,s.2] [t.1,t.2]=ja s t:=by
 unfold gD ja;rw[qC,qC]
 by_cases bp:s.1=t.1
 .rw[if_pos bp,bp]
  by_cases b2:s.2=t.2
  .rw[if_pos b2,b2]
   simp[mO]
  .rw[if_neg b2];simp
 .rw[if_neg bp]
  simp[bp]
def sF(b p:fx):fx:=if ja p.s b.s=true then p else b
def mj(p:fx)(ps:List fx):fx:=ps.foldl sF p
abbrev jj:bq:=fnOf 1 1 (bg (av bB (U 0) (af (.int 1))))
def JV(p:fx):lr jj (dY p)=some [p.s.1,p.s.2]:=by
 have e:jj [dY p]=pure (.v (dI p.s)):=by simp[jj,dY]
 unfold lr;rw[e];rfl
theorem Dg:∀(ps:List fx)(b:fx),jl jj (dY b) [b.s.1,b.s.2] (ps.map dY)=some (dY (mj b ps))
 |[],b=>rfl|p::ps,b=>by
  rw[akb];unfold mj;rw[List.foldl_cons];show(match lr jj (dY p)with|some dH=>if gD dH [b.s.1,b.s.2]=true then jl jj (dY p) dH (ps.map dY)else jl jj (dY b) [b.s.1,b.s.2] (ps.map dY)|none=>none)=_;rw[JV];show(if gD [p.s.1,p.s.2] [b.s.1,b.s.2]=true then jl jj (dY p) [p.s.1,p.s.2] (ps.map dY)else jl jj (dY b) [b.s.1,b.s.2] (ps.map dY))=_;rw[Ke];unfold sF
  by_cases q:ja p.s b.s=true
  .rw[if_pos q,if_pos q];exact Dg ps p
  .rw[if_neg q,if_neg q];exact Dg ps b
def qo(op:D)(g:fx):D:=.tup [dI g.s,if g.s=(0,0)then op else g.w]
def XE(p:fx)(ps:List fx)(op:D)(aT:c9 op=.v op)(hl:(p::ps).length<64):yR [.lst ((p::ps).map dY),op]=pure (.v (qo op (mj p ps))):=by
 have dh:vp jj ((p::ps).map dY)=some (dY (mj p ps)):=by
  rw[akb];show(match lr jj (dY p)with|some k=>jl jj (dY p) k (ps.map dY)|none=>none)=_;rw[JV];exact Dg ps p
 generalize mj p ps=b at *;generalize p::ps=gH at *;have dk:=U1 b.s (0,0);have z:(gH.map dY).length<64:=by rw[aj2];exact hl
 have em:xJ jj (.b8 (gH.map dY))=pure (.v (dY b)):=by
  unfold xJ;show(match vp jj (gH.map dY)with|some r=>if(gH.map dY).length<64 then(pure (R.v r):M R)else bad|none=>bad)=_;rw[dh];dsimp only;rw[if_pos z]
 unfold qo;simp only[yR,AA,Gn,Gp]
 by_cases q:b.s=(0,0)
 .rw[q]at dk
  simp at dk;simp[aT,em,dY,q,dk]
 .simp[q]at dk
  simp[aT,em,dY,q,dk]
end en
namespace en
open PySem PySem.Spec ax aE
def kX{n N:Nat}{b:aI}{ds:List D}(h:ds.length=n)(e:b (ds.map c9++akF (N-n) .e)=pure (.cP (.v d))):fnOf n N b ds=pure (.v d):=by
 rw[Be,if_pos h,e];rfl
def kx{a b:aI}(e:a Y=pure (.bw Y')):bV a b Y=b Y':=by rw[bV,e];rfl
def pO{a b:aI}{r:R}(e:a Y=pure (.cP r)):bV a b Y=pure (.cP r):=by rw[bV,e];rfl
def pb{t:aQ->M Bool}{a b:aI}(e:t Y=pure true):cV t a b Y=a Y:=by rw[cV,e];rfl
def Jx{t:aQ->M Bool}{a b:aI}(e:t Y=pure false):cV t a b Y=b Y:=by rw[cV,e];rfl
def Ln{a b:aQ->M Bool}(h:a Y=pure false):gm a b Y=b Y:=by show(a Y >>= _)=_;rw[h];rfl
def Dn{a:aQ->M Bool}(h:a Y=pure true):eF a Y=pure false:=by show(a Y >>= _)=_;rw[h];rfl
def fW{m:bf}(h:m Y=pure (.v (.au b))):br m Y=pure b:=by show(m Y >>= _)=_;rw[h];rfl
def eZ{f:R->R->M R}{a b:bf}{r:M R}(e:f x y=r)(aw:a Y=pure x)(aG:b Y=pure y):av f a b Y=r:=by
 show(a Y >>= _)=_;rw[aw];show(b Y >>= _)=_;rw[aG];exact e
def s9{m:bf}{Y:aQ}(e:m Y=pure (.v d)):cY i m Y=pure (.bw (Y.set i (.v d))):=by show(m Y >>= _)=_;rw[e];rfl
def lL{m:bf}(e:m Y=pure (.v d)):bg m Y=pure (.cP (.v d)):=by show(m Y >>= _)=_;rw[e];rfl
def call_of{mf:bq}{ms:cU}{rs:List R}{r:M R}(aw:ms Y=pure rs)(e:mf (rs.map R.arg)=r):bj mf ms Y=r:=by show(ms Y >>= _)=_;rw[aw];exact e
def cons_of{m:bf}{ms:cU}(e:m Y=pure x)(aw:ms Y=pure xs):J m ms Y=pure (x::xs):=by show(m Y >>= _)=_;rw[e];show(ms Y >>= _)=_;rw[aw];rfl
def q3{m:bf}{Y:aQ}{r:R}(e:m Y=pure r)(h:r.dat=pure d):cY i m Y=pure (.bw (Y.set i (.v d))):=by show(m Y >>= _)=_;rw[e];show(r.dat >>= _)=_;rw[h];rfl
def EB{a b c:bf}(aw:a Y=pure (.v x))(aG:b Y=pure (.v y))(c3:c Y=pure (.v z)):bb (J a (J b (J c aj))) Y=pure (.v (.tup [x,y,z])):=by
 show(J a (J b (J c aj)) Y >>= _)=_;rw[cons_of aw (cons_of aG (cons_of c3 rfl))];rfl
def HQ{a b:Int}(h:ow a b):ko (.v (.int a)) (.v (.int b))=pure (.v (.int (a / b))):=if_pos h
def sD{a b:Int}(h:0<b):oMod (.v (.int a)) (.v (.int b))=pure (.v (.int (a % b))):=if_pos h
def H2{a b:Int}:oEq (.v (.int a)) (.v (.int b))=pure (.v (.au (decide (a=b)))):=rfl
def t_{xs ys:List D}(h:xs.length+ys.length<=aj6):hj (.v (.lst xs)) (.fr ys)=pure (.fr (xs++ys)):=if_pos h
def YL{i:Int}{v:D}(e:eK xs i=some v):bB (.v (.lst xs)) (.v (.int i))=pure (.v v):=by
 show(match eK xs i with|some d=>pure (R.v d)|none=>bad)=_;rw[e]
def lz{ms:cU}{ds:List D}(e:ms Y=pure rs)(h:kS rs=pure ds)(z:ds.length<=1000):c8 ms Y=pure (.fr ds):=by
 show(ms Y >>= _)=_;rw[e];show(kS rs >>= _)=_;rw[h];show(ik (ds.length<=1000) >>= _)=_;unfold ik;rw[if_pos z];rfl
def LJ{a b n:Int}(h:0<=b/\b<=1000000/\a.natAbs<2 ^ 64)(e:a ^ b.toNat=n):lG (.v (.int a)) (.v (.int b))=pure (.v (.int n)):=by rw[<-e];exact if_pos h
def aS{α:Type}(S:cJ)(m:M α)(a:α):Prop:=m.run S=.ok a S
def bK{α:Type}(S:cJ)(m:N α)(a:α)(ar:cJ):Prop:=m.run S=.ok a ar
section
variable{α β:Type}{S S1 a7:cJ}{Y Y':aQ}
def aS.of(h:m=pure a):aS S m a:=by rw[h];rfl
theorem aS.bind{f:α->M β}(h:aS S m a)(ag:aS S (f a) b):aS S (m >>= f) b:=by
 show(match m.run S with|.ok a S1=>(f a).run S1|.exc c S1=>.exc c S1|.bad=>.bad)=_;rw[show m.run S=.ok a S from h];exact ag
def bK.bind{f:α->N β}(h:bK S m a S1)(ag:bK S1 (f a) b a7):bK S (m >>= f) b a7:=by
 show(match m.run S with|.ok a S1=>(f a).run S1|.exc c S1=>.exc c S1|.bad=>.bad)=_;rw[show m.run S=.ok a S1 from h];exact ag
def aS.to{m:M α}(h:aS S m a):bK S m.up a S:=h
def Cu{p:Prop}[Decidable p](h:p):aS S (ik p) ():=.of (if_pos h)
def di{f:R->R->M R}{a b:bf}{x y r:R}(e:f x y=pure r)(ae:aS S (a Y) x)(ag:aS S (b Y) y):aS S (av f a b Y) r:=ae.bind (ag.bind (.of e))
def er:aS S (aj Y) []:=.of rfl
def cQ{m:bf}{ms:cU}(h:aS S (m Y) x)(ae:aS S (ms Y) xs):aS S (J m ms Y) (x::xs):=h.bind (ae.bind (.of rfl))
def eC{mf:bq}{ms:cU}{rs:List R}{r:R}(h:aS S (ms Y) rs)(e:aS S (mf (rs.map R.arg)) r):aS S (bj mf ms Y) r:=h.bind e
def Cz{ms:cU}{ds:List D}(h:aS S (ms Y) rs)(e:kS rs=pure ds)(z:ds.length<=1000):aS S (bb ms Y) (.v (.tup ds)):=h.bind ((aS.of e).bind ((Cu z).bind (.of rfl)))
def c1{m:bf}(h:aS S (m Y) (.v (.au b))):aS S (br m Y) b:=h.bind (.of rfl)
def Y2{a b:aQ->M Bool}(h:aS S (a Y) true):aS S (gm a b Y) true:=h.bind (.of rfl)
def sl{a b:aQ->M Bool}(h:aS S (a Y) false)(ag:aS S (b Y) x):aS S (gm a b Y) x:=h.bind ag
def nS{a b:aQ->M Bool}(h:aS S (a Y) true)(ag:aS S (b Y) x):aS S (ky a b Y) x:=h.bind ag
def qw{a b:aQ->M Bool}(h:aS S (a Y) false):aS S (ky a b Y) false:=h.bind (.of rfl)
def mK{a:aQ->M Bool}(h:aS S (a Y) x):aS S (eF a Y) (!x):=h.bind (.of rfl)
def JO{it:gc}{t:aQ->M Bool}{ds xs:List D}(h:aS S (it Y) ds)(z:ds.length<aj6)(e:aS S (h4 t el (mm n cap Y) ds) xs):aS S (gR n cap it t el Y) (.fr xs):=h.bind ((Cu z).bind (e.bind (.of rfl)))
theorem Cv{α:Type}{el:bf}(g:α->D)(f:α->D):∀as:List α,(∀a∈as,aS S (el (Y.set 0 (.v (g a)))) (.v (f a)))->aS S (h4 gJ el Y (as.map g)) (as.map f)
 |[],_=>.of rfl|a::as,h=>(aS.of (S:=S) (m:=(pure true:M Bool)) rfl).bind ((h a (akh ..)).bind ((aS.of (m:=R.dat (.v (f a))) rfl).bind ((Cv g f as λx ai=>h x (akg _ ai)).bind (.of rfl))))
def JQ{m:bf}{r:R}(h:aS S (m Y) r)(e:r.fG=some ds):aS S (mF m Y) ds:=h.bind (by rw[e];exact .of rfl)
def qx{m:bf}{r:R}(h:aS S (m Y) r)(e:r.dat=pure d):aS S (cY i m Y) (.bw (Y.set i (.v d))):=h.bind ((aS.of e).bind (.of rfl))
def sm{m:bf}(h:aS S (m Y) (.v d)):aS S (bg m Y) (.cP (.v d)):=h.bind (.of rfl)
def Cw{m:bf}(h:aS S (m Y) (.fr xs)):aS S (bg m Y) (.cP (.fr xs)):=h.bind (.of rfl)
def yx{t:aQ->M Bool}{a b:aI}(h:aS S (t Y) true)(ag:aS S (a Y) aW):aS S (cV t a b Y) aW:=h.bind ag
def u7{t:aQ->M Bool}{a b:aI}(h:aS S (t Y) false)(ag:aS S (b Y) aW):aS S (cV t a b Y) aW:=h.bind ag
def h5{a b:aI}(h:aS S (a Y) (.bw Y'))(ag:aS S (b Y') aW):aS S (bV a b Y) aW:=h.bind ag
def Cx{a b:aI}{r:R}(h:aS S (a Y) (.cP r)):aS S (bV a b Y) (.cP r):=h.bind (.of rfl)
def yy{is:List Nat}{m:bf}{ds:List D}(h:aS S (m Y) (.v (.tup ds)))(e:ds.length=is.length):aS S (rP is m Y) (.bw (n9 is ds Y)):=h.bind (.of (if_pos e))
def lq{n N:Nat}{b:aI}{ds:List D}(h:ds.length=n)(e:aS S (b (ds.map c9++akF (N-n) .e)) (.cP (.v d))):aS S (fnOf n N b ds) (.v d):=by
 rw[Be,if_pos h];exact e.bind (.of rfl)
def nT(h:S[i]? = some o):aS S (fI (.v (.ref i))) o:=(show aS S It S from rfl).bind (by rw[h];exact .of rfl)
def Y1{m:bf}(h:S[i]? = some (.lst xs))(ae:aS S (m Y) (.v (.ref i))):aS S (kd m Y) (.mv xs):=ae.bind ((nT h).bind (.of rfl))
def sk{mf:bq}{mo:bf}{ms:cU}{fs:List (Str×D)}{rs:List R}{r:R}(h:S[i]? = some (.bh c fs))(ae:aS S (mo Y) (.v (.ref i)))(aF:fs.lookup m=none)(ag:aS S (ms Y) rs)(e:aS S (mf (.ref i::rs.map R.arg)) r):aS S (fk c m mf mo ms Y) r:=ae.bind ((nT h).bind (by show aS S (if c=c/\fs.lookup m=none then _ else _) _;rw[if_pos ⟨rfl,aF⟩];exact ag.bind e))
def YY{m:bf}{fs:List (Str×D)}(h:S[i]? = some (.bh c fs))(ae:aS S (m Y) (.v (.ref i)))(e:fs.lookup f=some d):aS S (bE (cm c f) m Y) (.v d):=ae.bind ((nT h).bind (by show aS S (if c=c then _ else _) _;rw[if_pos rfl,e];exact .of rfl))
def Y3{m pA:bf}{ms:cU}{rs:List R}{k:List Key}(h:S[i]? = some (.e0 aC))(ae:aS S (m Y) (.v (.ref i)))(ag:aS S (ms Y) rs)(bO:aS S (pA Y) (.v wG))(aB:qy rs=some k)(hl:rs.length<=1000):aS S (xu m ms pA Y) (.v ((je aC k).getD wG)):=ae.bind (ag.bind (bO.bind ((nT h).bind (by rw[aB];exact .of (if_pos hl)))))
def fK{a b:bt}(h:bK S (a Y) (.bw Y') S1)(ag:bK S1 (b Y') aW a7):bK S (bX a b Y) aW a7:=h.bind ag
def zX{a b:bt}{r:R}(h:bK S (a Y) (.cP r) S1):bK S (bX a b Y) (.cP r) S1:=h.bind rfl
def zW{t:aQ->N Bool}{a b:bt}(h:bK S (t Y) true S1)(ag:bK S1 (a Y) aW a7):bK S (gp t a b Y) aW a7:=h.bind ag
def OD{t:aQ->N Bool}{a b:bt}(h:bK S (t Y) false S1)(ag:bK S1 (b Y) aW a7):bK S (gp t a b Y) aW a7:=h.bind ag
def zY{t:aQ->N Bool}{a b:bt}(h:bK S (t Y) false S1)(ag:bK S1 (b Y) aW a7):bK S (bX (gp t a (c2 cH)) b Y) aW a7:=fK (OD h rfl) ag
def tw{t:aQ->M Bool}{b:bt}(h:aS S (t Y) false)(ag:bK S (b Y) aW a7):bK S (bX (c2 (cV t a cH)) b Y) aW a7:=fK (u7 h (.of rfl)).to ag
def agV{m:cX}(h:bK S (m Y) (.v d) S1):bK S (kG m Y) (.cP (.v d)) S1:=h.bind rfl
def agU{m:cX}(h:bK S (m Y) (.fr xs) S1):bK S (kG m Y) (.cP (.fr xs)) S1:=h.bind rfl
def OA{m:cX}{r:R}(h:bK S (m Y) r S1):bK S (kF m Y) (.bw Y) S1:=h.bind rfl
def rl{m:cX}{r:R}(h:bK S (m Y) r S1)(e:r.dat=pure d):bK S (lZ i m Y) (.bw (Y.set i (.v d))) S1:=h.bind ((aS.of e).to.bind rfl)
def x_call{mf:eY}{ms:cU}{rs:List R}{r:R}(h:aS S (ms Y) rs)(az:rs.all R.hR=true)(e:bK S (mf (rs.map R.arg)) r S1):bK S (kE mf (gL ms) Y) r S1:=(aS.to h).bind (by rw[if_pos az];exact e)
def tv{mf:eY}{mo:bf}{ms:g8}{fs:List (Str×D)}{rs:List R}{r:R}(h:S[i]? = some (.bh c fs))(ae:aS S (mo Y) (.v (.ref i)))(aF:fs.lookup m=none)(ag:bK S (ms Y) rs S)(az:rs.all R.hR=true)(e:bK S (mf (.ref i::rs.map R.arg)) r S1):bK S (fw c m mf mo ms Y) r S1:=ae.to.bind ((nT h).to.bind (by show bK S (if c=c/\fs.lookup m=none then _ else _) _ _;rw[if_pos ⟨rfl,aF⟩];exact ag.bind (by rw[if_pos az];exact e)))
def agR{mf:eY}{ms:cU}{rs:List R}(h:aS S (ms Y) rs)(az:rs.all R.hR=true)(e:bK (S++[.bh c []]) (mf (.ref S.length::rs.map R.arg)) (.v .aN) S1):bK S (zT c mf (gL ms) Y) (.v (.ref S.length)) S1:=(aS.to h).bind (by
 rw[if_pos az];exact bK.bind (m:=xX) (a:=S) (S1:=S) rfl (bK.bind (m:=putN _) (a:=()) (S1:=S++[hW.bh c []]) rfl (bK.bind e rfl)))
def zV{n N:Nat}{b:bt}{ds:List D}(h:ds.length=n)(e:bK S (b (ds.map c9++akF (N-n) .e)) (.cP (.v d)) S1):bK S (fnX n N b ds) (.v d) S1:=by
 unfold fnX;rw[if_pos h];exact e.bind rfl
def agN{n N:Nat}{b:bt}{ds xs:List D}(h:ds.length=n)(e:bK S (b (ds.map c9++akF (N-n) .e)) (.cP (.fr xs)) S1):bK S (fnX n N b ds) (.fr xs) S1:=by
 unfold fnX;rw[if_pos h];exact e.bind rfl
def OC{n N:Nat}{b:bt}{ds:List D}(h:ds.length=n)(e:bK S (b (ds.map c9++akF (N-n) .e)) (.bw Y') S1):bK S (fnX n N b ds) (.v .aN) S1:=by
 unfold fnX;rw[if_pos h];exact e.bind rfl
def x_at{mo:bf}{mv:cX}{fs:List (Str×D)}{r:R}(bu:bK S (mv Y) r S1)(e:r.dat=pure d)(ae:aS S1 (mo Y) (.v (.ref i)))(h:S1[i]? = some (.bh c fs))(hl:fs.length<1000):bK S (ek c f mo mv Y) (.bw Y) (S1.set i (.bh c (hP f d fs))):=bu.bind ((aS.of e).to.bind (ae.to.bind ((nT h).to.bind (by
 show bK S1 (if c=c/\fs.length<1000 then _ else _) _ _;rw[if_pos ⟨rfl,hl⟩];rfl))))
def OB{mo:bf}{ms:cU}{mv:cX}{aC:List (List Key×D)}{r:R}{rs:List R}{k:List Key}(bu:bK S (mv Y) r S1)(e:r.dat=pure d)(ae:aS S1 (mo Y) (.v (.ref i)))(ag:aS S1 (ms Y) rs)(h:S1[i]? = some (.e0 aC))(aB:qy rs=some k)(hl:rs.length<=1000/\aC.length<1000):bK S (wx mo ms mv Y) (.bw Y) (S1.set i (.e0 (hx aC k d))):=bu.bind ((aS.of e).to.bind (ae.to.bind (ag.to.bind ((nT h).to.bind (by
 rw[aB];show bK S1 (if rs.length<=1000/\aC.length<1000 then _ else _) _ _;rw[if_pos hl];rfl)))))
def agM{mo:bf}{ms:cU}{xs:List D}(ae:aS S (mo Y) (.v (.ref i)))(ag:aS S (ms Y) [.v d])(h:S[i]? = some (.lst xs))(z:xs.length<aj6):bK S (wy m7 mo ms Y) (.bw Y) (S.set i (.lst (xs++[d]))):=ae.to.bind (ag.to.bind ((nT h).to.bind ((aS.to (a:=(R.v .aN,xs++[d])) (.of (by show(ik (xs.length<aj6) >>= _)=_;rw[SI z];rfl))).bind rfl)))
def OE:bK S (tr (dE (c8 aj)) Y) (.v (.ref S.length)) (S++[.lst []]):=rfl
def agO{it:gc}(h:aS S (it Y) ds)(e:bK S (lY (λd Y=>b (Y.set i (.v d))) ds Y) aW S1):bK S (zS i it b Y) aW S1:=(aS.to h).bind e
def agQ:bK S (lY b [] Y) (.bw Y) S:=rfl
def agP{b:D->bt}(h:bK S (b d Y) (.bw Y') S1)(ag:bK S1 (lY b ds Y') aW a7):bK S (lY b (d::ds) Y) aW a7:=h.bind ag
def OF{a:aQ->N Bool}(h:bK S (a Y) x S1):bK S (wA a Y) (!x) S1:=h.bind rfl
def Ox{m:cX}(h:bK S (m Y) (.v (.au b)) S1):bK S (wB m Y) b S1:=h.bind rfl
def Fr(W:List Nat)(S ar:cJ):Prop:=∀j o,j∉W->S[j]? = some o->ar[j]? = some o
def Fr.set(h:i∈W):Fr W S (S.set i o):=λj c7 aR e=>by
 rw[akk (λq:i=j=>aR (q▸h))];exact e
def Fr.app:Fr W S (S++l):=λj o _ e=>by
 rw[akt (aj1.mp e).1];exact e
def Fr.refl:Fr W S S:=λ_ _ _ e=>e
def Fr.trans(h:Fr W S S1)(ag:Fr W S1 a7):Fr W S a7:=λj o aR e=>ag j o aR (h j o aR e)
def get_set(h:S[i]? = some o):(S.set i c7)[i]? = some c7:=by
 rw[aks (aj1.mp h).1]
def Iv:(S++[o])[S.length]? = some o:=by rw[akq (aj8 _),alY];rfl
end
end en
namespace en
open PySem PySem.Spec ax aE iG gO kL
structure b0 where
 me:Int
 cn:Int
 h:D
 op:D
 cx:Bool
 cR:Int
 st:eo
 wi:Int
 dd:D
 cB:Str
 cw:D
 bQ:List fx
 fF:Nat
 fv:D
def b0.fs(a:b0)(g:Nat):List (Str×D):=[("me",.int a.me),("epoch",.int a.cn),("hall",a.h),("opening",a.op),("over_known",.au a.cx),("greatest_round",.int a.cR),("last_stamp",dI a.st),("wishes",.int a.wi),("deed",a.dd),("standing",.str a.cB),("last_outcome",a.cw),("grants",.ref g),("kept_mask",cF a.fF),("told_slate",a.fv)]
def oO(me cn:Int)(s:eo)(k:Nat):D:=.tup [.str "ask",.int me,cF k,.int cn,dI s,.tup []]
def q9(me cn:Int)(s:eo)(l:D)(k:Nat):D:=.tup [.str "tell",.int me,cF k,.int cn,dI s,l]
def rK:D:=.tup [.tup [],.tup [],.tup [.int 0,.aN],.aN]
def y2(me:Int)(h:D):b0:=⟨me,0,h,rK,false,0,(0,0),0,.aN,"calm",.aN,[],0,.aN⟩
structure dC(S:cJ)(i g:Nat)(a:b0):Prop where
 bh:S[i]? = some (.bh "Asker" (a.fs g))
 ls:S[g]? = some (.lst (a.bQ.map dY))
structure dP(S ar:cJ)(i g g':Nat)(b:b0):Prop where
 at':dC ar i g' b
 fr:Fr [i,g] S ar
 nw:g'=g\/S.length<=g'
 len:S.length<=ar.length
def eJ(S:cJ)(i g:Nat)(m:N f_)(aW:f_)(c:b0):Prop:=∃ar g',bK S m aW ar/\dP S ar i g g' c
def b0.Do(a:b0)(mf:eY)(ds ys:List D)(b:b0):Prop:=∀(S:cJ)(i g:Nat),dC S i g a->∃ar g',bK S (mf (.ref i::ds)) (.fr ys) ar/\dP S ar i g g' b
section
variable{S S1 a7:cJ}{Y Y':aQ}{i g g1 g2 k:Nat}{a b c:b0}{f:Str}{d:D}{mv:bf}{r:R}{bd:bt}{aW:f_}
def Kl(h:S[i]? = some o):i<S.length:=(aj1.mp h).1
def dC.ne(h:dC S i g a):i≠g:=λe=>by have:=h.bh;rw[e,h.ls]at this;cases this
def dP.refl(h:dC S i g a):dP S S i g g a:=⟨h,.refl,.inl rfl,aj8 _⟩
def dP.trans(h:dP S S1 i g g1 b)(ag:dP S1 a7 i g1 g2 c):dP S a7 i g g2 c:=by
 refine⟨ag.at',λj o aR e=>ag.fr j o ?_ (h.fr j o aR e),?_,akS h.len ag.len⟩
 .have:=Kl e
  simp only[aj5,aly,or_false,not_or]at aR ⊢;rcases h.nw with q|q
  .rw[q];exact aR
  .exact⟨aR.1,by omega⟩
 .rcases ag.nw with q|q
  .rw[q];exact h.nw
  .exact .inr (akS h.len q)
def dg(h:dC S i g a)(aB:U k Y=pure (.v (.ref i)))(e:(a.fs g).lookup f=some d):aS S (bE (cm "Asker" f) (U k) Y) (.v d):=YY h.bh (.of aB) e
def CK:(a.fs g).length<1000:=by show 14<1000;omega
theorem kg(h:dC S i g a)(b:b0)(aB:U k Y=pure (.v (.ref i)))(ev:aS S (mv Y) r)(Bm:r.dat=pure d)(e:hP f d (a.fs g)=b.fs g)(jH:b.bQ=a.bQ)(q:∀S1,dC S1 i g b->eJ S1 i g (bd Y) aW c):eJ S i g (bX (ek "Asker" f (U k) (dE mv)) bd Y) aW c:=by
 have ae:dC (S.set i (.bh "Asker" (hP f d (a.fs g)))) i g b:=⟨by rw[get_set h.bh,e],by rw[akk h.ne,jH];exact h.ls⟩;obtain⟨a7,g2,t,s⟩:=q _ ae;exact⟨a7,g2,fK (x_at ev.to Bm (.of aB) h.bh CK) t,dP.trans ⟨ae,.set (by simp),.inl rfl,by rw[akL];exact aj8 _⟩ s⟩
theorem Vw(h:dC S i g a)(b:b0)(aB:U k Y=pure (.v (.ref i)))(e:∀n,hP ("grants":Str) (D.ref n) (a.fs g)=b.fs n)(dh:b.bQ=[])(q:∀S1 g1,dC S1 i g1 b->eJ S1 i g1 (bd Y) aW c):eJ S i g (bX (ek "Asker" "grants" (U k) (tr (dE (c8 aj)))) bd Y) aW c:=by
 have h0:(S++[hW.lst []])[i]? = some (.bh "Asker" (a.fs g)):=Fr.app (W:=[]) _ _ (aly) h.bh;have ae:dC ((S++[hW.lst []]).set i (.bh "Asker" (hP ("grants":Str) (D.ref S.length) (a.fs g)))) i S.length b:=⟨by rw[get_set h0,e],by rw[akk (aku (Kl h.bh)),Iv,dh];rfl⟩;obtain⟨a7,g2,t,s⟩:=q _ _ ae;exact⟨a7,g2,fK (x_at OE rfl (.of aB) h0 CK) t,dP.trans ⟨ae,Fr.app.trans (.set (by simp)),.inr (aj8 _),by rw[akL,aj9];omega⟩ s⟩
theorem IA{ms:cU}(h:dC S i g a)(b:b0)(aB:U k Y=pure (.v (.ref i)))(ev:aS S (ms Y) [.v (dY x)])(e:b.fs g=a.fs g)(jH:b.bQ=a.bQ++[x])(z:a.bQ.length<1000)(q:∀S1,dC S1 i g b->eJ S1 i g (bd Y) aW c):eJ S i g (bX (wy m7 (bE (cm "Asker" "grants") (U k)) ms) bd Y) aW c:=by
 have ae:dC (S.set g (.lst (a.bQ.map dY++[dY x]))) i g b:=⟨by rw[akk h.ne.symm,e];exact h.bh,by rw[get_set h.ls,jH,aln];rfl⟩;obtain⟨a7,g2,t,s⟩:=q _ ae;exact⟨a7,g2,fK (agM (dg h aB rfl) ev h.ls (by rw[aj2];exact f5 (by omega))) t,dP.trans ⟨ae,.set (by simp),.inl rfl,by rw[akL];exact aj8 _⟩ s⟩
def FG(h:dC S i g a)(aB:U k Y=pure (.v (.ref i))):aS S (kd (bE (cm "Asker" "grants") (U k)) Y) (.mv (a.bQ.map dY)):=Y1 h.ls (dg h aB rfl)
def r5{m:aI}(h:dC S i g a)(e:aS S (m Y) aW):eJ S i g (c2 m Y) aW a:=⟨S,g,e,.refl h⟩
theorem h1{t:aQ->M Bool}(e:aS S (t Y) false)(q:eJ S i g (bd Y) aW c):eJ S i g (bX (c2 (cV t m cH)) bd Y) aW c:=by
 obtain⟨a7,g2,t,s⟩:=q;exact⟨a7,g2,tw e t,s⟩
theorem mx{t:aQ->M Bool}(e:aS S (t Y) false)(q:eJ S i g (bd Y) aW c):eJ S i g (bX (gp (hE t) m (c2 cH)) bd Y) aW c:=by
 obtain⟨a7,g2,t,s⟩:=q;exact⟨a7,g2,zY e t,s⟩
def xZ{t:aQ->M Bool}{m:aI}{r:R}(h:dC S i g a)(e:aS S (t Y) true)(aG:aS S (m Y) (.cP r)):eJ S i g (bX (c2 (cV t m cH)) bd Y) (.cP r) a:=⟨S,g,zX (yx e aG).to,.refl h⟩
theorem BN{t:aQ->M Bool}{m:bt}{r:R}(e:aS S (t Y) true)(q:eJ S i g (m Y) (.cP r) c):eJ S i g (bX (gp (hE t) m (c2 cH)) bd Y) (.cP r) c:=by
 obtain⟨a7,g2,t,s⟩:=q;exact⟨a7,g2,zX (zW e t),s⟩
theorem uC{m:aI}(e:aS S (m Y) (.bw Y'))(q:eJ S i g (bd Y') aW c):eJ S i g (bX (c2 m) bd Y) aW c:=by
 obtain⟨a7,g2,t,s⟩:=q;exact⟨a7,g2,fK (aS.to e) t,s⟩
theorem xY{ms:g8}{rs:List R}(h:dC S i g a)(q:a.Do mf (rs.map R.arg) ys c)(aB:U k Y=pure (.v (.ref i)))(aF:(a.fs g).lookup m=none)(ag:bK S (ms Y) rs S)(az:rs.all R.hR=true):eJ S i g (kG (fw "Asker" m mf (U k) ms) Y) (.cP (.fr ys)) c:=by
 obtain⟨a7,g2,t,s⟩:=q _ _ _ h;exact⟨a7,g2,agU (tv h.bh (.of aB) aF ag az t),s⟩
theorem jG{n N:Nat}{bd:bt}{ds ys:List D}(h:ds.length+1=n)(q:∀S i g,dC S i g a->eJ S i g (bd (.v (.ref i)::ds.map c9++akF (N-n) .e)) (.cP (.fr ys)) c):a.Do (fnX n N bd) ds ys c:=λS i g c6=>by
 obtain⟨a7,g2,t,s⟩:=q S i g c6;exact⟨a7,g2,agN h t,s⟩
end
def b0.asks(a:b0):b0:={ a with cR:=a.cR+1,st:=(a.cR+1,a.me),cB:="asking",bQ:=[] }
def Py{a:b0}{ms:List Nat}(hm:mQ [a.h]=pure (.fr (ms.map cF)))(hl:ms.length<=6) :
  a.Do yM [] (ms.map (oO a.me a.cn (a.cR+1,a.me))) a.asks:=jG rfl λS i g h=>
 kg h { a with cR:=a.cR+1 } rfl (di rfl (dg h rfl rfl) (.of rfl)) rfl rfl rfl λS h=>
 kg h { a with cR:=a.cR+1,st:=(a.cR+1,a.me) } rfl (Cz (cQ (dg h rfl rfl) (cQ (dg h rfl rfl) er)) rfl (aj3 rfl)) rfl rfl rfl λS h=>
 kg h { a with cR:=a.cR+1,st:=(a.cR+1,a.me),cB:="asking" } rfl (.of rfl) rfl rfl rfl λS h=>
 Vw h a.asks rfl (λ_=>rfl) rfl λS g h=>
 r5 h (Cw (JO (JQ (eC (cQ (dg h rfl rfl) er) (.of hm)) rfl) (by rw[aj2];exact f5 (by omega))
  (Cv cF (oO a.me a.cn (a.cR+1,a.me)) ms λk _=>eC (cQ (dg h rfl rfl) (cQ (.of rfl) (cQ (dg h rfl rfl) (cQ (dg h rfl rfl) er)))) (.of rfl))))
def Oy{S:cJ}{mv:bf}{fs:List (Str×D)}{bd:bt}(h:S[i]? = some (.bh c fs))(ev:mv Y=pure (.v d))(aB:U 0 Y=pure (.v (.ref i)))(hl:fs.length<1000)(q:bK (S.set i (.bh c (hP f d fs))) (bd Y) aW a7):bK S (bX (ek c f (U 0) (dE mv)) bd Y) aW a7:=fK (x_at (aS.of ev).to rfl (.of aB) h hl) q
def qz{n:Nat}(h:n.ble 999=true):n<1000:=Nat.lt_succ_of_le (aj3 h)
def Yr(S:cJ)(me:Int)(h:D)(c6:c9 h=.v h):∃ar,bK (S++[.bh "Asker" []]) (C1 [.ref S.length,.int me,h]) (.v .aN) ar/\dC ar S.length (S.length+1) (y2 me h)/\ar.length=S.length+2/\Fr [] S ar:=by
 have ne:S.length+1≠S.length:=by omega
 have ap:∀{o c7:hW},(S++[o])++[c7]=S++[o,c7]:=λ{o c7}=>by rw[amC];rfl
 have st:∀{o c7:hW}{l:cJ},(S++o::l).set S.length c7=S++c7::l:=λ{o c7 l}=>by rw[List.set_append_right _ _ (aj8 _),alY];rfl
 have gt:∀{o:hW}{l:cJ},(S++o::l)[S.length]? = some o:=λ{o l}=>by rw[akq (aj8 _),alY];rfl
 refine⟨S++[.bh "Asker" ((y2 me h).fs (S.length+1)),.lst []],OC (Y':=[.v (.ref S.length),.v (.int me),.v h]) rfl ?_,⟨gt,?_⟩,by rw[aj9];rfl,.app⟩
 .show bK _ (Ar [.v (.ref S.length),.v (.int me),c9 h]) _ _
  rw[c6]
  repeat' (refine Oy gt (by rfl) rfl (qz rfl) ?_;rw[st])
  refine fK (x_at OE rfl (.of rfl) (by rw[ap];exact gt) (qz rfl)) ?_;rw[ap,st,aj9];refine Oy gt (by rfl) rfl (qz rfl) ?_;rw[st];have:=x_at (S:=S++[hW.bh "Asker" [("me",D.int me),("epoch",.int 0),("hall",h),("opening",rK),("over_known",.au false),("greatest_round",.int 0),("last_stamp",dI (0,0)),("wishes",.int 0),("deed",.aN),("standing",.str "calm"),("last_outcome",.aN),("grants",.ref (S.length+1)),("kept_mask",cF 0)],.lst []]) (f:="told_slate") (mv:=dE (af .aN)) (Y:=[.v (.ref S.length),.v (.int me),.v h]) (mo:=U 0) (i:=S.length) (d:=.aN) (r:=.v .aN) rfl rfl (.of rfl) gt (qz rfl);rw[st]at this;exact this
 .rw[akq (by omega),Nat.add_sub_cancel_left];rfl
def iy(ai:akf x=true)(a':akf y=true):oEq (.v (.str x)) (.v (.str y))=pure (.v (.au (x==y))):=rX (x:=.v (.str x)) (y:=.v (.str y)) ai a'
def NQ(ai:akf x=true)(a':akf y=true):d5 (.v (.str x)) (.v (.str y))=pure (.v (.au (!(x==y)))):=Bf (x:=.v (.str x)) (y:=.v (.str y)) ai a'
def zc:akf "calm"=true:=by decide +kernel
def DE:akf "asking"=true:=by decide +kernel
def zh:akf "telling"=true:=by decide +kernel
def Lf:akf "late"=true:=by decide +kernel
def b0.rD(a:b0):Prop:=a.cB="calm"\/a.cB="asking"\/a.cB="telling"
def s_{a:b0}(h:a.rD):akf a.cB=true:=by rcases h with h|h|h<;>rw[h]<;>decide +kernel
def calm_eq{a:b0}(h:a.rD):oEq (.v (.str a.cB)) (.v (.str "calm"))=pure (.v (.au (a.cB == "calm"))):=iy (s_ h) zc
def A1{a:b0}(h:a.rD):d5 (.v (.str a.cB)) (.v (.str "calm"))=pure (.v (.au (!(a.cB == "calm")))):=NQ (s_ h) zc
structure oD(h:D)(ms:List Nat)(dU il:Nat->Bool):Prop where
 mem:mQ [h]=pure (.fr (ms.map cF))
 len:ms.length<=6
 lt:∀k∈ms,k<6
 ne:ms≠[]
 ex:∃x y,h=.tup [x,y]/\c9 x=.v x/\c9 y=.v y/\(∀m:Nat,iX 12 [x,cF m]=pure (.v (.au (dU m))))/\∀m:Nat,iX 12 [y,cF m]=pure (.v (.au (il m)))
def b0.tells(a:b0)(t:D):b0:={ a with cB:="telling",fF:=0,fv:=t }
def YF(d:D):iZ (.v d) (.v .aN)=pure (.v (.au (match d with|.aN=>true|_=>false))):=by cases d<;>rfl
def Vx{a:b0}{ms:List Nat}{s:eo}{w:D}(hm:mQ [a.h]=pure (.fr (ms.map cF)))(hl:ms.length<=6)(hd:a.dd≠.aN){t:D}
  (dm:jk [w,.int a.me,.int a.wi,a.dd]=pure (.v t)) :
  a.Do yN [.tup [dI s,w]] (ms.map (q9 a.me a.cn a.st (.tup [dI s,.int a.wi,a.dd,t]))) (a.tells t):=jG rfl λS i g h=>
 mx (qw (c1 (di (by rw[YF];revert hd;cases a.dd<;>first|exact λ_=>rfl|exact λh=>absurd rfl h) (dg (d:=a.dd) h rfl rfl) (.of rfl))))<|
 kg h { a with cB:="telling" } rfl (.of rfl) rfl rfl rfl λS h=>
 kg h { a with cB:="telling",fF:=0 } rfl (.of rfl) rfl rfl rfl λS h=>
 kg h (a.tells t) rfl (eC (cQ (.of rfl) (cQ (dg h rfl rfl) (cQ (dg h rfl rfl) (cQ (dg h rfl rfl) er)))) (.of dm)) rfl rfl rfl λS h=>
 uC (qx (Cz (cQ (.of rfl) (cQ (dg h rfl rfl) (cQ (dg h rfl rfl) (cQ (dg h rfl rfl) er)))) rfl (aj3 rfl)) rfl)<|
 r5 h (Cw (JO (JQ (eC (cQ (dg h rfl rfl) er) (.of hm)) rfl) (by rw[aj2];exact f5 (by omega))
  (Cv cF (q9 a.me a.cn a.st (.tup [dI s,.int a.wi,a.dd,t])) ms λk _=>eC (cQ (dg h rfl rfl) (cQ (.of rfl) (cQ (dg h rfl rfl) (cQ (dg h rfl rfl) (cQ (.of rfl) er))))) (.of rfl))))
def my(k:Nat)(a e:Int)(s kp:eo)(w:D):D:=.tup [.str "grant",cF k,.int a,.int e,dI s,.tup [dI kp,w]]
def iV(k:Nat)(a e:Int)(s:eo):D:=.tup [.str "kept",cF k,.int a,.int e,dI s,.tup []]
def b0.got(a:b0)(k:Nat)(kp:eo)(w:D):b0:={ a with bQ:=a.bQ++[⟨k,kp,w⟩] }
section
variable{a:b0}{ms:List Nat}{dU il:Nat->Bool}(H:oD a.h ms dU il){k:Nat}{me e:Int}{s kp:eo}{w:D}(a3:∀g∈a.bQ,g.k<6)(hl:a.bQ.length<60)(aB:k<6)
def ID{a:b0}{i g:Nat}(h:dC S i g a)(a3:∀g∈a.bQ,g.k<6)(hl:a.bQ.length<=1000)(Y:aQ):aS S (bj nY (J (kd (bE (cm "Asker" "grants") (U 0))) aj) (.v (.ref i)::Y)) (.v (cF (maskOf (a.bQ.map (·.k))))):=
 eC (cQ (FG h rfl) er) (.of (Vy a.bQ a3 hl))
include a3 hl
theorem Jf(h:dC S i g a):aS S (br (bj pn (J (bj nY (J (kd (bE (cm "Asker" "grants") (U 0))) aj)) (J (av bB (U 1) (af (.int 1))) aj))) [.v (.ref i),.v (my k me e s kp w)]) (eM (maskOf (a.bQ.map (·.k))) k):=
 c1 (eC (cQ (ID h a3 (by omega) _) (cQ (.of rfl) er)) (.of (BV _ k)))
include H aB
theorem IC(h:dC S i g (a.got k kp w)):aS S (eF (br (bj (iX 12) (J (av bB (bE (cm "Asker" "hall") (U 0)) (af (.int 0))) (J (bj nY (J (kd (bE (cm "Asker" "grants") (U 0))) aj)) aj)))) [.v (.ref i),.v (my k me e s kp w)]) (!dU (maskOf ((a.got k kp w).bQ.map (·.k)))):=by
 obtain⟨x,y,ui,_,_,f1,_⟩:=H.ex;have g3:=ID h (λg h=>by
  rcases alb.mp h with h|h
  .exact a3 g h
  .rw[akE.mp h];exact aB) (by show(a.bQ++[_]).length<=1000;rw[aj9];show _+1<=_;omega) [.v (my k me e s kp w)]
 exact mK (c1 (eC (cQ (di (x:=.v (.tup [x,y])) (r:=.v x) rfl (dg h rfl (by show some a.h=_;rw[ui])) (.of rfl)) (cQ g3 er)) (.of (f1 _))))
theorem Xk(q:eM (maskOf (a.bQ.map (·.k))) k=false)(b2:dU (maskOf ((a.got k kp w).bQ.map (·.k)))=false):a.Do vf [my k me e s kp w] [] (a.got k kp w):=jG rfl λS i g h=>
 h1 (by have:=Jf (k:=k) (me:=me) (e:=e) (s:=s) (kp:=kp) (w:=w) a3 hl h;rw[q]at this;exact this)<|
 IA h (a.got k kp w) rfl (cQ (x:=.v (dY ⟨k,kp,w⟩)) (.of rfl) er) rfl rfl (by omega) λS h=>
 xZ h (by have:=IC (me:=me) (e:=e) (s:=s) H a3 hl aB h;rw[b2]at this;exact this) (.of rfl)
theorem Xm{σ:List D}{t:b0}{p:fx}{ps:List fx}(jH:(a.got k kp w).bQ=p::ps)(Ca:c9 a.op=.v a.op)(q:eM (maskOf (a.bQ.map (·.k))) k=false)(b2:dU (maskOf ((a.got k kp w).bQ.map (·.k)))=true)
  (go:(a.got k kp w).Do yN [qo a.op (mj p ps)] σ t):a.Do vf [my k me e s kp w] σ t:=by
 have aA:=XE p ps a.op Ca (by rw[<-jH];show(a.bQ++[_]).length<64;rw[aj9];show _+1 < _;omega);rw[<-jH]at aA;exact jG rfl λS i g h=>
  h1 (by have:=Jf (k:=k) (me:=me) (e:=e) (s:=s) (kp:=kp) (w:=w) a3 hl h;rw[q]at this;exact this)<|
  IA h (a.got k kp w) rfl (cQ (x:=.v (dY ⟨k,kp,w⟩)) (.of rfl) er) rfl rfl (by omega) λS h=>
  h1 (by have:=IC (me:=me) (e:=e) (s:=s) H a3 hl aB h;rw[b2]at this;exact this)<|
  xY (rs:=[.v (qo a.op (mj p ps))]) h go rfl rfl (aS.to (cQ (eC (cQ (FG h rfl) (cQ (dg h rfl rfl) er)) (.of aA)) er)) rfl
end
def lF:D->Bool
 |.aN=>true|_=>false
def y3(d:D):i0 (.v d) (.v .aN)=pure (.v (.au (!lF d))):=by cases d<;>rfl
def YB(d:D):iZ (.v d) (.v .aN)=pure (.v (.au (lF d))):=by cases d<;>rfl
def Yq(j:Nat)(ks:List Nat):pG false (.v (cF j)) (.fr (ks.map cF))=pure (.v (.au (ks.contains j))):=Yp j ks
def vH{a b:Int}:d5 (.v (.int a)) (.v (.int b))=pure (.v (.au (!decide (a=b)))):=rfl
def b0.now(a:b0)(ms:List Nat)(k:Nat)(e:Int)(s:eo):Bool:=decide (e=a.cn)&&decide (s=a.st)&&ms.contains k
def YE{a:b0}(h:dC S i g a)(H:oD a.h ms dU il)(w ld:D)(k:Nat)(b e:Int)(s:eo):aS S (yO [.ref i,.tup [w,cF k,.int b,.int e,dI s,ld]]) (.v (.au (a.now ms k e s))):=by
 refine lq rfl ?_;have t1:aS S (br (av d5 (av bB (U 1) (af (.int 3))) (bE (cm "Asker" "epoch") (U 0))) [.v (.ref i),.v (.tup [w,cF k,.int b,.int e,dI s,ld])]) (!decide (e=a.cn)):=c1 (di vH (.of rfl) (dg h rfl rfl));have hn:aS S (br (av d5 (av bB (U 1) (af (.int 4))) (bE (cm "Asker" "last_stamp") (U 0))) [.v (.ref i),.v (.tup [w,cF k,.int b,.int e,dI s,ld])]) (!decide (s=a.st)):=c1 (di (aam s a.st) (.of rfl) (dg h rfl rfl));unfold b0.now;generalize decide (e=a.cn)=jx at *;generalize decide (s=a.st)=ri at *
 cases jx with
 |false=>exact Cx (yx (Y2 t1) (.of rfl))|true=>
  cases ri with
  |false=>exact Cx (yx (sl t1 hn) (.of rfl))|true=>exact h5 (u7 (sl t1 hn) (.of rfl)) (sm (di (Yq k ms) (.of rfl) (eC (cQ (dg h rfl rfl) er) (.of H.mem))))
def vN:akf "grant"=true:=by decide +kernel
def aaK:akf "kept"=true:=by decide +kernel
def Iy:oEq (.v (.str "grant")) (.v (.str "late"))=pure (.v (.au false)):=by rw[iy vN Lf];rfl
def Iw:oEq (.v (.str "grant")) (.v (.str "grant"))=pure (.v (.au true)):=by rw[iy vN vN,beq_self_eq_true]
def Vt:oEq (.v (.str "grant")) (.v (.str "kept"))=pure (.v (.au false)):=by rw[iy vN aaK];rfl
section
variable{a:b0}{ms:List Nat}{dU il:Nat->Bool}{S:cJ}{i g:Nat}(H:oD a.h ms dU il){k:Nat}{e:Int}{s kp:eo}{w:D}
def zj(h:dC S i g a)(x ld:D)(k:Nat)(e:Int)(s:eo):aS S (br (av d5 (av bB (U 1) (af (.int 2))) (bE (cm "Asker" "me") (U 0))) [.v (.ref i),.v (.tup [x,cF k,.int a.me,.int e,dI s,ld])]) false:=
 c1 (di (vH.trans (by rw[decide_eq_true rfl];rfl)) (.of rfl) (dg (d:=.int a.me) h rfl rfl))
include H
theorem y4(h:dC S i g a)(x ld:D)(k:Nat)(b e:Int)(s:eo):aS S (eF (br (fk "Asker" "is_for_now" yO (U 0) (J (U 1) aj))) [.v (.ref i),.v (.tup [x,cF k,.int b,.int e,dI s,ld])]) (!a.now ms k e s):=
 mK (c1 (sk h.bh (.of rfl) rfl (cQ (.of rfl) er) (YE h H x ld k b e s)))
variable(az:a.rD)
include az
theorem I9(q:a.now ms k e s=true)(c:a.cB="asking"){t:b0}(g:a.Do vf [my k a.me e s kp w] σ t):a.Do pk [my k a.me e s kp w] σ t:=jG rfl λS i j h=>
 h1 (zj h (.str "grant") (.tup [dI kp,w]) k e s)<|mx (c1 (di Iy (.of rfl) (.of rfl)))<|
 h1 (by have:=y4 H h (.str "grant") (.tup [dI kp,w]) k a.me e s;rw[q]at this;exact this)<|
 BN (nS (c1 (di Iw (.of rfl) (.of rfl))) (c1 (di (by rw[iy (s_ az) DE,c,beq_self_eq_true]) (dg h rfl rfl) (.of rfl))))<|
 xY (rs:=[.v (my k a.me e s kp w)]) h g rfl rfl (aS.to (.of rfl)) rfl
theorem Xl(q:a.now ms k e s=true)(c:a.cB≠"asking"):a.Do pk [my k a.me e s kp w] [] a:=jG rfl λS i j h=>
 h1 (zj h (.str "grant") (.tup [dI kp,w]) k e s)<|mx (c1 (di Iy (.of rfl) (.of rfl)))<|
 h1 (by have:=y4 H h (.str "grant") (.tup [dI kp,w]) k a.me e s;rw[q]at this;exact this)<|
 mx (nS (c1 (di Iw (.of rfl) (.of rfl))) (c1 (di (by rw[iy (s_ az) DE,show(a.cB == "asking")=false by simpa using c]) (dg h rfl rfl) (.of rfl))))<|
 mx (qw (c1 (di Vt (.of rfl) (.of rfl))))<|r5 h (.of rfl)
end
section
variable{a:b0}{ms:List Nat}(hm:mQ [a.h]=pure (.fr (ms.map cF)))(hl:ms.length<=6)
include hm hl
def b0.AO(a:b0)(d:D):b0:={ a with wi:=a.wi+1,dd:=d,cw:=.aN }
theorem R2(az:a.cB="calm")(aT:a.cx=false)(hd:c9 d=.v d)(nn:i0 (.v d) (.v .aN)=pure (.v (.au true)))(a6:km [d]=pure (.v (.au true))):a.Do su [d] (ms.map (oO a.me a.cn (a.cR+1,a.me))) (a.AO d).asks:=jG rfl λS i g h=>by
 show eJ S i g (As [.v (.ref i),c9 d]) _ _;rw[hd];exact h1 (nS (c1 (di nn (.of rfl) (.of rfl))) (mK (c1 (eC (cQ (x:=.v d) (.of rfl) er) (.of a6)))))<|
  h1 (c1 (dg h rfl (by show some (D.au a.cx)=_;rw[aT])))<|
  h1 (c1 (di (by rw[A1 (a:=a) (.inl az),az,beq_self_eq_true];rfl) (dg h rfl rfl) (.of rfl)))<|
  kg h { a with wi:=a.wi+1 } rfl (di rfl (dg h rfl rfl) (.of rfl)) rfl rfl rfl λS h=>
  kg h { a with wi:=a.wi+1,dd:=d } rfl (.of rfl) rfl rfl rfl λS h=>
  kg h (a.AO d) rfl (.of rfl) rfl rfl rfl λS h=>
  xY (rs:=[]) h (Py (a:=a.AO d) hm hl) rfl rfl rfl rfl
end
abbrev kM:=fp.κ.toKeyOrd
structure fy where
 cs:rC
 ds:List (Int×D)
 f:Int
 t:D
 cz:D
def fy.D(s:fy):aE.D:=.tup [.tup (s.cs.map (·.2)),.tup (s.ds.map (·.2)),.tup [.int s.f,s.t],s.cz]
inductive kK where
 |put (a:List Nat) (n:Int)|add (a:List Nat) (n:Int)
def kK.D:kK->aE.D
 |.put a n=>.tup [.str "put",.str (bo a),.int n]|.add a n=>.tup [.str "add",.str (bo a),.int n]
def afM:Option kK->aE.D
 |none=>.aN|some d=>d.D
def fy.cell(s:fy)(a:List Nat):Int:=nu (e6 (Q:=e_) s.cs a)
def fy.put(s:fy)(a:List Nat)(n:Int):fy:={ s with cs:=lU s.cs a n }
def jR(s:fy)(i:Int):kK->fy×aE.D
 |.put a n=>(s.put a n,.int (s.cell a))
 |.add a n=>(s.put a (s.cell a+n),.int (s.cell a+n))
structure i_(G:aE.D->Prop)(W:List (List Nat))(s:fy):Prop where
 row:∀x∈s.cs,kJ x
 rise:j8 e_ s.cs
 nm:∀x∈s.cs,x.1∈W
 num:∀x∈s.ds,p4 x
 nA:j8 kM s.ds
 e':∀x∈s.ds,0<=x.1/\x.1<6
 eQ:s.t=.aN\/∃i:Int,s.t=.int i
 cz:s.cz=.aN\/s.cz=.str "over"\/(∃xs,s.cz=.tup xs)/\G s.cz
 xE:∀x∈s.ds,aE.Ok 2 x.2
def tJ(G:aE.D->Prop)(W:List (List Nat)):kK->Prop
 |.put a _=>nq a/\a∈W|.add a _=>nq a/\a∈W
def ad4{z:Int}(h0:0<=z)(k4:z<6):z∈([0,1,2,3,4,5]:List Int):=by
 have e:z=0\/z=1\/z=2\/z=3\/z=4\/z=5:=by omega
 rcases e with e|e|e|e|e|e<;>rw[e]<;>simp
section
variable{G:aE.D->Prop}{W:List (List Nat)}{s:fy}(h:i_ G W s)
include h
theorem i_.cl:s.cs.length<=W.length:=by
 have:=anM (l₂:=W) h.rise.nodup λx ai=>by
  obtain⟨y,a',rfl⟩:=alj.mp ai;exact h.nm y a'
 rwa[aj2]at this
theorem i_.dl:s.ds.length<=6:=by
 have:=anM (l₂:=([0,1,2,3,4,5]:List Int)) h.nA.nodup λx ai=>by
  obtain⟨y,a',rfl⟩:=alj.mp ai;exact ad4 (h.e' y a').1 (h.e' y a').2
 rw[aj2]at this;exact this
theorem i_.b7:s.t.b4 63=true:=by rcases h.eQ with e|⟨i,e⟩<;>rw[e]<;>rfl
theorem aa3(BU:W.length<63)(i:Int)(hd:tJ G W d):mR [s.D,.int i,d.D]=pure (.v (.tup [(jR s i d).1.D,(jR s i d).2])):=by
 have hl:s.cs.length<63:=by have:=h.cl;omega
 have b7:=h.b7;obtain⟨cs,ds,f,t,cz⟩:=s
 cases d with
 |put a n=>exact aa8 h.row h.rise hl _ _ _ hd.1 n i|add a n=>exact aa7 h.row h.rise hl _ _ _ hd.1 n i
end
def fy.last(s:fy)(i:Int):Int:=n2 (e6 (Q:=kM) s.ds i)
def mn(s:fy)(i n:Int):Option kK->fy
 |none=>s|some d=>if(lF s.cz)=true/\s.last i<n then{ (jR s i d).1 with ds:=jt (Q:=kM) s.ds (i,.tup [.int i,.int n,(jR s i d).2]) }else s
def aa2(s:fy)(i:Int)(d:kK):(jR s i d).1.ds=s.ds:=by
 cases d<;>rfl
section
variable{G:aE.D->Prop}{W:List (List Nat)}{s:fy}(h:i_ G W s)
include h
theorem aa6(i:Int)(d:kK):c9 (jR s i d).2=.v (jR s i d).2:=by
 cases d<;>rfl
theorem UK(BU:W.length<63)(i n:Int)(hd:∀x,d=some x->tJ G W x):jk [s.D,.int i,.int n,afM d]=pure (.v (mn s i n d).D):=by
 cases d with
 |none=>exact HV h.num _ _ _ i n .aN rfl (.inl rfl)|some d=>
  have hd:=hd d rfl;unfold mn;dsimp only;have e0:∃xs,d.D=.tup xs:=by cases d<;>exact⟨_,rfl⟩
  obtain⟨xs,e0⟩:=e0
  by_cases c:(lF s.cz)=true/\s.last i<n
  .rw[if_pos c]
   have dk:=aa3 h BU i hd;have cT:=aa2 s i d;have os:=aa6 h i d;have yk:s.cz=.aN:=by
    rcases h.cz with e|e|⟨⟨xs,e⟩,_⟩
    .exact e
    .rw[e]at c;cases c.1
    .rw[e]at c;cases c.1
   have uN:=h.dl;have XS:=h.nA.nodup;have XW:=h.num;generalize jR s i d=o at *;obtain⟨⟨SW,mq,qc,t',sh'⟩,v⟩:=o;obtain⟨cs,ds,f,t,cz⟩:=s;dsimp only at cT os yk dk uN ⊢;subst cT yk;show jk [_,_,_,d.D]=_;unfold fy.D at dk ⊢;dsimp only at dk ⊢;rw[e0]at dk ⊢;have aw:=HT XW (.tup (cs.map (·.2))) (.tup [.int f,t]) i n xs c.2 (show mq.length<63 by omega) XS (c':=.tup (SW.map (·.2))) (le':=.tup [.int qc,t']) (sh':=sh') (v:=v);exact aw dk os
  .rw[if_neg c]
   show jk [_,_,_,d.D]=_;rw[e0];refine HV h.num _ _ _ i n (.tup xs) rfl (.inr ⟨⟨_,rfl⟩,?_⟩);rcases h.cz with e|e|⟨⟨zs,e⟩,_⟩
   .refine .inr (.inr ⟨e,?_⟩)
    rw[e]at c;have:¬s.last i<n:=λz=>c ⟨rfl,z⟩
    unfold fy.last at this;omega
   .exact .inl e
   .exact .inr (.inl ⟨zs,e⟩)
end
section
variable{G:aE.D->Prop}{W:List (List Nat)}{s:fy}(h:i_ G W s)
include h
theorem i_.put(ao:nq a)(hw:a∈W)(n:Int):i_ G W (s.put a n) where
 row:=afS h.row ao n
 rise:=afR h.rise a n
 nm:=λx ai=>by
  have ai:x∈lU s.cs a n:=ai;unfold lU at ai;split at ai
  .exact h.nm x ((uf (Q:=e_)).mp ai).1
  .rcases(sY (Q:=e_)).mp ai with⟨ai,_⟩|rfl
   .exact h.nm x ai
   .exact hw
 num:=h.num
 nA:=h.nA
 e':=h.e'
 eQ:=h.eQ
 cz:=h.cz
 xE:=h.xE
theorem aa4(i:Int)(hd:tJ G W d):i_ G W (jR s i d).1:=by
 cases d with
 |put a n=>exact h.put hd.1 hd.2 n|add a n=>exact h.put hd.1 hd.2 _
theorem Lo(i:Int)(d:kK):aE.Ok 1 (jR s i d).2:=by
 cases d<;>exact js
theorem UL{i:Int}(h0:0<=i)(k4:i<6)(n:Int)(hd:∀x,d=some x->tJ G W x):i_ G W (mn s i n d):=by
 cases d with
 |none=>exact h|some d=>
  have o:=aa4 h i (hd d rfl);unfold mn;dsimp only;split
  .refine⟨o.row,o.rise,o.nm,?_,?_,?_,o.eQ,o.cz,?_⟩
   .exact K_ h.num i n _
   .exact D4 _ h.nA.nodup
   .intro x ai
    rcases(sY (Q:=kM)).mp ai with⟨ai,_⟩|rfl
    .exact h.e' x ai
    .exact⟨h0,k4⟩
   .intro x ai
    rcases(sY (Q:=kM)).mp ai with⟨ai,_⟩|rfl
    .exact h.xE x ai
    .exact Lc js js (Lo h i d)
  .exact h
theorem i_.ok(BU:W.length<=1000)(o2:∀z,G z->aE.Ok 9 z):aE.Ok 10 s.D:=by
 have hc:=h.cl;have hd:=h.dl;refine aaH (n:=9) (qQ (n:=3) (qR (n:=2) (by rw[aj2];omega) λx ai=>?_) (by decide)) (qQ (n:=3) (qR (n:=2) (by rw[aj2];omega) λx ai=>?_) (by decide)) (qQ (n:=1) (sN js ?_) (by decide)) ?_
 .obtain⟨y,a',rfl⟩:=alj.mp ai
  obtain⟨w,n,_,e⟩:=h.row y a';rw[e];exact qQ (n:=1) (sN (zg w.1) js) (by decide)
 .obtain⟨y,a',rfl⟩:=alj.mp ai
  exact h.xE y a'
 .rcases h.eQ with e|⟨i,e⟩
  .rw[e];exact zf
  .rw[e];exact js
 .rcases h.cz with e|e|⟨_,g⟩
  .rw[e];exact zf
  .rw[e];exact zg (by decide +kernel)
  .exact o2 _ g
end
end en
namespace en
open PySem PySem.Spec ax aE
def Fe{xs:List D}{i:Nat}{d:D}(h:(ig xs xs)[i]? = some d):∃x,xs[i]? = some x/\d=.tup [x,x]:=by
 unfold ig at h;rw[akD]at h
 cases e:(xs.zip xs)[i]? with
 |none=>rw[e]at h;cases h
 |some p=>
  rw[e]at h;cases h;obtain⟨a,b⟩:=amX.mp e;rw[a]at b;exact⟨p.1,a,by show D.tup [p.1,p.2]=_;rw[<-aky b]⟩
def hk{t:aQ->M Bool}{a b:aI}(e:t Y=pure false):bV (cV t a cH) b Y=b Y:=kx (Jx e)
def w_{a b:bf}{r:M R}(e:a Y=pure (.v (.au true)))(aG:b Y=r):jc a b Y=r:=by show(a Y >>= _)=_;rw[e];exact aG
def Nz(n:Nat):hg (n+1) [.aN,.aN]=pure (.v (.au true)):=kX rfl ((hk (fW rfl)).trans (pO ((pb (fW rfl)).trans (lL rfl))))
def Nw(n:Nat)(b:Bool):hg (n+1) [.au b,.au b]=pure (.v (.au true)):=kX rfl ((hk (fW rfl)).trans ((hk (fW rfl)).trans (pO ((pb (fW rfl)).trans (lL (w_ rfl (eZ (U0 b) rfl rfl)))))))
def same_int(n:Nat)(i:Int):hg (n+1) [.int i,.int i]=pure (.v (.au true)):=kX rfl ((hk (fW rfl)).trans ((hk (fW rfl)).trans ((hk (fW rfl)).trans (pO ((pb (fW rfl)).trans (lL (w_ rfl (w_ rfl (eZ (H2.trans (by rw[decide_eq_true rfl])) rfl rfl)))))))))
def same_str(n:Nat)(h:akf x=true):hg (n+1) [.str x,.str x]=pure (.v (.au true)):=kX rfl ((hk (fW rfl)).trans ((hk (fW rfl)).trans ((hk (fW rfl)).trans ((hk (fW rfl)).trans (lL (w_ rfl (eZ (eq_str h) rfl rfl)))))))
def K5(b:Bool):d5 (.v (.au b)) (.v (.au b))=pure (.v (.au false)):=by cases b<;>rfl
def Ig{ms:cU}(aw:ms Y=pure rs)(hz:tC rs=some ds)(e:ha (pR is b) ds Y=pure (.bw Y')):rM is ms b Y=pure (.bw Y'):=by
 show(ms Y >>= _)=_;rw[aw];show(match tC rs with|some ds=>ha (pR is b) ds Y|none=>bad)=_;rw[hz];exact e
def Ny(n:Nat)(s:Slot)(h:∀x∈xs,hg n [x,x]=pure (.v (.au true))):∃Y',ha (pR [2,3] (CO (hg n))) (ig xs xs) [s,s,.e,.e]=pure (.bw Y'):=by
 obtain⟨Y',e,s2,s3,rfl⟩:=xP (b:=pR [2,3] (CO (hg n))) (ds:=ig xs xs) (Y:=[s,s,.e,.e])
  (λi Y=>∃s2 s3,Y=[s,s,s2,s3]) ⟨_,_,rfl⟩ (λi d Y ai ⟨s2,s3,ay⟩=>by
   subst ay;obtain⟨x,X',rfl⟩:=Fe ai;exact⟨_,.inl (Jx (Y:=[s,s,.v x,.v x]) (Dn (fW (call_of (rs:=[.v x,.v x]) rfl (h x (akQ X')))))),_,_,rfl⟩)
 exact⟨_,e⟩
def same_refl:∀(n:Nat)(d:D),Ok n d->hg (n+1) [d,d]=pure (.v (.au true)):=by
 intro n
 induction n with
 |zero=>
  intro d h
  cases d with
  |aN=>exact Nz 0|au b=>exact Nw 0 b|int i=>exact same_int 0 i|str x=>exact same_str 0 h.1| _=>exact absurd h.1 (by intro z;cases z)
 |succ n aZ=>
  intro d h;have parts:∀xs:List D,hL xs n=true->(decide (xs.length<=1000)&&pY xs)=true->(∀x∈xs,hg (n+1) [x,x]=pure (.v (.au true))):=λxs ae ag=>by
   rw[akw]at ag;exact λx ai=>aZ x ⟨BK.mp ae x ai,EV.mp ag.2 x ai⟩
  cases d with
  |aN=>exact Nz _|au b=>exact Nw _ b|int i=>exact same_int _ i|str x=>exact same_str _ h.1|tup xs=>
   obtain⟨Y',S⟩:=Ny (n+1) (.v (.tup xs)) (parts xs h.1 h.2);exact kX rfl (pO ((pb (fW rfl)).trans ((hk ((Ln (Dn (fW rfl))).trans (fW (eZ (K5 true) rfl rfl)))).trans ((hk (fW (eZ (vH.trans (by rw[decide_eq_true rfl];rfl)) rfl rfl))).trans ((kx (Ig (cons_of rfl rfl) rfl S)).trans (lL rfl))))))
  |lst xs=>
   obtain⟨Y',S⟩:=Ny (n+1) (.b8 xs) (parts xs h.1 h.2);exact kX rfl (pO ((pb (fW rfl)).trans ((hk ((Ln (Dn (fW rfl))).trans (fW (eZ (K5 false) rfl rfl)))).trans ((hk (fW (eZ (vH.trans (by rw[decide_eq_true rfl];rfl)) rfl rfl))).trans ((kx (Ig (cons_of rfl rfl) rfl S)).trans (lL rfl))))))
  |_=>exact absurd h.1 (by intro z;cases z)
end en
namespace en
open PySem PySem.Spec ax aE iG gO kL
def Ht(l:List Nat):xw (bo l)=l.map λc=>D.str (ch c):=rfl
def n_(h:n<=1000):n<=aj6:=by rw[akK];omega
def fH(c:Nat):Bool:=decide (97<=c/\c<=122)
def An:("abcdefghijklmnopqrstuvwxyz":Str).cps.toList=(akU 26).map λk=>97+k:=by decide +kernel
def Yo(c:Nat):tj (ch c) "abcdefghijklmnopqrstuvwxyz"=fH c:=by
 unfold tj;rw[show ch c=⟨#[c]⟩from rfl,StrLaws.found_one,An];unfold fH;rw[alm,decide_eq_true_eq,decide_eq_true_eq];simp only[alj,alh];constructor
 .rintro⟨k,aB,rfl⟩;omega
 .intro h;exact⟨c-97,by omega,by omega⟩
def KY(l:List Nat):h4 gJ (av (qN false) (U 0) (af (.str "abcdefghijklmnopqrstuvwxyz"))) [.e] (l.map λc=>D.str (ch c))=pure (l.map λc=>D.au (fH c)):=
 A7 (λc=>D.str (ch c)) (λc=>D.au (fH c)) l λc _=>by simp[Yo]
structure j6(l:List Nat):Prop where
 p1:1<=l.length
 pH:l.length<=8
 al:l.all fH=true
def j6.ok(h:j6 l):akf (bo l)=true:=aem.mpr λc hc=>by
 have:=alp.mp h.al c hc;simp[fH]at this;omega
def JF(h:j6 l):pq [.str (bo l)]=pure (.v (.au true)):=by
 have az:l.length<=aj6:=n_ (by have:=h.pH;omega);have nP:l.length<aj6:=by rw[akK];have:=h.pH;omega
 have aa:jE (l.map λc=>D.au (fH c))=some (l.map fH):=xl fH _;have hc:=KY l;have hall:(l.map fH).all id=true:=by rw[List.all_map];exact h.al
 have x1:(1:Int)<=(l.length:Int):=by have:=h.p1;omega
 have uD:(l.length:Int)<=8:=by have:=h.pH;omega
 simp only[pq,AG,AH];simp[od,az,x1,uD,Ht,hc,aa,hall,nP]
def Pn{i:Int}(h0:0<=i)(h:i<26):∃c,bB (.v (.str "abcdefghijklmnopqrstuvwxyz")) (.v (.int i))=pure (.v (.str (bo [c])))/\fH c=true:=by
 obtain⟨c,e⟩:=FN (xs:=("abcdefghijklmnopqrstuvwxyz":Str).cps.toList) (i:=i) h0 (by rw[An];simpa using h);refine⟨c,?_,?_⟩
 .show(match eK ("abcdefghijklmnopqrstuvwxyz":Str).cps.toList i with
   |some c=>if("abcdefghijklmnopqrstuvwxyz":Str).length<=aj6 then(pure (R.v (.str ⟨#[c]⟩)):M R)else bad| none=>bad)=_
  rw[e];dsimp only;rw[if_pos (n_ (by decide +kernel))];rfl
 .have:=FL e
  rw[An]at this;obtain⟨k,aB,rfl⟩:=alj.mp this;have:=alh.mp aB;simp[fH];omega
def ZU:("m":Str)=bo [109]:=by decide +kernel
def UU:("":Str)=bo []:=by decide +kernel
def Zz(c:Int):∃a,yT [.int c]=pure (.v (.str (bo a)))/\j6 a:=by
 have BQ:=mod_lt (a:=c) (b:=8) (by decide);obtain⟨z,hz,ajn⟩:∃z:Nat,1+c % 8=(z:Nat)/\1<=z/\z<=8:=⟨(1+c % 8).toNat,by omega,by omega,by omega⟩;have IG:=mod_lt (a:=c / 64) (b:=26) (by decide);obtain⟨x,aw,ai⟩:=Pn IG.1 IG.2;have ahN:0<z:=by omega
 obtain⟨Y',e,a,s4,rfl,aT,hl⟩:=xP (b:=λd Y=>yH (Y.set 4 (.v d))) (ds:=mZ 0 z) (Y:=[.v (.int c),.v (.int (z:Nat)),.v (.int (c / 8 % (z:Nat))),.v (.str (bo [])),.e])
  (λi Y=>∃(a:List Nat)(s4:Slot),Y=[.v (.int c),.v (.int (z:Nat)),.v (.int (c / 8 % (z:Nat))),.v (.str (bo a)),s4]/\a.all fH=true/\a.length=i)
  ⟨[],_,rfl,rfl,rfl⟩ (λi d Y hd ⟨a,s4,ay,aT,hl⟩=>by
   subst ay;have aA:i<z:=by
    have:=(aj1.mp hd).1
    rwa[show(mZ 0 z).length=z by simp[mZ]]at this
   obtain⟨j,rfl⟩:∃j:Int,d=.int j:=by
    have:=akQ hd;simp only[mZ]at this;obtain⟨j,_,rfl⟩:=alj.mp this;exact⟨_,rfl⟩
   have d7:a.length+1<=aj6:=n_ (by omega)
   by_cases q:j=c / 8 % (z:Nat)
   .refine⟨_,.inl (?_:_=pure (f_.bw [.v (.int c),.v (.int (z:Nat)),.v (.int (c / 8 % (z:Nat))),.v (.str (bo (a++[x]))),.v (.int j)])),_,_,rfl,by rw[ao0,aT];simpa using ai,by rw[aj9,hl];rfl⟩
    simp only[yH];simp[q,aw,od,zK,d7]
   .refine⟨_,.inl (?_:_=pure (f_.bw [.v (.int c),.v (.int (z:Nat)),.v (.int (c / 8 % (z:Nat))),.v (.str (bo (a++[109]))),.v (.int j)])),_,_,rfl,by rw[ao0,aT];decide,by rw[aj9,hl];rfl⟩
    simp only[yH,ZU];simp[q,od,zK,d7])
 have hl:a.length=z:=by rw[hl];simp[mZ]
 refine⟨a,?_,⟨by omega,by omega,aT⟩⟩;have eH:(z:Int)<4611686018427387904:=by omega
 simp only[yT,GJ,GK,GL,GN,GO,UU];simp[hz,ahN,e,eH]
def rW(ai:akf x=true)(a':akf y=true):oEq (.v (.str x)) (.v (.str y))=pure (.v (.au (x==y))):=rX (x:=.v (.str x)) (y:=.v (.str y)) ai a'
def qO:akf "name"=true:=by decide +kernel
def qP:akf "number"=true:=by decide +kernel
def abd(h:j6 l):gE [.str "name",.str (bo l)]=pure (.v (.au true)):=by
 have f:=JF h;have q:=rW qO qO;rw[show(("name":Str) == "name")=true by simp]at q;simp only[gE,AJ];generalize bo l=x at f ⊢;simp[q,f]
def Dp{n:Int}(h:-(10 ^ 60)<n/\n<10 ^ 60):nZ [.int n]=pure (.v (.au true)):=by
 have w:=zP n;have e:decide ((if n<0 then -n else n)<1000000000000000000000000000000000000000000000000000000000000)=true:=by
  rw[decide_eq_true_eq];have ae:=h.1;have ag:=h.2;split<;>omega
 simp only[nZ,AI];rw[<-e];simp[w]
def abe{n:Int}(h:-(10 ^ 60)<n/\n<10 ^ 60):gE [.str "number",.int n]=pure (.v (.au true)):=by
 have f:=Dp h;have q:=rW qP qO;rw[show(("number":Str) == "name")=false by decide +kernel]at q;have b2:=rW qP qP;rw[show(("number":Str) == "number")=true by simp]at b2;simp only[gE,AJ,Gs];simp[q,b2,f]
def Vf:nW.lookup ("put":Str)=some (.tup [.str "name",.str "number"]):=rfl
def Ve:nW.lookup ("add":Str)=some (.tup [.str "name",.str "number"]):=rfl
def HG(x:D)(ps:List D):cutD (x::ps) (some 1) none=ps:=HH (x::ps) 1
structure Fq(d:D):Prop where
 ex:∃(w:Str)(l:List Nat)(n:Int),d=.tup [.str w,.str (bo l),.int n]/\(w="put"\/w="add")/\j6 l/\(-(10 ^ 60)<n/\n<10 ^ 60)
def YD(h:Fq d):km [d]=pure (.v (.au true)):=by
 obtain⟨w,l,n,rfl,hw,hl,aF⟩:=h.ex;have aW:nW.lookup w=some (.tup [.str "name",.str "number"]):=by rcases hw with rfl|rfl;exact Vf;exact Ve
 have p1:=abd hl;have cy:=abe aF;have tE:2<aj6:=by rw[akK];omega
 generalize bo l=x at p1 ⊢;have u9:kl gJ (bj gE (J (U 0) (J (U 1) aj))) [.e,.e] [(.str "name",.str x),(.str "number",.int n)]=pure [.au true,.au true]:=by
  simp[kl,p1,cy]
 simp only[km,AB,AD,AE,AF,yQ,Az];simp[aW,HG,u9,jE,tE,tB,R.walk]
def Zx(c s:Int):∃d,vl [.int c,.int s]=pure (.v d)/\Fq d:=by
 obtain⟨l,aw,hl⟩:=Zz (s+64*(c / 6 % 3));have x2:=mod_lt (a:=c / 6) (b:=10 ^ 40) (by decide);have bO:=mod_lt (a:=c) (b:=3) (by decide);obtain⟨w,qb,hw⟩:∃w:Str,eK [D.str "put",.str "add",.str "add"] (c % 3)=some (.str w)/\(w="put"\/w="add"):=by
  rcases(by omega:c % 3=0\/c % 3=1\/c % 3=2)with h|h|h
  .exact⟨"put",by rw[h];simp,.inl rfl⟩
  .exact⟨"add",by rw[h];simp,.inr rfl⟩
  .exact⟨"add",by rw[h];simp,.inr rfl⟩
 generalize VT:c / 6 % 10 ^ 40=X at x2;refine⟨.tup [.str w,.str (bo l),.int (if c % 5=0 then 0-X else X)],?_,⟨w,l,_,rfl,hw,hl,by split<;>omega⟩⟩;simp only[vl,GB,GC,GD];generalize bo l=x at aw ⊢;have IQ:c / 6 % 10000000000000000000000000000000000000000=X:=VT;have Hy:ox 64 (c / 6 % 3):=.inl ⟨by decide,by decide⟩
 by_cases q:c % 5=0
 .simp[q,IQ,aw,qb,Hy]
 .simp[q,IQ,aw,qb,Hy]
def yZ{l:List Nat}(hl:l.length<=1000)(h:1<=l.length)(q:8<l.length\/l.all fH=false):pq [.str (bo l)]=pure (.v (.au false)):=by
 have az:l.length<=aj6:=n_ hl;have nP:l.length<aj6:=by rw[akK];omega
 have aa:jE (l.map λc=>D.au (fH c))=some (l.map fH):=xl fH _;have hc:=KY l;have x1:(1:Int)<=(l.length:Int):=by omega
 simp only[pq,AG,AH]
 by_cases BQ:l.length<=8
 .have hall:(l.map fH).all id=false:=by rw[List.all_map];exact q.resolve_left (by omega)
  have uD:(l.length:Int)<=8:=by omega
  simp[od,az,x1,uD,Ht,hc,aa,hall,nP]
 .have uD:¬(l.length:Int)<=8:=by omega
  simp[od,az,x1,uD]
def Dq{n:Int}(h:n<=-(10 ^ 60)\/10 ^ 60<=n):nZ [.int n]=pure (.v (.au false)):=by
 have w:=zP n;have e:decide ((if n<0 then -n else n)<1000000000000000000000000000000000000000000000000000000000000)=false:=by
  rw[decide_eq_false_iff_not];split<;>omega
 simp only[nZ,AI];rw[<-e];simp[w]
def H9{n:Int}(h:n<0\/10 ^ 60<=n)(ag:-(10 ^ 60)<n):vk [.int n]=pure (.v (.au false)):=by
 simp only[vk,Gr]
 by_cases c:n<10 ^ 60
 .have w:=Dp (n:=n) ⟨ag,c⟩
  have p9:¬0<=n:=by omega
  simp[w,p9]
 .have w:=Dq (n:=n) (.inr (by omega))
  simp[w]
def ze:akf "fence"=true:=by decide +kernel
def DG:akf "hall"=true:=by decide +kernel
section
variable{d:D}{r:R}{b:Bool}(bu:U 1 [.v (.str "x"),c9 d]=pure r)(ao:r.arg=d)
def CC(h:akf x=true)(s:Slot):br (av oEq (U 0) (af (.str x))) [.v (.str x),s]=pure true:=fW (eZ ((rW h h).trans (by rw[beq_self_eq_true])) rfl rfl)
def sq(ai:akf x=true)(a':akf y=true)(h:(y==x)=false)(s:Slot):br (av oEq (U 0) (af (.str x))) [.v (.str y),s]=pure false:=fW (eZ ((rW a' ai).trans (by rw[h])) rfl rfl)
include bu ao
theorem qY(e:pq [d]=pure (.v (.au b))):gE [.str "name",d]=pure (.v (.au b)):=kX rfl (pO ((pb (CC qO _)).trans (lL (call_of (cons_of bu rfl) (by rw[akb,ao];exact e)))))
theorem qZ(e:nZ [d]=pure (.v (.au b))):gE [.str "number",d]=pure (.v (.au b)):=kX rfl ((hk (sq qO qP (by decide +kernel) _)).trans (pO ((pb (CC qP _)).trans (lL (call_of (cons_of bu rfl) (by rw[akb,ao];exact e))))))
theorem sX(e:vk [d]=pure (.v (.au b))):gE [.str "fence",d]=pure (.v (.au b)):=kX rfl ((hk (sq qO ze (by decide +kernel) _)).trans ((hk (sq qP ze (by decide +kernel) _)).trans (pO ((pb (CC ze _)).trans (lL (call_of (cons_of bu rfl) (by rw[akb,ao];exact e)))))))
theorem zm(e:C6 [d]=pure (.v (.au b))):gE [.str "hall",d]=pure (.v (.au b)):=kX rfl ((hk (sq qO DG (by decide +kernel) _)).trans ((hk (sq qP DG (by decide +kernel) _)).trans ((hk (sq ze DG (by decide +kernel) _)).trans (lL (call_of (cons_of bu rfl) (by rw[akb,ao];exact e))))))
end
abbrev zl(ks ps:List D)(bs:List Bool):Prop:=kl gJ (bj gE (J (U 0) (J (U 1) aj))) [.e,.e] (ks.zip ps)=pure (bs.map D.au)
def vU:zl [] [] []:=rfl
def mY{k p:D}{bs:List Bool}(e:gE [k,p]=pure (.v (.au b)))(h:zl ks ps bs):zl (k::ks) (p::ps) (b::bs):=by
 show kl _ _ _ ((k,p)::ks.zip ps)=_;have h:kl gJ (bj gE (J (U 0) (J (U 1) aj))) [.e,.e] (ks.zip ps)=pure (bs.map D.au):=h;simp[kl,e,h]
def ub{ks ps:List D}{bs:List Bool}(aW:nW.lookup w=some (.tup ks))(u9:zl ks ps bs)(hl:ks.length=ps.length)(bO:ps.length<=3):km [.tup (.str w::ps)]=pure (.v (.au (bs.all id))):=by
 have u9:kl gJ (bj gE (J (U 0) (J (U 1) aj))) [.e,.e] (ks.zip ps)=pure (bs.map D.au):=u9;have tE:ps.length<aj6:=by rw[akK];omega
 have au:jE (bs.map D.au)=some bs:=by rw[xl,List.map_id']
 have ne:¬((ps.length:Int)+1=0):=by omega
 simp only[km,AB,AD,AE,AF,yQ,Az];simp[aW,hl,HG,u9,au,tE,tB,R.walk,ne]
structure tG(d:D):Prop where
 nn:lF d=false
 no:km [d]=pure (.v (.au false))
def up(l:List Nat):List Nat:=l.map (· - 32)
def xj(l:List Nat)(n:Int):List D:=
 [.str "put",.str "glance",.str "",.int 0,.au true,.au false,.tup [],.lst [],.tup [.str "put"],.tup [.str "put",.str (bo l)],.tup [.str "put",.str (bo l),.au true]]++
 [.tup [.str "put",.str (bo l),.aN],.tup [.str "put",.str (bo l),.str "1"],.tup [.str "put",.str (bo (up l)),.int 1],.tup [.str "put",.str "",.int 1]]++
 [.tup [.str "put",.str (bo (l++[109,109,109,109,109,109,109,109])),.int 1],.tup [.str "add",.str (bo l),.int (10 ^ 60+n)]]++[.tup [.str "add",.str (bo l),.int (0-10 ^ 60-n)]]++
 [.lst [.str "put",.str (bo l),.int 1],.tup [.str "put",.str (bo l),.int 1,.int 1],.tup [.str "swap",.str (bo l),.int 1],.tup [.str "swap",.str (bo l),.int 1,.au true],.tup [.str "take"]]++
 [.tup [.str "take",.int (-1-n)],.tup [.str "take",.au true],.tup [.str "take",.int (10 ^ 60+n)],.tup [.str "renew",.str "0"],.tup [.str "free",.aN]]++
 [.tup [.str "sure",.int 0,.str (bo l)],.tup [.str "sure",.str (bo l),.int 0,.int 1],.tup [.str "move"],.tup [.str "move",.str "over"],.tup [.str "move",.aN]]++
 [.tup [.str "move",.tup [.int 0,.int 1]],.tup [.str "move",.lst [.int 0,.int 0]],.tup [.str "end",.int 1],.str "end",.tup [.str "glance"],.tup [.aN],.tup [.str "over"],.tup [.str "End"]]++
 [.tup [.str "put",.str (bo (l.drop 1++[49])),.int 1],.tup [.str "put",.str "m m",.int 1],.int n,.int (0-n),.lst [.aN],.tup [.str "renew",.int 0,.int 0]]
def afC(h:fH c=true):fH (c-32)=false:=by
 simp only[fH,decide_eq_true_eq,decide_eq_false_iff_not]at h ⊢;omega
def R1(h:j6 l){n:Int}(h0:0<=n)(ae:n<10 ^ 40):∀d∈xj l n,tG d:=by
 have p1:=h.p1;have pH:=h.pH;have nm:=JF h;have e7:nZ [.int 1]=pure (.v (.au true)):=Dp ⟨by decide,by decide⟩;have nr:∃c r,l=c::r:=by cases l with|nil=>cases p1|cons c r=>exact⟨c,r,rfl⟩
 have two:∀{w:Str}{x y:D}{b3 bY:Bool},nW.lookup w=some (.tup [.str "name",.str "number"])->gE [.str "name",x]=pure (.v (.au b3))->gE [.str "number",y]=pure (.v (.au bY))->(b3&&bY)=false->tG (.tup [.str w,x,y]):=
  λaW aw aG q=>⟨rfl,(ub aW (mY aw (mY aG vU)) rfl (aj3 rfl)).trans (by simp[q])⟩
 have uu:∀{w:Str}{x:D},nW.lookup w=some (.tup [.str "fence"])->gE [.str "fence",x]=pure (.v (.au false))->tG (.tup [.str w,x]):=λaW aw=>⟨rfl,ub aW (mY aw vU) rfl (aj3 rfl)⟩
 have x6:∀{x:D},gE [.str "hall",x]=pure (.v (.au false))->tG (.tup [.str "move",x]):=λaw=>⟨rfl,ub (ks:=[.str "hall"]) rfl (mY aw vU) rfl (aj3 rfl)⟩
 have h9:gE [.str "name",.str (bo l)]=pure (.v (.au true)):=qY rfl rfl nm;have qS:gE [.str "number",.int 1]=pure (.v (.au true)):=qZ rfl rfl e7;have up1:pq [.str (bo (up l))]=pure (.v (.au false)):=yZ (by unfold up;rw[aj2];omega) (by unfold up;rw[aj2];omega) (.inr (by
  obtain⟨c,r,rfl⟩:=nr;have:=h.al;rw[al6,akw]at this;show(fH (c-32)&&_)=false;rw[afC this.1];rfl))
 have Z7:gE [.str "name",.str "m m"]=pure (.v (.au false)):=qY rfl rfl (by rw[show("m m":Str)=bo [109,32,109]by decide +kernel];exact yZ (by decide) (by decide) (.inr rfl));simp only[xj,aoJ,aoY,alq,aly,false_implies,implies_true,and_true];refine⟨⟨rfl,rfl⟩,⟨rfl,rfl⟩,⟨rfl,rfl⟩,⟨rfl,rfl⟩,⟨rfl,rfl⟩,⟨rfl,rfl⟩,⟨rfl,rfl⟩,⟨rfl,rfl⟩,⟨rfl,rfl⟩,⟨rfl,rfl⟩,two rfl h9 (qZ (b:=false) rfl rfl rfl) rfl,
  two rfl h9 (qZ (b:=false) rfl rfl rfl) rfl,two rfl h9 (qZ (b:=false) rfl rfl rfl) rfl,two rfl (qY rfl rfl up1) qS rfl,two rfl (qY (b:=false) rfl rfl rfl) qS rfl,
  two rfl (qY rfl rfl (yZ (by rw[aj9];show _+8<=_;omega) (by rw[aj9];omega) (.inl (by rw[aj9];show 8 < _+8;omega)))) qS rfl,two rfl h9 (qZ rfl rfl (Dq (.inr (by omega)))) rfl,two rfl h9 (qZ rfl rfl (Dq (.inl (by omega)))) rfl,
  ⟨rfl,rfl⟩,⟨rfl,rfl⟩,⟨rfl,rfl⟩,⟨rfl,ub (ks:=[.str "name",.str "number",.str "number"]) (bs:=[true,true,false]) rfl (mY h9 (mY qS (mY (qZ rfl rfl (b:=false) rfl) vU))) rfl (aj3 rfl)⟩,⟨rfl,rfl⟩,
  uu rfl (sX rfl rfl (H9 (.inl (by omega)) (by omega))),uu rfl (sX (b:=false) rfl rfl rfl),uu rfl (sX rfl rfl (H9 (.inr (by omega)) (by omega))),uu rfl (sX (b:=false) rfl rfl rfl),uu rfl (sX (b:=false) rfl rfl rfl),
  ⟨rfl,rfl⟩,⟨rfl,ub (ks:=[.str "fence",.str "name",.str "number"]) (bs:=[false,false,true]) rfl (mY (sX rfl rfl (b:=false) rfl) (mY (qY rfl rfl (b:=false) rfl) (mY qS vU))) rfl (aj3 rfl)⟩,⟨rfl,rfl⟩,x6 (zm (b:=false) rfl rfl rfl),x6 (zm (b:=false) rfl rfl rfl),
  x6 (zm (b:=false) rfl rfl rfl),x6 (zm (r:=.b8 [.int 0,.int 0]) rfl rfl rfl),⟨rfl,rfl⟩,⟨rfl,rfl⟩,⟨rfl,rfl⟩,⟨rfl,rfl⟩,⟨rfl,rfl⟩,⟨rfl,rfl⟩,
  two rfl (qY rfl rfl (yZ (by rw[aj9,akY];show _+1<=_;omega) (by rw[aj9];show 1<=_+1;omega) (.inr (by rw[ao0];exact Bool.and_false _)))) qS rfl,two rfl Z7 qS rfl,⟨rfl,rfl⟩,⟨rfl,rfl⟩,⟨rfl,rfl⟩,⟨rfl,rfl⟩⟩
def afB:∀k:Fin 26,ao1 (97+k.val)=[65+k.val]:=by decide +kernel
def afD(h:fH c=true):ao1 c=[c-32]:=by
 simp only[fH,decide_eq_true_eq]at h;have:=afB ⟨c-97,by omega⟩;rw[show 97+(c-97)=c by omega,show 65+(c-97)=c-32 by omega]at this;exact this
def afE{l:List Nat}(h:l.all fH=true):Txt.upper (bo l)=bo (up l):=by
 have e:∀(l:List Nat),l.all fH=true->((l.toArray.mapIdx λ(_:Nat) c=>(ao1 c).toArray).flatten)=(up l).toArray:=λl h=>by
  induction l with
  |nil=>rfl|cons c l aZ=>
   rw[al6,akw]at h;have aZ:=aZ h.2;simp only[List.mapIdx_toArray,List.mapIdx_cons,afD h.1]at aZ ⊢;simp[up]at aZ ⊢;exact aZ
 exact congrArg Str.mk (e l h)
def oS{xs ys:List D}{Y:aQ}{b:aI}(ai:U 3 Y=pure (.v (.lst xs)))(e:c8 ms Y=pure (.fr ys))(z:xs.length+ys.length<=1000):bV (cY 3 (av hj (U 3) (c8 ms))) b Y=b (Y.set 3 (.v (.lst (xs++ys)))):=
 kx (q3 (eZ (t_ (n_ z)) ai e) rfl)
def Zv(h:j6 l)(n c:Int):∃d,C_ [.int c,.str (bo l),.int n]=pure (.v d)/\d∈xj l n:=by
 have pH:=h.pH;have aw:vL (.v (.str (bo l)))=pure (.v (.str (bo (up l)))):=by
  show(if(bo l).length<=1000 then _ else _)=_;rw[if_pos (by rw[od];omega),afE h.al]
 have aG:mV (.v (.str (bo l))) (.v (.str "mmmmmmmm"))=pure (.v (.str (bo (l++[109,109,109,109,109,109,109,109])))):=by
  rw[show("mmmmmmmm":Str)=bo [109,109,109,109,109,109,109,109]by decide +kernel];simp[od,zK,n_ (n:=l.length+8) (by omega)]
 obtain⟨d,hd⟩:∃d,eK (xj l n) (c % 47)=some d:=by
  have:=mod_lt (a:=c) (b:=47) (by decide);exact FN this.1 this.2
 refine⟨d,?_,FL hd⟩;refine kX (b:=Gx) rfl ?_;refine(kx (Y':=[.v (.int c),.v (.str (bo l)),.v (.int n),.v (.lst _)]) rfl).trans ?_;refine(oS rfl (lz (cons_of rfl (cons_of rfl (cons_of (EB rfl aw rfl) (cons_of rfl rfl)))) rfl (aj3 rfl)) (aj3 rfl)).trans ?_;refine(oS rfl (lz (cons_of (EB rfl aG rfl) (cons_of rfl rfl)) rfl (aj3 rfl)) (aj3 rfl)).trans ?_;have c3:Dx (.v (.str (bo l))) (some 1) none=pure (.v (.str (bo (l.drop 1)))):=by
  show(if(bo l).length<=aj6 then _ else _)=_;rw[if_pos (by rw[od];exact n_ (by omega))];show pure (R.v (D.str ⟨(cutD l (some 1) none).toArray⟩))=_;rw[show cutD l (some 1) none=l.drop 1 from HH l 1];rfl
 have fS:mV (.v (.str (bo (l.drop 1)))) (.v (.str "1"))=pure (.v (.str (bo (l.drop 1++[49])))):=by
  rw[show("1":Str)=bo [49]by decide +kernel];simp[od,zK,n_ (n:=l.length-1+1) (by omega)]
 refine(oS rfl (lz rfl rfl (aj3 rfl)) (aj3 rfl)).trans ?_;refine(oS rfl (lz rfl rfl (aj3 rfl)) (aj3 rfl)).trans ?_;refine(oS rfl (lz rfl rfl (aj3 rfl)) (aj3 rfl)).trans ?_;refine(oS rfl (lz rfl rfl (aj3 rfl)) (aj3 rfl)).trans ?_;refine(oS rfl (lz rfl rfl (aj3 rfl)) (aj3 rfl)).trans ?_;refine(oS rfl (lz (cons_of (EB rfl (eZ fS c3 rfl) rfl) rfl) rfl (aj3 rfl)) (aj3 rfl)).trans ?_;exact lL (eZ (YL hd) rfl (eZ (sD (by decide)) rfl rfl))
abbrev ff(k:Nat):List Key:=[.inl (k:Nat),.inl 0]
def hO(pr kp:eo)(w:D):D:=.tup [dI pr,dI kp,w]
def g0(aC:List (List Key×D))(k:Nat):D:=(je aC (ff k)).getD (hO (0,0) (0,0) .aN)
def ZA{S:cJ}(h:S[i]? = some (.e0 aC))(k:Nat):aS S (yU [.ref i,cF k,.int 0]) (.v (g0 aC k)):=
 lq rfl (sm (Y3 h (.of rfl) (.of rfl) (.of rfl) rfl (aj3 rfl)))
def cmp_gt(s t:eo):pF gD (.v (dI s)) (.v (dI t))=pure (.v (.au (ja s t))):=by
 show pure (R.v (.au (gD [s.1,s.2] [t.1,t.2])))=_;rw[Ke]
def ZH(s t:eo):h7 [s.1,s.2] [t.1,t.2] = !ja t s:=by
 unfold h7 ja;rw[qC,qC]
 by_cases bp:s.1=t.1
 .rw[if_pos bp,bp]
  by_cases b2:s.2=t.2
  .rw[if_pos b2,b2]
   simp[mO]
  .rw[if_neg b2,alm];simp
 .rw[if_neg bp,alm]
  simp;omega
def SP(s t:eo):pF h7 (.v (dI s)) (.v (dI t))=pure (.v (.au (!ja t s))):=by
 show pure (R.v (.au (h7 [s.1,s.2] [t.1,t.2])))=_;rw[ZH]
def DD:akf "ask"=true:=by decide +kernel
def DJ:akf "tell"=true:=by decide +kernel
def Pm:oEq (.v (.str "ask")) (.v (.str "ask"))=pure (.v (.au true)):=by rw[iy DD DD,beq_self_eq_true]
def ae0:oEq (.v (.str "tell")) (.v (.str "ask"))=pure (.v (.au false)):=by rw[iy DJ DD];rfl
def afn:oEq (.v (.str "tell")) (.v (.str "tell"))=pure (.v (.au true)):=by rw[iy DJ DJ,beq_self_eq_true]
section
variable{aC:List (List Key×D)}{k:Nat}{me:Int}{s pr kp:eo}{w:D}(aL:g0 aC k=hO pr kp w)
include aL
variable{S:cJ}{i:Nat}(aA:S[i]? = some (.e0 aC))
include aA
theorem Lq{aw aG c3:bf}(h0:c3 Y=pure (.v (.ref i)))(ae:aw Y=pure (.v (cF k)))(ag:aG Y=pure (.v (.int 0))):aS S (bj yU (J c3 (J aw (J aG aj))) Y) (.v (hO pr kp w)):=
 eC (cQ (.of h0) (cQ (.of ae) (cQ (.of ag) er))) (aL▸ZA aA k)
theorem Xr(hz:aC.length<1000)(ab:ja s pr=true):bK S (sy [.ref i,oO me 0 s k]) (.v (my k me 0 s kp w)) (S.set i (.e0 (hx aC (ff k) (hO s kp w)))):=
 zV rfl (fK (aS.to (yy (.of rfl) rfl)) (fK (aS.to (yy (Lq aL aA rfl rfl rfl) rfl)) (zX (zW (aS.to (nS (c1 (di Pm (.of rfl) (.of rfl))) (c1 (di ((cmp_gt s pr).trans (by rw[ab])) (.of rfl) (.of rfl))))) (fK (OB (k:=ff k) rfl rfl (.of rfl) (.of rfl) aA rfl ⟨aj3 rfl,hz⟩) rfl)))))
variable{b n dd t:D}
theorem Xs(hz:aC.length<1000)(ab:ja pr s=false):bK S (sy [.ref i,q9 me 0 s (.tup [b,n,dd,t]) k]) (.v (iV k me 0 s)) (S.set i (.e0 (hx aC (ff k) (hO s s t)))):=
 zV rfl (fK (aS.to (yy (.of rfl) rfl)) (fK (aS.to (yy (Lq aL aA rfl rfl rfl) rfl)) (zY (aS.to (qw (c1 (di ae0 (.of rfl) (.of rfl))))) (zX (zW (aS.to (nS (c1 (di afn (.of rfl) (.of rfl))) (c1 (di ((SP s pr).trans (by rw[ab];rfl)) (.of rfl) (.of rfl))))) (fK (OB (k:=ff k) rfl rfl (.of rfl) (.of rfl) aA rfl ⟨aj3 rfl,hz⟩) rfl))))))
end
def UM(aC:List (List Key×D))(k:List Key)(d:D):(hx aC k d).length<=aC.length+1:=by
 unfold hx;split
 .rw[aj2];omega
 .rw[aj9];exact aj8 _
def UQ{k j:List Key}(h:j≠k)(d:D):∀aC:List (List Key×D),je (hx aC k d) j=je aC j:=by
 intro aC;unfold hx je;split
 .rename_i nG
  clear nG
  induction aC with
  |nil=>rfl|cons p aC aZ=>
   rw[akb]
   by_cases c:p.1=k
   .rw[if_pos c,akT (by simpa using λz=>h (z.symm.trans c)),akT (by simpa using λz=>h (z.symm.trans c))]
    exact aZ
   .rw[if_neg c]
    by_cases av:p.1=j
    .rw[ald (by simpa using av),ald (by simpa using av)]
    .rw[akT (by simpa using av),akT (by simpa using av)]
     exact aZ
 .rw[List.find?_append]
  cases e:aC.find? λkv=>decide (kv.1=j)with
  |none=>rw[akT (by simpa using alR h)];rfl|some x=>rfl
def Zi{j k:Nat}(h:j≠k):ff j≠ff k:=λz=>h (by injection z with z;injection z with z;omega)
def LC{j k:Nat}(h:j≠k)(aC:List (List Key×D))(d:D):g0 (hx aC (ff k) d) j=g0 aC j:=by unfold g0;rw[UQ (Zi h)]
end en
namespace iG
mutual
def ho(s:Nat):a4->a4
 |.kp k=>.kp ((k+s) % 6)|.ch k ps=>.ch k (jw s ps)
def jw(s:Nat):List a4->List a4
 |[]=>[]
 |r::rs=>ho s r::jw s rs
end
theorem EA(s:Nat):∀ps:List a4,jw s ps=ps.map (ho s)
 |[]=>rfl| r::rs=>by rw[akb,<-EA s rs];rfl
def aff(s k:Nat)(ps:List a4):ho s (.ch k ps)=.ch k (ps.map (ho s)):=by rw[<-EA];rfl
def afe(s:Nat)(ps:List a4):(jw s ps).length=ps.length:=by rw[EA,aj2]
mutual
theorem N5(s:Nat):∀r:a4,(ho s r).deep=r.deep
 |.kp _=>rfl| .ch k ps=>by show a4.kU (jw s ps)+1=a4.kU ps+1;rw[N2 s ps]
theorem N2(s:Nat):∀ps:List a4,a4.kU (jw s ps)=a4.kU ps
 |[]=>rfl| r::rs=>by show max (ho s r).deep (a4.kU (jw s rs))=max r.deep (a4.kU rs);rw[N5 s r,N2 s rs]
end
mutual
theorem N7(s:Nat):∀r:a4,(ho s r).names.length=r.names.length
 |.kp _=>rfl| .ch k ps=>by show(a4.e1 (jw s ps)).length=(a4.e1 ps).length;rw[N3 s ps]
theorem N3(s:Nat):∀ps:List a4,(a4.e1 (jw s ps)).length=(a4.e1 ps).length
 |[]=>rfl| r::rs=>by show((ho s r).names++a4.e1 (jw s rs)).length=(r.names++a4.e1 rs).length;rw[aj9,aj9,N7 s r,N3 s rs]
end
mutual
theorem N8(s:Nat):∀r:a4,r.wf->(ho s r).wf
 |.kp k,_=>Nat.mod_lt _ (by decide)|.ch k ps,h=>by
  have h':1<=k/\k<=ps.length/\ps.length<=6/\a4.iB ps:=h;show 1<=k/\k<=(jw s ps).length/\(jw s ps).length<=6/\a4.iB (jw s ps);rw[afe];exact⟨h'.1,h'.2.1,h'.2.2.1,N4 s ps h'.2.2.2⟩
theorem N4(s:Nat):∀ps:List a4,a4.iB ps->a4.iB (jw s ps)
 |[],_=>trivial|r::rs,h=>⟨N8 s r h.1,N4 s rs h.2⟩
end
end iG
namespace en
open PySem PySem.Spec ax aE iG gO kL
theorem CU(s:Nat):∀(n:Nat)(r:a4),r.deep<n->r.wf->mP n [enc r,.int (s:Nat)]=pure (.v (enc (ho s r)))
 |0,r,h,_=>absurd h (anL _)|n+1,.kp k,h,hw=>by
  simp only[mP,xg,uj,ho];simp
 |n+1,.ch k ps,h,hw=>by
  simp only[a4.deep]at h;simp only[a4.wf]at hw;have dl:=uc (ps:=ps) (n:=n) (by omega);have wl:=zO.mp hw.2.2.2;rw[rY];have c:h4 gJ (bj (mP n) (J (U 0) (J (U 1) aj))) [.e,.v (.int (s:Nat))] (ps.map enc)=pure (ps.map (enc∘ho s)):=
   A7 enc _ ps (λr aD=>by simp[CU s n r (dl r aD) (wl r aD)])
  have z:ps.length<aj6:=f5 (by omega);rw[aff,rY,anF];generalize ps.map (enc∘ho s)=σ at c ⊢;simp only[mP,xg,GQ];generalize mP n=F at c ⊢;have tE:(ps.map enc).length<aj6:=by rw[aj2];exact z
  generalize ps.map enc=Z at c tE ⊢;simp[c,tE]
def N6{r:a4}(h:Good r):Good (ho s r):=⟨N8 s r h.1,by rw[N5];exact h.2.1,by rw[N7];exact h.2.2⟩
def q_:a4:=.ch 2 [.kp 0,.kp 1,.kp 2]
def rws:a4:=.ch 1 [.ch 2 [.kp 0,.kp 1],.ch 2 [.kp 2,.kp 3]]
def cols:a4:=.ch 2 [.ch 1 [.kp 0,.kp 1],.ch 1 [.kp 2,.kp 3]]
def fo:List (a4×a4):=[(q_,q_),(.kp 0,.kp 0),(.ch 1 [.kp 0,.kp 1,.kp 2],.ch 3 [.kp 0,.kp 1,.kp 2]),(.ch 3 [.kp 0,.kp 1,.kp 2],.ch 1 [.kp 0,.kp 1,.kp 2]),
 (rws,cols),(cols,rws),(.ch 3 [.kp 0,.kp 1,.kp 2,.kp 3,.kp 4],.ch 3 [.kp 4,.kp 3,.kp 2,.kp 1,.kp 0]),
 (.ch 2 [.kp 0,.kp 0,.kp 1,.kp 2],.ch 3 [.kp 0,.kp 0,.kp 1,.kp 2]),(.ch 2 [.kp 0,.kp 1],.ch 1 [.kp 0,.kp 1]),
 (.ch 2 [.kp 0,.ch 1 [.kp 1,.kp 2]],.ch 1 [.kp 0,.ch 2 [.kp 1,.kp 2]])]
def f3(p:a4×a4):D:=gV p.1 p.2
def XO:∀p∈fo,Good p.1/\Good p.2:=by
 simp only[fo,alq,q_,rws,cols,Good];simp[a4.wf,a4.iB,a4.deep,a4.kU,a4.names,a4.e1]
def VW(c:Int):AK [.v (.int c),.e,.e,.e,.e,.e,.e]=xf [.v (.int c),.v (enc q_),.v (enc rws),.v (enc cols),.v (.lst (fo.map f3)),.e,.e]:=by
 have z:∀{xs ys:List D},xs.length+ys.length<=10->xs.length+ys.length<=aj6:=λh=>akZ (f5 (by omega))
 have e:fo.map f3=(fo.take 4).map f3++((fo.drop 4).take 3).map f3++((fo.drop 7).take 2).map f3++(fo.drop 9).map f3:=rfl;rw[e];exact(kx (s9 (d:=enc q_) rfl)).trans ((kx (s9 (d:=enc rws) rfl)).trans ((kx (s9 (d:=enc cols) rfl)).trans ((kx (q3 (r:=.fr ((fo.take 4).map f3)) (d:=.lst ((fo.take 4).map f3)) rfl rfl)).trans ((kx (q3 (eZ (t_ (xs:=(fo.take 4).map f3) (ys:=((fo.drop 4).take 3).map f3) (z (aj3 rfl))) rfl rfl) rfl)).trans ((kx (q3 (eZ (t_ (xs:=(fo.take 4).map f3++((fo.drop 4).take 3).map f3) (ys:=((fo.drop 7).take 2).map f3) (z (aj3 rfl))) rfl rfl) rfl)).trans (kx (q3 (eZ (t_ (xs:=(fo.take 4).map f3++((fo.drop 4).take 3).map f3++((fo.drop 7).take 2).map f3) (ys:=(fo.drop 9).map f3) (z (aj3 rfl))) rfl rfl) rfl)))))))
def Zy(c:Int):∃a k,vm [.int c]=pure (.v (gV a k))/\Good a/\Good k:=by
 have r6:=mod_lt (a:=c) (b:=10) (by decide);have k4:=mod_lt (a:=c / 10) (b:=6) (by decide);obtain⟨i,aA,hl⟩:∃i:Nat,c % 10=(i:Nat)/\i<10:=⟨(c % 10).toNat,by omega,by omega⟩;obtain⟨s,az⟩:∃s:Nat,c / 10 % 6=(s:Nat):=⟨(c / 10 % 6).toNat,by omega⟩;obtain⟨p,aL⟩:∃p,fo[i]? = some p:=⟨_,akR (show i<fo.length from hl)⟩;obtain⟨ga,uA⟩:=XO p (akQ aL);refine⟨ho s p.1,ho s p.2,?_,N6 ga,N6 uA⟩;have t1:=CU s 6 p.1 (by have:=ga.2.1;omega) ga.1;have hn:=CU s 6 p.2 (by have:=uA.2.1;omega) uA.1;have gC:bB (.v (.lst (fo.map f3))) (.v (.int (i:Nat)))=pure (.v (f3 p)):=by
  show(match eK (fo.map f3) (i:Int)with|some v=>pure (R.v v)|none=>bad)=_;rw[oP (v:=f3 p) i (by rw[akD,aL];rfl)]
 have tZ:xf [.v (.int c),.v (enc q_),.v (enc rws),.v (enc cols),.v (.lst (fo.map f3)),.e,.e]=pure (.cP (.v (gV (ho s p.1) (ho s p.2)))):=by
  simp only[xf,GF];generalize fo.map f3=L at gC ⊢;generalize enc q_=jx;generalize enc rws=ri;generalize enc cols=ajR;unfold f3 gV at gC;unfold gV;have ey:c9 (enc p.1)=.v (enc p.1):=by cases p.1<;>rfl
  have ee:c9 (enc p.2)=.v (enc p.2):=by cases p.2<;>rfl
  generalize enc p.1=wC at *;generalize enc p.2=wD at *;generalize enc (ho s p.1)=OJ at *;generalize enc (ho s p.2)=OK at *;simp[aA,az,gC,t1,hn,ey,ee]
 have pre:=VW c;rw[tZ]at pre;simp only[vm];generalize AK=B at pre ⊢;simp[pre]
mutual
theorem K0:∀r:a4,r.wf->r.names≠[]
 |.kp k,_=>λh=>nomatch h
 |.ch k ps,h=>by
  have h':1<=k/\k<=ps.length/\ps.length<=6/\a4.iB ps:=h;show a4.e1 ps≠[];exact aah ps h'.2.2.2 (by omega)
theorem aah:∀ps:List a4,a4.iB ps->0<ps.length->a4.e1 ps≠[]
 |[],_,h=>absurd h (akM _)|r::rs,h,_=>by
  show r.names++a4.e1 rs≠[];exact λe=>K0 r h.1 (List.append_eq_nil_iff.mp e).1
end
def vq(a k:a4):(eE a k).length<=6:=by
 have:=List.length_filter_le (λj=>(a.names++k.names).contains j) (akU 6);simpa[eE]using this
def Z2{a k:a4}(ao:Good a):0<(eE a k).length:=by
 obtain⟨x,ai⟩:=List.exists_mem_of_ne_nil _ (K0 a ao.1);refine List.length_pos_of_mem (a:=x) ?_;unfold eE;rw[ams,alh];exact⟨qJ a ao.1 x ai,al4.mpr (alP _ ai)⟩
def DI{xs:List D}(hl:xs.length<=1000)(h:∀x∈xs,Ok n x):Ok (n+1) (.lst xs):=
 have q:=qR hl h
 ⟨q.1,q.2⟩
theorem DF:∀(m:Nat)(r:a4),r.deep<m->r.wf->Ok (2*m) (enc r)
 |0,r,h,_=>absurd h (anL _)| m+1,.kp k,_,_=>by rw[uj];exact js|m+1,.ch k ps,h,hw=>by
  simp only[a4.deep]at h;simp only[a4.wf]at hw;have dl:=uc (ps:=ps) (n:=m) (by omega);have wl:=zO.mp hw.2.2.2;rw[rY];exact sN (n:=2*m+1) js (qR (by rw[aj2];omega) λp aL=>by
   obtain⟨r,aD,rfl⟩:=alj.mp aL;exact DF m r (dl r aD) (wl r aD))
def aaJ{a k:a4}(ao:Good a)(aB:Good k):Ok 11 (gV a k):=
 sN (DF 5 a (by have:=ao.2.1;omega) ao.1) (DF 5 k (by have:=aB.2.1;omega) aB.1)
section
variable{S:cJ}{Y Y':aQ}{i g:Nat}{A:b0}
def JR{ms:cU}{ds:List D}(h:aS S (ms Y) rs)(e:kS rs=pure ds)(z:ds.length<=1000):aS S (c8 ms Y) (.fr ds):=h.bind ((aS.of e).bind ((Cu z).bind (.of rfl)))
def YZ{n N:Nat}{b:aI}{ds xs:List D}(h:ds.length=n)(e:aS S (b (ds.map c9++akF (N-n) .e)) (.cP (.fr xs))):aS S (fnOf n N b ds) (.fr xs):=by
 rw[Be,if_pos h];exact e.bind (.of rfl)
def CA{t:aQ->M Bool}{r:aI}(h:aS S (t Y) true):aS S (tA t c r Y) (.cP (.v (.str c))):=h.bind (.of rfl)
def JS{t:aQ->M Bool}{r:aI}(h:aS S (t Y) false)(ag:aS S (r Y) x):aS S (tA t c r Y) x:=h.bind ag
def Cy{pB:bf}{ks:List (Str×aI)}{m:aI}(h:aS S (pB Y) (.v (.str c)))(e:ks.lookup c=some m)(ag:aS S (m Y) aW):aS S (rO pB ks Y) aW:=h.bind (by show aS S (match ks.lookup c with|some m=>m Y|none=>bad) aW;rw[e];exact ag)
def Y0{k:Nat}{it:gc}(h:aS S (it Y) ds)(e:aS S (ha (λd Y=>b (Y.set k (.v d))) ds Y) aW):aS S (jd k it b Y) aW:=h.bind e
theorem JP{b:D->aI}(P:aQ->Prop):∀(ds:List D)(Y:aQ),P Y->(∀d∈ds,∀Y,P Y->∃Y',aS S (b d Y) (.bw Y')/\P Y')->∃Y',aS S (ha b ds Y) (.bw Y')/\P Y'
 |[],Y,h,_=>⟨Y,.of rfl,h⟩
 |d::ds,Y,h,st=>by
  obtain⟨gM,aw,ae⟩:=st d (akh ..) Y h;obtain⟨dp,aG,ag⟩:=JP P ds gM ae λx ai=>st x (akg _ ai)
  exact⟨dp,aw.bind aG,ag⟩
def mh{k:Nat}{v:D}(h:dC S i g A)(h0:U k Y=pure (.v (.ref i)))(ae:(A.fs g).lookup m=none)(ag:(A.fs g).lookup f=some v)(e:bd=bg (bE (cm "Asker" f) (U 0))):aS S (fk "Asker" m (fnOf 1 1 bd) (U k) aj Y) (.v v):=sk h.bh (.of h0) ae er (lq rfl (by rw[e];exact sm (dg h rfl ag)))
def iW(A:b0):List D:=[.str A.cB,A.cw,.int A.wi,dI A.st,.tup [.int A.cn,A.h,A.op],.au A.cx]
def CZ(h:dC S i g A):aS S (sz [.ref i]) (.fr (iW A)):=
 YZ rfl (Cw (JR (rs:=[.v (.str A.cB),.v A.cw,.v (.int A.wi),.v (dI A.st),.v (.tup [.int A.cn,A.h,A.op]),.v (.au A.cx)]) (cQ (mh h rfl rfl rfl rfl) (cQ (mh h rfl rfl rfl rfl) (cQ (mh h rfl rfl rfl rfl) (cQ (mh h rfl rfl rfl rfl) (cQ (sk h.bh (.of rfl) rfl er (lq rfl (sm (Cz (cQ (dg h rfl rfl) (cQ (dg h rfl rfl) (cQ (dg h rfl rfl) er))) rfl (aj3 rfl))))) (cQ (mh h rfl rfl rfl rfl) er)))))) rfl (aj3 rfl)))
structure Std(A:b0):Prop where
 pD:akf A.cB=true
 qK:Ok 12 A.cw
 aaC:Ok 12 (.tup [.int A.cn,A.h,A.op])
def aaL(s:Std A):Ok 13 (.lst (iW A)):=DI (n:=12) (aj3 rfl) λx ai=>by
 simp only[iW,aj5,aly,or_false]at ai;rcases ai with rfl|rfl|rfl|rfl|rfl|rfl
 .exact zg s.pD
 .exact s.qK
 .exact js
 .exact qQ (n:=1) (sN js js) (by decide)
 .exact s.aaC
 .exact Ld
def Nx(h:dC S i g A)(s:Std A)(h0:U 0 Y=pure (.v (.ref i)))(bO:U c Y=pure (.v (.lst (iW A)))):aS S (bj (hg 14) (J (bj sz (J (U 0) aj)) (J (U c) aj)) Y) (.v (.au true)):=
 eC (rs:=[.fr (iW A),.v (.lst (iW A))]) (cQ (eC (rs:=[.v (.ref i)]) (cQ (.of h0) er) (CZ h)) (cQ (.of bO) er)) (.of (same_refl 13 _ (aaL s)))
def FJ(h:lF d=false)(s:Slot)(t:aQ):∃r,U 1 (s::c9 d::t)=pure r/\r.arg=d/\i0 r (.v .aN)=pure (.v (.au true)):=by
 cases d<;>first|exact⟨_,rfl,rfl,rfl⟩|cases h
def ahH(b:tG d):aS S (sC [.ref i,d]) (.v (.str "NoDeed")):=by
 obtain⟨r,aw,aG,c3⟩:=FJ b.nn (.v (.ref i)) [];exact lq rfl (CA (nS (c1 (di c3 (.of aw) (.of rfl))) (mK (x:=false) (c1 (eC (cQ (.of aw) er) (by rw[akb,aG];exact .of b.no))))))
structure Tk(d:D):Prop where
 cq:c9 d=.v d
 ok:d=.aN\/km [d]=pure (.v (.au true))
def ae7(h:Tk d):aS S (ky (br (av i0 (U 1) (af (.aN)))) (eF (br (bj km (J (U 1) aj)))) [.v (.ref i),c9 d]) false:=by
 rw[h.cq];rcases h.ok with rfl|e
 .exact qw (.of rfl)
 .cases c:lF d with
  |true=>exact qw (c1 (di ((y3 d).trans (by rw[c];rfl)) (.of rfl) (.of rfl)))| false=>exact nS (c1 (di ((y3 d).trans (by rw[c];rfl)) (.of rfl) (.of rfl))) (mK (x:=true) (c1 (eC (cQ (x:=.v d) (.of rfl) er) (.of e))))
def Ref(A:b0)(w:Str):Prop:=w="over"/\A.cx=true\/w="busy"/\A.cx=false/\A.rD/\A.cB≠"calm"
def L6(w:Str):Str:=if w="over" then "Over" else "Busy"
def Fd(h:dC S i g A)(t:Tk d)(r:Ref A w):aS S (sC [.ref i,d]) (.v (.str (L6 w))):=by
 refine lq rfl ?_;show aS S (Fc [.v (.ref i),c9 d]) _;refine JS (ae7 t) ?_;rcases r with⟨rfl,o⟩|⟨rfl,o,d3,sc⟩
 .exact CA (c1 (dg h rfl (by show some (D.au A.cx)=_;rw[o])))
 .exact JS (c1 (dg h rfl (by show some (D.au A.cx)=_;rw[o]))) (CA (c1 (di (by rw[A1 d3,show(A.cB == "calm")=false by simpa using sc];rfl) (dg h rfl rfl) (.of rfl))))
theorem CI{d:D}{r:R}{c:Str}{bs:List Bool}(h:dC S i g A)(bu:U 1 [.v (.ref i),c9 d,.v (.lst []),.e]=pure r)(ao:r.arg=d)(z:aS S (sC [.ref i,d]) (.v (.str c)))
  (e:([("NoDeed",kc 3 2 [true,false,false,true,false]),("Over",kc 3 2 [false,true,false,true,false]),("Busy",kc 3 2 [false,false,true,true,false])]:List (Str×aI)).lookup c=some (kc 3 2 bs)):aS S (vn [.ref i,d]) (.v (.lst (bs.map D.au))):=
 lq rfl (h5 (Y':=[.v (.ref i),c9 d,.v (.lst []),.e]) (.of rfl) (h5 (Cy (sk h.bh (.of rfl) rfl (cQ (.of bu) er) (by rw[akb,ao];exact z)) e (.of rfl)) (.of rfl)))
theorem ZE(h:dC S i g A)(r:Ref A w):aS S (C' [.ref i]) (.v (.str w)):=by
 have z:=Fd (d:=.aN) h ⟨rfl,.inl rfl⟩ r;rcases r with⟨rfl,_⟩|⟨rfl,_⟩
 .exact lq rfl (h5 (Y':=[.v (.ref i),.v (.str "")]) (.of rfl) (h5 (Cy (sk h.bh (.of rfl) rfl (cQ (.of rfl) er) z) rfl (.of rfl)) (.of rfl)))
 .exact lq rfl (h5 (Y':=[.v (.ref i),.v (.str "")]) (.of rfl) (h5 (Cy (sk h.bh (.of rfl) rfl (cQ (.of rfl) er) z) rfl (.of rfl)) (.of rfl)))
end
abbrev nk(i:Nat)(ns:List Int)(f:Int)(d:D)(w:Str)(s5 pN g6 i1 zt:Slot):aQ:=[.v (.ref i),.b8 (ns.map D.int),.v (.int f),.v d,.v (.str w),s5,pN,g6,i1,zt]
def vO:akf "over"=true:=by decide +kernel
def zb:akf "busy"=true:=by decide +kernel
def Le:akf ""=true:=by decide +kernel
def zx(h:akf x=true):oEq (.v (.str x)) (.v (.str x))=pure (.v (.au true)):=by rw[iy h h,beq_self_eq_true]
def En(h:akf x=true)(ag:akf y=true)(e:(x==y)=false):oEq (.v (.str x)) (.v (.str y))=pure (.v (.au false)):=by rw[iy h ag,e]
def Ej(h:akf x=true):d5 (.v (.str x)) (.v (.str x))=pure (.v (.au false)):=by rw[NQ h h,beq_self_eq_true];rfl
section
variable{S:cJ}{i g:Nat}{A:b0}{l:List Nat}{ns:List Int}{f n:Int}{d:D}{w:Str}{wd:Str}
def L7(h:dC S i g A)(hl:j6 l):∃g6 i1,aS S (jd 7 (qu (xt (U 1) (p_ (av jr (af (.int 3)) (U 2))) (p_ (af (.int 4))))) CN (nk i ns f d w (.v (.lst (iW A))) (.v (.str (bo l))) .e .e .e)) (.bw (nk i ns f d w (.v (.lst (iW A))) (.v (.str (bo l))) g6 i1 .e)):=by
 obtain⟨Y',e,g6,i1,rfl⟩:=JP (S:=S) (b:=λd Y=>CN (Y.set 7 (.v d))) (λY=>∃g6 i1,Y=nk i ns f d w (.v (.lst (iW A))) (.v (.str (bo l))) g6 i1 .e) (mX (ns.map D.int) (some (3+f)) 4) (nk i ns f d w (.v (.lst (iW A))) (.v (.str (bo l))) .e .e .e) ⟨_,_,rfl⟩ λx ai Y az=>by
  obtain⟨g6,i1,rfl⟩:=az;obtain⟨c,rfl⟩:∃c,x=.int c:=by
   obtain⟨j,_,e⟩:=anY.mp ai;obtain⟨c,_,rfl⟩:=alj.mp (akQ e);exact⟨c,rfl⟩
  have x2:=mod_lt (a:=c / 50) (b:=10 ^ 40) (by decide);obtain⟨y,aw,aac⟩:=Zv hl (c / 50 % 10 ^ 40) c;have bd:=R1 hl x2.1 x2.2 y aac;obtain⟨r,bu,ao,_⟩:=FJ bd.nn (.v (.ref i)) [.v (.lst []),.e];have dH:=CI (bs:=[true,false,false,true,false]) h bu ao (ahH bd) rfl;exact⟨_,h5 (Y':=nk i ns f d w (.v (.lst (iW A))) (.v (.str (bo l))) (.v (.int c)) (.v (.int (c / 50 % 10 ^ 40))) .e) (.of (s9 (eZ (sD (by decide)) (eZ (HQ ⟨by decide,by decide⟩) rfl rfl) (eZ (LJ (by decide) rfl) rfl rfl))))
   (u7 (c1 (di (y:=.fr [.au true,.au false,.au false,.au true,.au false]) rfl (eC (cQ (.of rfl) (cQ (eC (rs:=[.v (.int c),.v (.str (bo l)),.v (.int (c / 50 % 10 ^ 40))]) (.of rfl) (.of aw)) er)) dH) (.of rfl))) (.of rfl)),_,_,rfl⟩
 exact⟨g6,i1,Y0 (.of rfl) e⟩
theorem ace(h:dC S i g A)(Eh:Std A)(hl:j6 l):aS S (pw [.ref i,.lst (ns.map D.int),.int f,.tup [.str wd,.str (bo l),.int n],.str ""]) (.v (.au true)):=by
 obtain⟨g6,i1,ly⟩:=L7 (ns:=ns) (f:=f) (d:=.tup [.str wd,.str (bo l),.int n]) (w:="") h hl;exact lq rfl (h5 (Y':=nk i ns f (.tup [.str wd,.str (bo l),.int n]) "" (.v (.lst (iW A))) .e .e .e .e) (qx (eC (rs:=[.v (.ref i)]) (.of rfl) (CZ h)) rfl) (h5 (.of rfl) (h5 ly (Cx (yx (c1 (di (zx Le) (.of rfl) (.of rfl))) (sm (Nx h Eh rfl rfl)))))))
theorem D_(h:dC S i g A)(Eh:Std A)(hl:j6 l)(tk:Tk (.tup [.str wd,.str (bo l),.int n]))(r:Ref A w):aS S (pw [.ref i,.lst (ns.map D.int),.int f,.tup [.str wd,.str (bo l),.int n],.str w]) (.v (.au true)):=by
 obtain⟨g6,i1,ly⟩:=L7 (ns:=ns) (f:=f) (d:=.tup [.str wd,.str (bo l),.int n]) (w:=w) h hl;have eH:=Fd h tk r;have d7:=Fd (d:=.aN) h ⟨rfl,.inl rfl⟩ r;have lf:=ZE h r;have main:∀{bs:List Bool},([("NoDeed",kc 3 2 [true,false,false,true,false]),("Over",kc 3 2 [false,true,false,true,false]),("Busy",kc 3 2 [false,false,true,true,false])]:List (Str×aI)).lookup (L6 w)=some (kc 3 2 bs)->d5 (.v (.lst (bs.map D.au))) (.v (.lst (bs.map D.au)))=pure (.v (.au false))->akf w=true->(w == "")=false->
   cY 9 (c8 (J (af (.au false)) (J (av oEq (U 4) (af (.str "over"))) (J (av oEq (U 4) (af (.str "busy"))) (J (af (.au true)) (J (af (.au false)) aj)))))) (nk i ns f (.tup [.str wd,.str (bo l),.int n]) w (.v (.lst (iW A))) (.v (.str (bo l))) g6 i1 .e)=pure (.bw (nk i ns f (.tup [.str wd,.str (bo l),.int n]) w (.v (.lst (iW A))) (.v (.str (bo l))) g6 i1 (.v (.lst (bs.map D.au)))))->
   aS S (pw [.ref i,.lst (ns.map D.int),.int f,.tup [.str wd,.str (bo l),.int n],.str w]) (.v (.au true)):=λ{bs} aw nC e2 afT dm=>by
  have k1:=CI (bs:=bs) (r:=.v (.tup [.str wd,.str (bo l),.int n])) h rfl rfl eH aw;have k2:=CI (bs:=bs) (r:=.v .aN) h rfl rfl d7 aw;exact lq rfl (h5 (Y':=nk i ns f (.tup [.str wd,.str (bo l),.int n]) w (.v (.lst (iW A))) .e .e .e .e) (qx (eC (rs:=[.v (.ref i)]) (.of rfl) (CZ h)) rfl) (h5 (.of rfl) (h5 ly (h5 (u7 (c1 (di (En e2 Le afT) (.of rfl) (.of rfl))) (.of rfl)) (h5 (.of dm)
   (h5 (u7 (sl (c1 (di nC (eC (rs:=[.v (.ref i),.v (.tup [.str wd,.str (bo l),.int n])]) (.of rfl) k1) (.of rfl))) (sl (c1 (di nC (eC (rs:=[.v (.ref i),.v .aN]) (.of rfl) k2) (.of rfl))) (c1 (di (Ej e2) (eC (rs:=[.v (.ref i)]) (.of rfl) lf) (.of rfl))))) (.of rfl)) (sm (Nx h Eh rfl rfl))))))))
 rcases r with⟨rfl,_⟩|⟨rfl,_⟩
 .exact main (bs:=[false,true,false,true,false]) rfl rfl vO (by decide +kernel) (q3 (lz (cons_of rfl (cons_of (eZ (zx vO) rfl rfl) (cons_of (eZ (En vO zb (by decide +kernel)) rfl rfl) rfl))) rfl (aj3 rfl)) rfl)
 .exact main (bs:=[false,false,true,true,false]) rfl rfl zb (by decide +kernel) (q3 (lz (cons_of rfl (cons_of (eZ (En zb vO (by decide +kernel)) rfl rfl) (cons_of (eZ (zx zb) rfl rfl) rfl))) rfl (aj3 rfl)) rfl)
end
def or_eq(m n:Nat):sJ (.v (cF m)) (.v (cF n))=pure (.v (cF (m ||| n))):=by
 rw[lD,lD,lD,<-DN];rfl
def b0.kept(a:b0)(k:Nat):b0:={ a with fF:=a.fF ||| maskOf [k] }
def b0.ends(a:b0)(o:D):b0:={ a with cB:="calm",cw:=o }
def b0.p0(a:b0)(mf:eY)(ds:List D)(b:b0):Prop:=∀(S:cJ)(i g:Nat),dC S i g a->∃ar g',bK S (mf (.ref i::ds)) (.v .aN) ar/\dP S ar i g g' b
section
variable{S S1 a7:cJ}{Y Y':aQ}{i g k:Nat}{a b c:b0}{f:Str}{d:D}{mv:bf}{r:R}{bd:bt}{aW:f_}
def abX(h:dC S i g a)(b:b0)(aB:U k Y=pure (.v (.ref i)))(ev:aS S (mv Y) r)(Bm:r.dat=pure d)(e:hP f d (a.fs g)=b.fs g)(jH:b.bQ=a.bQ):eJ S i g (ek "Asker" f (U k) (dE mv) Y) (.bw Y) b:=
 ⟨_,g,x_at ev.to Bm (.of aB) h.bh CK,⟨by rw[get_set h.bh,e],by rw[akk h.ne,jH];exact h.ls⟩,.set (by simp),.inl rfl,by rw[akL];exact aj8 _⟩
theorem IB{t:aQ->M Bool}{m n:bt}(e:aS S (t Y) true)(q:eJ S i g (m Y) aW c):eJ S i g (gp (hE t) m n Y) aW c:=by
 obtain⟨a7,g2,t,s⟩:=q;exact⟨a7,g2,zW (aS.to e) t,s⟩
theorem Vv{t:aQ->M Bool}{m n:bt}(e:aS S (t Y) false)(q:eJ S i g (n Y) aW c):eJ S i g (gp (hE t) m n Y) aW c:=by
 obtain⟨a7,g2,t,s⟩:=q;exact⟨a7,g2,OD (aS.to e) t,s⟩
theorem xD{ms:g8}{rs:List R}(h:dC S i g a)(q:a.p0 mf (rs.map R.arg) c)(aB:U k Y=pure (.v (.ref i)))(aF:(a.fs g).lookup m=none)(ag:bK S (ms Y) rs S)(az:rs.all R.hR=true):eJ S i g (kF (fw "Asker" m mf (U k) ms) Y) (.bw Y) c:=by
 obtain⟨a7,g2,t,s⟩:=q _ _ _ h;exact⟨a7,g2,OA (tv h.bh (.of aB) aF ag az t),s⟩
theorem BO{m:bt}(q:eJ S i g (m Y) (.bw Y') b)(p:∀S1 g1,dC S1 i g1 b->eJ S1 i g1 (bd Y') aW c):eJ S i g (bX m bd Y) aW c:=by
 obtain⟨S1,g1,t1,s1⟩:=q;obtain⟨a7,g2,hn,s2⟩:=p S1 g1 s1.at';exact⟨a7,g2,fK t1 hn,s1.trans s2⟩
theorem Ba{n N:Nat}{bd:bt}{ds:List D}(h:ds.length+1=n)(q:∀S i g,dC S i g a->∃Y',eJ S i g (bd (.v (.ref i)::ds.map c9++akF (N-n) .e)) (.bw Y') c):a.p0 (fnX n N bd) ds c:=λS i g c6=>by
 obtain⟨Y',a7,g2,t,s⟩:=q S i g c6;exact⟨a7,g2,OC h t,s⟩
end
def UX{a:b0}(aT:c9 o=.v o):a.p0 qF [o] (a.ends o):=Ba rfl λS i g h=>by
 show ∃Y',eJ S i g (Au [.v (.ref i),c9 o]) (.bw Y') _;rw[aT];exact⟨_,kg h { a with cB:="calm" } rfl (.of rfl) rfl rfl rfl λS h=>abX h (a.ends o) rfl (.of rfl) rfl rfl rfl⟩
def UW{a:b0}(hd:a.dd≠.aN)(bC:c9 a.fv=.v a.fv)(dm:nX [a.fv,.int a.me]=pure (.v (.tup [x,.int a.wi,ans]))):a.p0 ve [] (a.ends (.tup [.str "did",ans])):=Ba rfl λS i g h=>
 ⟨[.v (.ref i),.v a.fv,.v (.tup [x,.int a.wi,ans])],uC (Y':=[.v (.ref i),.v a.fv,.e]) (qx (r:=.v a.fv) (dg h rfl rfl) rfl)<|
  IB (c1 (di (by rw[y3];revert hd;cases a.dd<;>first|exact λ_=>rfl|exact λh=>absurd rfl h) (dg (d:=a.dd) h rfl rfl) (.of rfl)))<|
  uC (qx (r:=.v (.tup [x,.int a.wi,ans])) (eC (rs:=[.v a.fv,.v (.int a.me)]) (cQ (.of rfl) (cQ (dg h rfl rfl) er)) (.of dm)) rfl)<|
  IB (c1 (di (H2.trans (by rw[decide_eq_true rfl])) (.of rfl) (dg (d:=.int a.wi) h rfl rfl)))<|
  xD (rs:=[.v (.tup [.str "did",ans])]) h (UX rfl) rfl rfl (aS.to (.of rfl)) rfl⟩
section
variable{a:b0}{ms:List Nat}{dU il:Nat->Bool}(H:oD a.h ms dU il){k:Nat}{me e:Int}{s:eo}(aB:k<6)
include H aB
theorem CD(h:dC S i g (a.kept k)):aS S (eF (br (bj (iX 12) (J (av bB (bE (cm "Asker" "hall") (U 0)) (af (.int 1))) (J (bE (cm "Asker" "kept_mask") (U 0)) aj)))) [.v (.ref i),.v (iV k me e s),s2]) (!il (a.kept k).fF):=by
 obtain⟨x,y,ui,_,_,_,f2⟩:=H.ex;exact mK (c1 (eC (cQ (di (x:=.v (.tup [x,y])) (r:=.v y) rfl (dg h rfl (by show some a.h=_;rw[ui])) (.of rfl)) (cQ (dg h rfl rfl) er)) (.of (f2 _))))
theorem CE(h:dC S i g a)(p:∀S1,dC S1 i g (a.kept k)->eJ S1 i g (F4 [.v (.ref i),.v (iV k me e s),.e]) aW c):eJ S i g (Av [.v (.ref i),.v (iV k me e s),.e]) aW c:=
 kg h (a.kept k) rfl (di (or_eq a.fF (maskOf [k])) (dg h rfl rfl) (eC (rs:=[.fr [cF k]]) (.of (cons_of (lz (cons_of (eZ rfl rfl rfl) rfl) rfl (aj3 rfl)) rfl)) (.of (De [k] λj aR=>by rw[akE.mp aR];omega)))) rfl rfl rfl p
theorem Xo(q:il (a.kept k).fF=false):a.Do qG [iV k me e s] [] (a.kept k):=jG rfl λS i g h=>
 CE H aB h λS h=>xZ h (by have:=CD (me:=me) (e:=e) (s:=s) (s2:=.e) H aB h;rw[q]at this;exact this) (.of rfl)
theorem Xn{c:b0}(q:il (a.kept k).fF=true)(nC:(a.kept k).p0 ve [] c)(az:lC [c.fv]=pure (.v .aN)):a.Do qG [iV k me e s] [] c:=jG rfl λS i g h=>
 CE H aB h λS h=>h1 (by have:=CD (me:=me) (e:=e) (s:=s) (s2:=.e) H aB h;rw[q]at this;exact this)<|
 BO (Y':=[.v (.ref i),.v (iV k me e s),.e]) (xD (rs:=[]) h nC rfl rfl rfl rfl) λS g h=>
 uC (qx (r:=.v .aN) (eC (cQ (dg h rfl rfl) er) (.of az)) rfl)<|xZ h (c1 (.of rfl)) (.of rfl)
end
def zd:akf "kept"=true:=by decide +kernel
def J3:oEq (.v (.str "kept")) (.v (.str "late"))=pure (.v (.au false)):=by rw[iy zd Lf];rfl
def JZ:oEq (.v (.str "kept")) (.v (.str "grant"))=pure (.v (.au false)):=by rw[iy zd vN];rfl
def J2:oEq (.v (.str "kept")) (.v (.str "kept"))=pure (.v (.au true)):=by rw[iy zd zd,beq_self_eq_true]
section
variable{a:b0}{ms:List Nat}{dU il:Nat->Bool}(H:oD a.h ms dU il)(az:a.rD){k:Nat}{e:Int}{s:eo}
include H az
theorem I_(q:a.now ms k e s=true)(c:a.cB="telling"){t:b0}(g:a.Do qG [iV k a.me e s] σ t):a.Do pk [iV k a.me e s] σ t:=jG rfl λS i j h=>
 h1 (zj h (.str "kept") (.tup []) k e s)<|mx (c1 (di J3 (.of rfl) (.of rfl)))<|
 h1 (by have:=y4 H h (.str "kept") (.tup []) k a.me e s;rw[q]at this;exact this)<|
 mx (qw (c1 (di JZ (.of rfl) (.of rfl))))<|
 BN (nS (c1 (di J2 (.of rfl) (.of rfl))) (c1 (di (by rw[iy (s_ az) zh,c,beq_self_eq_true]) (dg h rfl rfl) (.of rfl))))<|
 xY (rs:=[.v (iV k a.me e s)]) h g rfl rfl (aS.to (.of rfl)) rfl
theorem Xp(q:a.now ms k e s=true)(c:a.cB≠"telling"):a.Do pk [iV k a.me e s] [] a:=jG rfl λS i j h=>
 h1 (zj h (.str "kept") (.tup []) k e s)<|mx (c1 (di J3 (.of rfl) (.of rfl)))<|
 h1 (by have:=y4 H h (.str "kept") (.tup []) k a.me e s;rw[q]at this;exact this)<|
 mx (qw (c1 (di JZ (.of rfl) (.of rfl))))<|
 mx (nS (c1 (di J2 (.of rfl) (.of rfl))) (c1 (di (by rw[iy (s_ az) zh,show(a.cB == "telling")=false by simpa using c]) (dg h rfl rfl) (.of rfl))))<|
 r5 h (.of rfl)
end
def qH{a k:a4}(h:j∈eE a k):j<6:=alh.mp (ams.mp h).1
def Ei(r:a4):c9 (enc r)=.v (enc r):=by cases r;rw[uj];rfl;rw[rY];rfl
def x7{a k:a4}(ao:Good a)(aB:Good k):oD (gV a k) (eE a k) (λm=>a.fills (eM m)) (λm=>k.fills (eM m)) where
 mem:=Z4 ao aB
 len:=vq a k
 lt:=λ_ h=>qH h
 ne:=λz=>by have:=Z2 (k:=k) ao;rw[z]at this;cases this
 ex:=⟨enc a,enc k,rfl,Ei a,Ei k,λm=>Bu m 12 a (by have:=ao.2.1;omega) ao.1,λm=>Bu m 12 k (by have:=aB.2.1;omega) aB.1⟩
structure fB(S:cJ)(i g b:Nat)(A:b0)(aC:List (List Key×D)):Prop where
 e':dC S i g A
 d4:S[b]? = some (.e0 aC)
section
variable{S S1 a7:cJ}{Y:aQ}{i g g' b:Nat}{A eW:b0}{aC dX:List (List Key×D)}
def fB.ne(h:fB S i g b A aC):b≠i/\b≠g:=⟨λe=>(by have:=h.d4;rw[e,h.e'.bh]at this;cases this),λe=>(by have:=h.d4;rw[e,h.e'.ls]at this;cases this)⟩
def fB.step(h:fB S i g b A aC)(s:dP S S1 i g g' eW):fB S1 i g' b eW aC:=⟨s.at',s.fr b _ (by simpa using h.ne) h.d4⟩
def fB.put(h:fB S i g b A aC)(dX:List (List Key×D)):fB (S.set b (.e0 dX)) i g b A dX:=⟨⟨by rw[akk h.ne.1];exact h.e'.bh,by rw[akk h.ne.2];exact h.e'.ls⟩,get_set h.d4⟩
def tu{m:cX}{ms:cU}(h:bK S (m Y) x S1)(e:aS S1 (ms Y) xs):bK S (oj m ms Y) (x::xs) S1:=h.bind (e.to.bind rfl)
def agS{mf:eY}{mo:bf}{ms:g8}{fs:List (Str×D)}{rs:List R}{r:R}(h:S[i]? = some (.bh c fs))(ae:aS S (mo Y) (.v (.ref i)))(aF:fs.lookup m=none)(ag:bK S (ms Y) rs S1)(az:rs.all R.hR=true)(e:bK S1 (mf (.ref i::rs.map R.arg)) r a7):bK S (fw c m mf mo ms Y) r a7:=ae.to.bind ((nT h).to.bind (by show bK S (if c=c/\fs.lookup m=none then _ else _) _ _;rw[if_pos ⟨rfl,aF⟩];exact ag.bind (by rw[if_pos az];exact e)))
def R_{L w ys:List D}(h:fB S i g b A aC)(hd:bK S (sy [.ref b,le]) (.v an) (S.set b (.e0 dX)))(p:A.Do pk [an] ys eW)(z:w.length+ys.length<=1000):∃ar g',bK S (CM [.v (.ref i),.v (.ref b),.b8 L,.v (.lst w),.v le]) (.bw [.v (.ref i),.v (.ref b),.b8 L,.v (.lst (w++ys)),.v le]) ar/\fB ar i g' b eW dX:=by
 have ae:=h.put dX;obtain⟨ar,g',t,s⟩:=p _ _ _ ae.e';exact⟨ar,g',rl (r:=.fr (w++ys)) (bK.bind (aS.to (a:=R.v (.lst w)) (.of rfl)) (bK.bind (agS h.e'.bh (.of rfl) rfl (tu (x_call (rs:=[.v (.ref b),.v le]) (.of rfl) rfl hd) (.of rfl)) rfl t) (by show bK ar (if true=true then _ else _) _ _;rw[if_pos rfl];exact(aS.of (t_ (n_ z))).to))) rfl,ae.step s⟩
end
def UR(k:List Key)(d:D):∀aC:List (List Key×D),je (hx aC k d) k=some d:=by
 intro aC;unfold hx je;split
 .rename_i nG
  induction aC with
  |nil=>cases nG
  |cons p aC aZ=>
   rw[akb]
   by_cases c:p.1=k
   .rw[if_pos c,ald (by simpa using c)];rfl
   .rw[if_neg c,akT (by simpa using c)]
    rw[alK,show decide (p.1=k)=false by simpa using c,Bool.false_or]at nG;exact aZ nG
 .rename_i nG
  rw[List.find?_append];have:aC.find? (λkv=>decide (kv.1=k))=none:=by
   rw[List.find?_eq_none];intro x ai hc;exact nG (aoD.mpr ⟨x,ai,hc⟩)
  rw[this,ald (by simp)];rfl
def abF(k:Nat)(aC:List (List Key×D))(d:D):g0 (hx aC (ff k) d) k=d:=by unfold g0;rw[UR];rfl
section
variable{i b:Nat}{ms:List Nat}{le:Nat->D}{P0 P1:D}{St:List Nat->b0->List D->Prop}{L:List D}
 (step:∀(done:List Nat)(j:Nat)(A:b0)(wr:List D)(aC:List (List Key×D))(S:cJ)(g:Nat),St done A wr->j∈ms->j∉done->(∀x∈done,x∈ms)->done.length<6->fB S i g b A aC->g0 aC j=P0->aC.length<999->
  ∃an ys eW,bK S (sy [.ref b,le j]) (.v an) (S.set b (.e0 (hx aC (ff j) P1)))/\A.Do pk [an] ys eW/\wr.length+ys.length<=1000/\St (done++[j]) eW (wr++ys))
include step
theorem Hh:∀(rest done:List Nat)(S:cJ)(g:Nat)(A:b0)(aC:List (List Key×D))(wr:List D)(s4:Slot),(done++rest).Nodup->(done++rest).length<=6->(∀j∈done++rest,j∈ms)->fB S i g b A aC->St done A wr->(∀j∈done,g0 aC j=P1)->(∀j∈rest,g0 aC j=P0)->aC.length+rest.length<999->
  ∃ar g' eW dX rg Mh,bK S (lY (λd Y=>CM (Y.set 4 (.v d))) (rest.map le) [.v (.ref i),.v (.ref b),.b8 L,.v (.lst wr),s4]) (.bw [.v (.ref i),.v (.ref b),.b8 L,.v (.lst rg),Mh]) ar/\fB ar i g' b eW dX/\St (done++rest) eW rg/\(∀j∈done++rest,g0 dX j=P1)/\dX.length<=aC.length+rest.length
 |[],done,S,g,A,aC,wr,s4,_,_,_,h,st,p1,_,_=>⟨S,g,A,aC,wr,s4,agQ,h,by rw[ak3];exact st,by rw[ak3];exact p1,aj8 _⟩
 |j::rest,done,S,g,A,aC,wr,s4,fT,yE,sub,h,st,p1,kq,z=>by
  have u6:j∉done:=λaR=>(ane.mp fT).2.2 j aR j (akh ..) rfl
  rw[akn]at z;rw[aj9,akn]at yE;obtain⟨an,ys,eW,hd,p,d7,bW⟩:=step done j A wr aC S g st (sub j (akz _ (akh ..))) u6 (λx ai=>sub x (alP _ ai)) (by omega) h (kq j (akh ..)) (by omega);obtain⟨S1,g1,t1,ae⟩:=R_ (L:=L) h hd p d7;have dl:=UM aC (ff j) P1;have ap:done++[j]++rest=done++j::rest:=by rw[amC];rfl
  obtain⟨a7,g2,Fh,Zq,agq,acx,hn,ag,cf,cy,m9⟩:=Hh rest (done++[j]) S1 g1 eW (hx aC (ff j) P1) (wr++ys) (.v (le j)) (by rw[ap];exact fT) (by rw[ap,aj9,akn];omega) (by rw[ap];exact sub) ae bW (λx ai=>by
   rcases alb.mp ai with ai|ai
   .rw[LC (λe:x=j=>u6 (e▸ai))];exact p1 x ai
   .rw[akE.mp ai];exact abF ..) (λx ai=>by
   rw[LC (λe:x=j=>by
    have:=(ane.mp fT).2.1;rw[alw]at this;exact this.1 (e▸ai))]
   exact kq x (akg _ ai)) (by omega)
  rw[ap]at cf cy;exact⟨a7,g2,Fh,Zq,agq,acx,agP t1 hn,ag,cf,cy,by rw[akn];omega⟩
theorem Hi{aC:List (List Key×D)}(fT:ms.Nodup)(yE:ms.length<=6)(h:fB S i g b A aC)(st:St [] A [])(kq:∀j∈ms,g0 aC j=P0)(z:aC.length<=900) :
  ∃ar g' eW dX rg,bK S (kn [.ref i,.ref b,.lst (ms.map le)]) (.v (.lst rg)) ar/\fB ar i g' b eW dX/\St ms eW rg/\(∀j∈ms,g0 dX j=P1)/\dX.length<=aC.length+6:=by
 obtain⟨ar,g',eW,dX,rg,Mh,t,h',bW,p1,iC⟩:=Hh (L:=ms.map le) step ms [] S g A aC [] .e fT yE (λj aR=>aR) h st (λ_ aR=>nomatch aR) kq (by omega);exact⟨ar,g',eW,dX,rg,zV rfl (fK (aS.to (.of rfl)) (fK (agO (.of rfl) t) rfl)),h',bW,p1,by omega⟩
end
mutual
theorem H_(p:Nat->Bool):∀r:a4,r.wf->(∀k∈r.names,p k=true)->r.fills p=true
 |.kp k,_,h=>h k (akE.mpr rfl)|.ch k ps,hw,h=>by
  have hw:1<=k/\k<=ps.length/\ps.length<=6/\a4.iB ps:=hw;show decide (k<=a4.cnt p ps)=true;rw[Hz p ps hw.2.2.2 h];exact decide_eq_true hw.2.1
theorem Hz(p:Nat->Bool):∀ps:List a4,a4.iB ps->(∀k∈a4.e1 ps,p k=true)->a4.cnt p ps=ps.length
 |[],_,_=>rfl|r::rs,hw,h=>by
  show(if r.fills p then 1 else 0)+a4.cnt p rs=rs.length+1;rw[H_ p r hw.1 λk aB=>h k (alP _ aB),Hz p rs hw.2 λk aB=>h k (akz _ aB),if_pos rfl,Nat.add_comm]
end
def Hb{ks:List Nat}(aB:∀k∈ks,k<6)(aR:j<6):eM (maskOf ks) j=ks.contains j:=by
 rw[KP ks aB];exact KX _ j aR
def KU(a k:a4):(eE a k).Nodup:=List.Nodup.sublist anQ List.nodup_range
def full{a k r:a4}(aD:r.wf)(h:∀j∈r.names,j∈eE a k):r.fills (eM (maskOf (eE a k)))=true:=
 H_ _ r aD λj aR=>by rw[Hb (λ_ h=>qH h) (qH (h j aR))];exact al4.mpr (h j aR)
def KS{a k:a4}(ao:a.wf)(aB:k.wf)(h:j∈a.names\/j∈k.names):j∈eE a k:=by
 unfold eE;rw[ams,alh];exact⟨h.elim (qJ a ao j) (qJ k aB j),al4.mpr (alb.mpr h)⟩
def KQ(ks:List Nat)(j:Nat):maskOf (ks++[j])=maskOf ks ||| maskOf [j]:=by
 unfold maskOf;rw[List.foldl_append];show _ ||| 2 ^ j=_ ||| (0 ||| 2 ^ j)
 rw[Nat.zero_or]
def FF(s:eo):ja s s=false:=by unfold ja;simp
theorem Hj{p:fx}(aL:p.s=kp):∀ps:List fx,(∀g∈ps,g.s=kp)->mj p ps=p
 |[],_=>rfl|g::ps,h=>by
  show ps.foldl sF (sF p g)=p;have e:sF p g=p:=by unfold sF;rw[h g (akh ..),aL,FF,if_neg aj7]
  rw[e];exact Hj aL ps λx ai=>h x (akg _ ai)
structure fR(a k:a4)(s:eo)(A:b0):Prop where
 h:A.h=gV a k
 cn:A.cn=0
 st:A.st=s
section
variable{a k:a4}(ao:Good a)(aB:Good k){s kp pr:eo}{w t:D}{A:b0}{i b:Nat}
include ao aB
theorem fR.H(W:fR a k s A):oD A.h (eE a k) (λm=>a.fills (eM m)) (λm=>k.fills (eM m)):=by rw[W.h];exact x7 ao aB
omit ao aB in
theorem fR.now(W:fR a k s A)(aR:j∈eE a k):A.now (eE a k) j 0 s=true:=by
 unfold b0.now;rw[W.cn,W.st,decide_eq_true rfl,decide_eq_true rfl,al4.mpr aR];rfl
abbrev ep(kp:eo)(w:D)(j:Nat):fx:=⟨j,kp,w⟩
abbrev q'(A:b0)(s kp:eo)(t:D)(j:Nat):D:=q9 A.me 0 s (.tup [dI kp,.int A.wi,A.dd,t]) j
def OP(a k:a4)(A:b0)(s kp:eo)(w t:D)(done:List Nat)(B:b0)(wr:List D):Prop:=
 (B={ A with bQ:=done.map (ep kp w) }/\wr=[]/\(done=[]\/a.fills (eM (maskOf done))=false))\/∃bQ,B={ A with bQ:=bQ,cB:="telling",fF:=0,fv:=t }/\wr=(eE a k).map (q' A s kp t)
theorem Pz(W:fR a k s A)(cB:A.cB="asking")(qh:A.bQ=[])(hd:A.dd≠.aN)(Ca:c9 A.op=.v A.op)(dm:jk [if kp=(0,0)then A.op else w,.int A.me,.int A.wi,A.dd]=pure (.v t))(ab:ja s pr=true){aC:List (List Key×D)}(h:fB S i g b A aC)(kq:∀j∈eE a k,g0 aC j=hO pr kp w)(z:aC.length<=900) :
  ∃ar g' bQ dX,bK S (kn [.ref i,.ref b,.lst ((eE a k).map (oO A.me 0 s))]) (.v (.lst ((eE a k).map (q' A s kp t)))) ar/\fB ar i g' b { A with bQ:=bQ,cB:="telling",fF:=0,fv:=t } dX/\(∀j∈eE a k,g0 dX j=hO s kp w)/\dX.length<=aC.length+6:=by
 obtain⟨ar,g',B,dX,wr,t1,ae,st,p1,eH⟩:=Hi (i:=i) (b:=b) (ms:=eE a k) (le:=oO A.me 0 s) (P0:=hO pr kp w) (P1:=hO s kp w) (St:=OP a k A s kp w t) (λdone j B wr aC S g st aR u6 sub S3 h aL z=>by
  have ql:=Xr (me:=A.me) (s:=s) aL h.d4 (by omega) ab;have sj:=qH aR;rcases st with⟨rfl,rfl,q⟩|⟨bQ,rfl,rfl⟩
  .have gf:fR a k s { A with bQ:=done.map (ep kp w) }:=⟨W.h,W.cn,W.st⟩
   have em:∀ks:List Nat,(ks.map (ep kp w)).map (·.k)=ks:=λks=>by rw[anF];exact List.map_id' ks
   have a3:∀x∈done.map (ep kp w),x.k<6:=λx ai=>by obtain⟨y,a',rfl⟩:=alj.mp ai;exact qH (sub y a')
   have hl:(done.map (ep kp w)).length<60:=by rw[aj2];omega
   have bit:eM (maskOf ((done.map (ep kp w)).map (·.k))) j=false:=by
    rw[em,Hb (λx ai=>qH (sub x ai)) sj];exact Bool.eq_false_iff.mpr λz=>u6 (al4.mp z)
   have jH:done.map (ep kp w)++[ep kp w j]=(done++[j]).map (ep kp w):=by rw[aln];rfl
   cases c:a.fills (eM (maskOf (done++[j])))with
   |false=>
    refine⟨_,[],_,ql,I9 (fR.H ao aB gf) (.inr (.inl cB)) (gf.now aR) cB (Xk (fR.H ao aB gf) a3 hl sj bit ?_),akA _,.inl ⟨?_,rfl,.inr c⟩⟩
    .show a.fills (eM (maskOf ((done.map (ep kp w)++[ep kp w j]).map (·.k))))=false
     rw[jH,em];exact c
    .show({ A with bQ:=done.map (ep kp w)++[ep kp w j] }:b0)=_
     rw[jH]
   |true=>
    obtain⟨p,ps,cn⟩:∃p ps,(done++[j]).map (ep kp w)=p::ps:=by
     cases e:(done++[j]).map (ep kp w)with
     |nil=>have:=congrArg alA e;rw[aj2,aj9]at this;cases this
     |cons p ps=>exact⟨p,ps,rfl⟩
    have al:∀x∈p::ps,x.s=kp/\x.w=w:=λx ai=>by rw[<-cn]at ai;obtain⟨y,_,rfl⟩:=alj.mp ai;exact⟨rfl,rfl⟩
    have aA:qo A.op (mj p ps)=.tup [dI kp,if kp=(0,0)then A.op else w]:=by
     rw[Hj (al p (akh ..)).1 ps λx ai=>(al x (akg _ ai)).1];unfold qo;rw[(al p (akh ..)).1,(al p (akh ..)).2]
    refine⟨_,(eE a k).map (q' A s kp t),_,ql,I9 (fR.H ao aB gf) (.inr (.inl cB)) (gf.now aR) cB (Xm (fR.H ao aB gf) a3 hl sj (jH.trans cn) Ca bit ?_ ?_ (t:={ A with bQ:=done.map (ep kp w)++[ep kp w j],cB:="telling",fF:=0,fv:=t })),?_,.inr ⟨_,rfl,rfl⟩⟩
    .show a.fills (eM (maskOf ((done.map (ep kp w)++[ep kp w j]).map (·.k))))=true
     rw[jH,em];exact c
    .show b0.Do _ _ [qo A.op (mj p ps)] _ _
     rw[aA];rw[show q' A s kp t=q9 A.me A.cn A.st (.tup [dI kp,.int A.wi,A.dd,t])by unfold q';rw[W.cn,W.st]];exact Vx (a:={ A with bQ:=done.map (ep kp w)++[ep kp w j] }) (s:=kp) (fR.H ao aB gf).mem (fR.H ao aB gf).len hd dm
    .rw[aj2];have:=vq a k;show 0+_<=_;omega
  .have gf:fR a k s { A with bQ:=bQ,cB:="telling",fF:=0,fv:=t }:=⟨W.h,W.cn,W.st⟩
   refine⟨_,[],_,ql,Xl (fR.H ao aB gf) (.inr (.inr rfl)) (gf.now aR) (by show("telling":Str)≠"asking";decide +kernel),?_,.inr ⟨bQ,rfl,ak3 _⟩⟩;rw[aj2];have:=vq a k;show _+0<=_;omega) (KU a k) (vq a k) h (.inl ⟨by rw[aoC,<-qh],rfl,.inl rfl⟩) kq z
 rcases st with⟨_,_,q⟩|⟨bQ,rfl,rfl⟩
 .rcases q with q|q
  .exact absurd q (x7 ao aB).ne
  .rw[full ao.1 λj aR=>KS ao.1 aB.1 (.inl aR)]at q;cases q
 .exact⟨ar,g',bQ,dX,t1,ae,p1,eH⟩
theorem afb{F:Nat->b0}(W:fR a k s A)(cB:A.cB="telling")(k0:A.fF=0)(c0:∀m,fR a k s (F m)/\(F m).cB="calm"/\(F m).me=A.me)
  (fin:∀m j:Nat,j<6->k.fills (eM (m ||| maskOf [j]))=true->({ A with fF:=m }:b0).Do qG [iV j A.me 0 s] [] (F (m ||| maskOf [j]))) {S:cJ}{g:Nat}{aC:List (List Key×D)}(h:fB S i g b A aC) (kq:∀j∈eE a k,g0 aC j=hO s kp w) (z:aC.length<=900) :
  ∃ar g' m dX,bK S (kn [.ref i,.ref b,.lst ((eE a k).map (q' A s pr t))]) (.v (.lst [])) ar/\fB ar i g' b (F m) dX/\(∀j∈eE a k,g0 dX j=hO s s t)/\dX.length<=aC.length+6:=by
 obtain⟨ar,g',B,dX,wr,t1,ae,⟨rfl,st⟩,p1,eH⟩:=Hi (i:=i) (b:=b) (ms:=eE a k) (le:=q' A s pr t) (P0:=hO s kp w) (P1:=hO s s t) (St:=λdone B wr=>wr=[]/\((B={ A with fF:=maskOf done }/\(done=[]\/k.fills (eM (maskOf done))=false))\/∃m,B=F m)) (λdone j B wr aC S g st aR u6 sub S3 h aL z=>by
  have ql:=Xs (me:=A.me) (s:=s) (b:=dI pr) (n:=.int A.wi) (dd:=A.dd) (t:=t) aL h.d4 (by omega) (FF s);have sj:=qH aR;obtain⟨rfl,⟨rfl,q⟩|⟨m,rfl⟩⟩:=st
  .have gf:fR a k s { A with fF:=maskOf done }:=⟨W.h,W.cn,W.st⟩
   cases c:k.fills (eM (maskOf done ||| maskOf [j]))with
   |false=>exact⟨_,[],_,ql,I_ (fR.H ao aB gf) (.inr (.inr cB)) (gf.now aR) cB (Xo (fR.H ao aB gf) sj c),akA _,rfl,.inl ⟨by rw[KQ];rfl,.inr (by rw[KQ];exact c)⟩⟩|true=>exact⟨_,[],_,ql,I_ (fR.H ao aB gf) (.inr (.inr cB)) (gf.now aR) cB (fin _ j sj c),akA _,rfl,.inr ⟨_,rfl⟩⟩
  .obtain⟨gf,cs,em⟩:=c0 m
   have p:=Xp (fR.H ao aB gf) (.inl cs) (gf.now aR) (by rw[cs];decide +kernel);rw[em]at p;exact⟨_,[],_,ql,p,akA _,rfl,.inr ⟨m,rfl⟩⟩) (KU a k) (vq a k) h ⟨rfl,.inl ⟨by show A={ A with fF:=0 };rw[<-k0],.inl rfl⟩⟩ kq z
 rcases st with⟨_,q⟩|⟨m,rfl⟩
 .rcases q with q|q
  .exact absurd q (x7 ao aB).ne
  .rw[full aB.1 λj aR=>KS ao.1 aB.1 (.inr aR)]at q;cases q
 .exact⟨ar,g',m,dX,t1,ae,p1,eH⟩
end
def Hc:fy:=⟨[],[],0,.aN,.aN⟩
def Hd(W:List (List Nat)):i_ (λ_=>False) W Hc:=⟨λ_ h=>(nomatch h),aol,λ_ h=>(nomatch h),λ_ h=>(nomatch h),aol,λ_ h=>(nomatch h),.inl rfl,.inl rfl,λ_ h=>(nomatch h)⟩
structure Af(l:List Nat)(me n:Int)(t:fy):Prop where
 ok:i_ (λ_=>False) [l] t
 cz:t.cz=.aN
 qA:t.last me=n
def oX(z:D):D:=.tup [.str "did",z]
def HU{l:List Nat}{me n:Int}{t:fy}(h:Af l me n t)(m0:0<=me)(ZS:me<6)(hl:j6 l){d:kK}{x:Int}(hd:d=.put l x\/d=.add l x):∃t' z,Af l me (n+1) t'/\jk [t.D,.int me,.int (n+1),d.D]=pure (.v t'.D)/\nX [t'.D,.int me]=pure (.v (.tup [.int me,.int (n+1),z]))/\Ok 1 z:=by
 have wd:nq l:=⟨hl.ok,hl.p1,hl.pH⟩;have nz:tJ (λ_=>False) [l] d:=by rcases hd with rfl|rfl<;>exact⟨wd,akE.mpr rfl⟩
 have c:lF t.cz=true/\t.last me<n+1:=⟨by rw[h.cz];rfl,by rw[h.qA];omega⟩;have HO:mn t me (n+1) (some d)={ (jR t me d).1 with ds:=jt (Q:=kM) t.ds (me,.tup [.int me,.int (n+1),(jR t me d).2]) }:=if_pos c;have ok:=UL h.ok m0 ZS (n+1) (d:=some d) λx e=>by cases e;exact nz
 have UH:=UK h.ok (show 1<63 by omega) me (n+1) (d:=some d) λx e=>by cases e;exact nz
 have gt:e6 (Q:=kM) (mn t me (n+1) (some d)).ds me=some (.tup [.int me,.int (n+1),(jR t me d).2]):=by
  rw[HO];show e6 (Q:=kM) (jt (Q:=kM) t.ds (me,_)) me=_;rw[Ir (Q:=kM) _ h.ok.nA.nodup,if_pos rfl]
 have kV:=xC (λx ai=>(ok.num x ai).kV) (.tup ((mn t me (n+1) (some d)).cs.map (·.2))) (.tup [.int (mn t me (n+1) (some d)).f,(mn t me (n+1) (some d)).t]) (mn t me (n+1) (some d)).cz me;rw[gt]at kV;refine⟨_,_,⟨ok,?_,?_⟩,UH,kV,Lo h.ok me d⟩
 .rw[HO];rcases hd with rfl|rfl<;>exact h.cz
 .unfold fy.last;rw[gt];rfl
def UJ{me n:Int}{t:fy}(h:Af l me n t):∃c ds le,jk [t.D,.int me,.int (n+1),.tup [.str "end"]]=pure (.v (.tup [c,ds,le,.str "over"]))/\nX [.tup [c,ds,le,.str "over"],.int me]=pure (.v (.tup [.int me,.int (n+1),.int 1])):=by
 obtain⟨cs,ds,f,eQ,cz⟩:=t;obtain⟨ok,az,qA⟩:=h;have az:cz=.aN:=az;subst az;have q:n2 (e6 (Q:=fp.κ.toKeyOrd) ds me)<n+1:=by have qA:n2 (e6 (Q:=fp.κ.toKeyOrd) ds me)=n:=qA;omega
 have dl:=ok.dl;refine⟨_,_,_,HT ok.num (.tup (cs.map (·.2))) (.tup [.int f,eQ]) me (n+1) [.str "end"] q (show ds.length<63 by have:ds.length<=6:=dl;omega) ok.nA.nodup (v:=.int 1) rfl rfl,?_⟩;have kV:=xC (l:=jt (Q:=fp.κ.toKeyOrd) ds (me,.tup [.int me,.int (n+1),.int 1])) (λx ai=>(K_ ok.num me (n+1) (.int 1) x ai).kV) (.tup (cs.map (·.2))) (.tup [.int f,eQ]) (.str "over") me;rw[Ir (Q:=kM) _ ok.nA.nodup,if_pos rfl]at kV;exact kV
def ZD{a:b0}(c:a.cB="calm"):a.p0 C4 [] { a with cx:=true }:=Ba rfl λS i g h=>
 ⟨[.v (.ref i)],kg h { a with cx:=true } rfl (.of rfl) rfl rfl rfl λS h=>Vv (c1 (di (by rw[A1 (a:={ a with cx:=true }) (.inl c)];show pure (R.v (D.au (!(a.cB == "calm"))))=_;rw[c,beq_self_eq_true];rfl) (dg h rfl rfl) (.of rfl))) (r5 h (.of rfl))⟩
def Xq{a c:b0}{dU il:Nat->Bool}(H:oD a.h ms dU il){k:Nat}{me e:Int}(aB:k<6)(q:il (a.kept k).fF=true)(nC:(a.kept k).p0 ve [] c)(az:lC [c.fv]=pure (.v (.str "over")))(cs:c.cB="calm"):a.Do qG [iV k me e s] [] { c with cx:=true }:=jG rfl λS i g h=>
 CE H aB h λS h=>h1 (by have:=CD (me:=me) (e:=e) (s:=s) (s2:=.e) H aB h;rw[q]at this;exact this)<|
 BO (Y':=[.v (.ref i),.v (iV k me e s),.e]) (xD (rs:=[]) h nC rfl rfl rfl rfl) λS g h=>
 uC (qx (r:=.v (.str "over")) (eC (cQ (dg h rfl rfl) er) (.of az)) rfl)<|h1 (c1 (.of rfl))<|
 BN (c1 (di (zx vO) (.of rfl) (.of rfl)))<|BO (Y':=[.v (.ref i),.v (iV k me e s),.v (.str "over")]) (xD (rs:=[]) h (ZD cs) rfl rfl rfl rfl) λS g h=>r5 h (.of rfl)
structure tI(a k:a4)(me r wi:Int)(cx:Bool)(cw:D)(A:b0):Prop where
 me:A.me=me
 h:A.h=gV a k
 cn:A.cn=0
 op:A.op=rK
 cx:A.cx=cx
 cR:A.cR=r
 wi:A.wi=wi
 cB:A.cB="calm"
 cw:A.cw=cw
structure rp(a k:a4)(me r wi:Int)(d:D)(cB:Str)(A:b0):Prop where
 st:A.st=(r,me)
 me:A.me=me
 h:A.h=gV a k
 cn:A.cn=0
 op:A.op=rK
 cx:A.cx=false
 cR:A.cR=r
 wi:A.wi=wi
 cB:A.cB=cB
 cw:A.cw=.aN
 dd:A.dd=d
section
variable{a k:a4}(ao:Good a)(aB:Good k){me r wi:Int}{d t w cw:D}{p:eo}{cB:Str}{A:b0}{S:cJ}{i g b:Nat}{aC:List (List Key×D)}
include ao aB
theorem Lg(he:A.cn=0)(c6:A.h=gV a k)(aT:A.op=rK):Ok 12 (.tup [.int A.cn,A.h,A.op]):=by
 rw[c6,aT];exact Lc (n:=11) js (aaJ ao aB) (qQ (n:=10) (i_.ok (Hd []) (by decide) λz hz=>hz.elim) (by decide))
theorem tI.wg{cx:Bool}(z:tI a k me r wi cx cw A)(o:Ok 12 cw):Std A:=⟨by rw[z.cB];exact zc,by rw[z.cw];exact o,Lg ao aB z.cn z.h z.op⟩
theorem rp.wg(z:rp a k me r wi d cB A)(o:akf cB=true):Std A:=⟨by rw[z.cB];exact o,by rw[z.cw];exact zf,Lg ao aB z.cn z.h z.op⟩
theorem EM(z:tI a k me r wi false cw A)(hd:c9 d=.v d)(nn:lF d=false)(a6:km [d]=pure (.v (.au true)))(h:fB S i g b A aC):∃ar g' eW,bK S (su [.ref i,d]) (.fr ((eE a k).map (oO me 0 (r+1,me)))) ar/\fB ar i g' b eW aC/\rp a k me (r+1) (wi+1) d "asking" eW/\eW.bQ=[]:=by
 obtain⟨rfl,c6,he,aT,bu,rfl,rfl,az,rfl⟩:=z;have H:=x7 ao aB;obtain⟨ar,g',t,s⟩:=R2 (a:=A) (by rw[c6];exact H.mem) H.len az bu hd ((y3 d).trans (by rw[nn];rfl)) a6 S i g h.e';rw[he]at t;exact⟨ar,g',_,t,h.step s,⟨rfl,rfl,c6,he,aT,bu,rfl,rfl,rfl,rfl,rfl⟩,rfl⟩
theorem EL(z:rp a k me r wi d "asking" A)(qh:A.bQ=[])(hd:lF d=false)(dm:jk [if p=(0,0)then rK else w,.int me,.int wi,d]=pure (.v t))(pr:p.1<r)(h:fB S i g b A aC)(kq:∀j∈eE a k,g0 aC j=hO p p w)(m_:aC.length<=900) :
  ∃ar g' eW dX,bK S (kn [.ref i,.ref b,.lst ((eE a k).map (oO me 0 (r,me)))]) (.v (.lst ((eE a k).map (q9 me 0 (r,me) (.tup [dI p,.int wi,d,t]))))) ar/\fB ar i g' b eW dX/\(rp a k me r wi d "telling" eW/\eW.fF=0/\eW.fv=t)/\(∀j∈eE a k,g0 dX j=hO (r,me) p w)/\dX.length<=aC.length+6:=by
 obtain⟨eB,rfl,c6,he,aT,bu,rfl,rfl,az,hc,rfl⟩:=z;rw[<-aT]at dm;obtain⟨ar,g',bQ,dX,t1,ae,p1,eH⟩:=Pz ao aB (s:=(A.cR,A.me)) (kp:=p) (pr:=p) (w:=w) (t:=t) ⟨c6,he,eB⟩ az qh (λe=>by rw[e]at hd;cases hd) (by rw[aT];rfl) dm (by unfold ja;simp;omega) h kq m_;exact⟨ar,g',_,dX,t1,ae,⟨⟨eB,rfl,c6,he,aT,bu,rfl,rfl,rfl,hc,rfl⟩,rfl,rfl⟩,p1,eH⟩
theorem EO(z:rp a k me r wi d "telling" A)(k0:A.fF=0)(U3:A.fv=t)(hd:lF d=false)(X9:c9 t=.v t)(dm:nX [t,.int me]=pure (.v (.tup [x,.int wi,m8])))(cz:cx=false/\lC [t]=pure (.v .aN)\/cx=true/\lC [t]=pure (.v (.str "over")))(h:fB S i g b A aC)(kq:∀j∈eE a k,g0 aC j=hO (r,me) p w)(m_:aC.length<=900) :
  ∃ar g' eW dX,bK S (kn [.ref i,.ref b,.lst ((eE a k).map (q9 me 0 (r,me) (.tup [dI p,.int wi,d,t])))]) (.v (.lst [])) ar/\fB ar i g' b eW dX/\tI a k me r wi cx (oX m8) eW/\(∀j∈eE a k,g0 dX j=hO (r,me) (r,me) t)/\dX.length<=aC.length+6:=by
 obtain⟨eB,rfl,c6,he,aT,bu,rfl,rfl,az,hc,rfl⟩:=z;subst U3;have W:fR a k (A.cR,A.me) A:=⟨c6,he,eB⟩;obtain⟨ar,g',m,dX,t1,ae,p1,eH⟩:=afb ao aB (s:=(A.cR,A.me)) (kp:=p) (pr:=p) (w:=w) (t:=A.fv) (F:=λm=>{ A with fF:=m,cB:="calm",cw:=oX m8,cx:=cx }) W az k0 (λm=>⟨⟨c6,he,eB⟩,rfl,rfl⟩) (λm j aR q=>by
  have gf:fR a k (A.cR,A.me) { A with fF:=m }:=⟨c6,he,eB⟩;have nC:=UW (a:=b0.kept { A with fF:=m } j) (x:=x) (ans:=m8) (λe=>by have e:A.dd=.aN:=e;rw[e]at hd;cases hd) X9 dm;rcases cz with⟨rfl,cz⟩|⟨rfl,cz⟩
  .have:=Xn (me:=A.me) (e:=0) (s:=(A.cR,A.me)) (fR.H ao aB gf) aR q nC cz
   rw[show b0.ends (b0.kept { A with fF:=m } j) (.tup [.str "did",m8])={ A with fF:=m ||| maskOf [j],cB:="calm",cw:=oX m8,cx:=false }by rw[<-bu];rfl]at this;exact this
  .exact Xq (me:=A.me) (e:=0) (s:=(A.cR,A.me)) (fR.H ao aB gf) aR q nC cz rfl) h kq m_
 exact⟨ar,g',_,dX,t1,ae,⟨rfl,c6,he,aT,rfl,rfl,rfl,rfl,rfl⟩,p1,eH⟩
omit ao aB in
theorem R3(c:A.cB="calm"):A.Do C2 [] [] A:=jG rfl λS i g h=>xZ h (c1 (di (by rw[calm_eq (.inl c),c,beq_self_eq_true]) (dg h rfl rfl) (.of rfl))) (.of rfl)
end
end en
namespace en
open PySem PySem.Spec ax aE
def A2(ns:List Int)(k:Nat):lB [.lst (ns.map D.int),.int (k:Nat)]=pure (.v (.int (ns.getD k 0))):=by
 simp only[lB,Gz,GA]
 by_cases h:k<ns.length
 .simp[h,PB h]
 .simp[h]
end en
namespace en
open PySem PySem.Spec ax aE iG gO kL
section
variable{S S1 a7:cJ}{Y:aQ}
def agT{a b:aQ->N Bool}(h:bK S (a Y) false S1)(ag:bK S1 (b Y) x a7):bK S (z1 a b Y) x a7:=h.bind ag
def x_pure{mf:bq}{ms:g8}{rs:List R}{r:R}(h:bK S (ms Y) rs S1)(e:mf (rs.map R.arg)=pure r):bK S (ts mf ms Y) r S1:=h.bind (aS.of e).to
def Oz{mf:eY}{ms:g8}{rs:List R}{r:R}(h:bK S (ms Y) rs S1)(az:rs.all R.hR=true)(e:bK S1 (mf (rs.map R.arg)) r a7):bK S (kE mf ms Y) r a7:=h.bind (by rw[if_pos az];exact e)
def zU{m:bf}{ms:g8}(h:aS S (m Y) (.v d))(ag:bK S (ms Y) xs S1):bK S (rj (dE m) ms Y) (.v d::xs) S1:=h.to.bind (ag.bind (by show bK S1 (if true=true then _ else _) _ _;rw[if_pos rfl];rfl))
end
def agL{a b:cX}{r:R}(h:bK S (a Y) (.v (.au true)) S1)(ag:bK S1 (b Y) r a7):bK S (zR a b Y) r a7:=h.bind ((aS.of (m:=R.ob (.v (.au true))) (a:=true) rfl).to.bind ag)
abbrev Pk(ns:List Int)(me:Int)(d:D)(s5 pN:Slot):aQ:=[.b8 (ns.map D.int),.v (.int me),.v d,.v (.ref 0),.v (.ref 2),s5,pN]
def NP{A:b0}(h:dC S i g A)(h0:U 3 Y=pure (.v (.ref i)))(e:A.cB=x):aS S (fk "Asker" "stand" vg (U 3) aj Y) (.v (.str x)):=mh h h0 rfl (by show some (D.str A.cB)=_;rw[e]) rfl
def aaI:akf "did"=true:=by decide +kernel
def aaM:Ok 13 (.lst []):=DI (n:=12) (akA _) λ_ h=>(nomatch h)
def Eg:hg 14 [.lst [],.lst []]=pure (.v (.au true)):=same_refl 13 _ aaM
def ZC(ns:List Int)(aF:ns.length<=63):∃ar,(C9 [.lst (ns.map D.int)]).run []=.ok (.v (.au true)) ar:=by
 obtain⟨a,k,ui,ao,aB⟩:=Zy (ns.getD 0 0 % 600);have yf:=mod_lt (a:=ns.getD 1 0) (b:=6) (by decide);have p9:=A2 ns 0;have bE:=A2 ns 1;have Hl:=A2 ns 2;obtain⟨d,dm,dd⟩:=Zx (ns.getD 2 0 / 512 % 10 ^ 50) (ns.getD 2 0 % 512);have Bb:=YD dd;obtain⟨wd,l,n,rfl,hw,hl,aF⟩:=dd.ex;obtain⟨wN,UT,ip⟩:∃wN:kK,wN.D=.tup [.str wd,.str (bo l),.int n]/\(wN=.put l n\/wN=.add l n):=by
  rcases hw with rfl|rfl
  .exact⟨.put l n,rfl,.inl rfl⟩
  .exact⟨.add l n,rfl,.inr rfl⟩
 have aw:cY 1 (av oMod (bj lB (J (U 0) (J (af (.int 1)) aj))) (af (.int 6))) [.b8 (ns.map D.int),.e,.e,.e,.e,.e,.e]=pure (.bw [.b8 (ns.map D.int),.v (.int (ns.getD 1 0 % 6)),.e,.e,.e,.e,.e]):=
  s9 (eZ (sD (by decide)) (call_of (rs:=[.b8 (ns.map D.int),.v (.int 1)]) rfl bE) rfl)
 have aG:∀t1:Slot,cY 2 (bj vl (J (av oMod (av ko (bj lB (J (U 0) (J (af (.int 2)) aj))) (af (.int 512))) (av lG (af (.int 10)) (af (.int 50)))) (J (av oMod (bj lB (J (U 0) (J (af (.int 2)) aj))) (af (.int 512))) aj))) [.b8 (ns.map D.int),t1,.e,.e,.e,.e,.e]=pure (.bw [.b8 (ns.map D.int),t1,.v (.tup [.str wd,.str (bo l),.int n]),.e,.e,.e,.e]):=λ_=>
  s9 (call_of (rs:=[.v (.int (ns.getD 2 0 / 512 % 10 ^ 50)),.v (.int (ns.getD 2 0 % 512))]) (cons_of (eZ (sD (by decide)) (eZ (HQ ⟨by decide,by decide⟩) (call_of (rs:=[.b8 (ns.map D.int),.v (.int 2)]) rfl Hl) rfl) (eZ (LJ (by decide) rfl) rfl rfl)) (cons_of (eZ (sD (by decide)) (call_of (rs:=[.b8 (ns.map D.int),.v (.int 2)]) rfl Hl) rfl) rfl)) dm)
 have c3:∀t1 hn:Slot,(bj vm (J (av oMod (bj lB (J (U 0) (J (af (.int 0)) aj))) (af (.int 600))) aj)) [.b8 (ns.map D.int),t1,hn,.e,.e,.e,.e]=pure (.v (gV a k)):=λ_ _=>
  call_of (rs:=[.v (.int (ns.getD 0 0 % 600))]) (cons_of (eZ (sD (by decide)) (call_of (rs:=[.b8 (ns.map D.int),.v (.int 0)]) rfl p9) rfl) rfl) ui
 generalize ns.getD 1 0 % 6=me at *;have tk:Tk (.tup [.str wd,.str (bo l),.int n]):=⟨rfl,.inr Bb⟩;have K':∀{z:D},Ok 1 z->Ok 12 (oX z):=λo=>qQ (n:=2) (sN (zg aaI) o) (by decide)
 have NF:∀{t:fy},t.cz=.aN->lC [t.D]=pure (.v .aN):=λ{t} e=>by show lC [.tup [_,_,_,t.cz]]=_;rw[e];rfl
 obtain⟨S1,t1,ae,b6,f1⟩:=Yr [] me (gV a k) rfl;have h0:fB (S1++[.e0 []]) 0 1 2 (y2 me (gV a k)) []:=⟨⟨Fr.app (W:=[]) _ _ aly ae.bh,Fr.app (W:=[]) _ _ aly ae.ls⟩,by have:=Iv (S:=S1) (o:=.e0 []);rw[b6]at this;exact this⟩;have m8:tI a k me 0 0 false .aN (y2 me (gV a k)):=⟨rfl,rfl,rfl,rfl,rfl,rfl,rfl,rfl,rfl⟩;obtain⟨hJ,wC,nf,HR,Uw,pD⟩:=HU (n:=0) (l:=l) (me:=me) (t:=Hc) ⟨Hd _,rfl,rfl⟩ yf.1 yf.2 hl ip;obtain⟨Pg,wD,ax,HS,Ux,qK⟩:=HU nf yf.1 yf.2 hl ip;obtain⟨ah3,ny,lc,UI,Uy⟩:=UJ ax;rw[UT]at HR HS;have K4:∀{r:Int},0<r->¬((r,me)=((0,0):eo)):=λh e=>by have:=congrArg Prod.fst e;have:_=(0:Int):=this;omega
 obtain⟨a7,g2,Fh,ae4,ag,bY,Vz⟩:=EM ao aB m8 (d:=.tup [.str wd,.str (bo l),.int n]) rfl rfl Bb h0;obtain⟨ct,g3,ahQ,yD,aeX,bO,⟨fa,Zj,afg⟩,sR,J7⟩:=EL ao aB (p:=(0,0)) (w:=.aN) bY Vz rfl (by rw[if_pos rfl];exact HR) (show(0:Int)<0+1 by omega) ag (λ_ _=>rfl) (akA _);have J7:yD.length<=6:=J7;obtain⟨ni,kY,ahR,ajr,afl,cO,l1,jT,ajv⟩:=EO ao aB fa Zj afg rfl rfl Uw (.inl ⟨rfl,NF nf.cz⟩) bO sR (by omega);obtain⟨p7,xU,ahS,ae5,dV,hY,VA⟩:=EM ao aB l1 (d:=.tup [.str wd,.str (bo l),.int n]) rfl rfl Bb cO;obtain⟨Pf,aja,ahT,ajs,aeY,k4,⟨p8,Zk,afh⟩,aba,yE⟩:=EL ao aB (p:=(0+1,me)) (w:=hJ.D) hY VA rfl (by rw[if_neg (K4 (by omega))];exact HS) (show(0+1:Int)<0+1+1 by omega) dV jT (by omega);obtain⟨ahZ,ajb,z7,ajt,afm,r7,wF,abb,ajw⟩:=EO ao aB p8 Zk afh rfl rfl Ux (.inl ⟨rfl,NF ax.cz⟩) k4 aba (by omega);obtain⟨ah0,ajc,ahU,ae6,BQ,PE,VB⟩:=EM ao aB wF (d:=.tup [.str "end"]) rfl rfl rfl r7;obtain⟨ah1,ajd,ahV,aju,aeZ,VH,⟨PF,Zl,afi⟩,abc,ajx⟩:=EL ao aB (p:=(0+1+1,me)) (w:=Pg.D) PE VB rfl (by rw[if_neg (K4 (by omega))];exact UI) (show(0+1+1:Int)<0+1+1+1 by omega) BQ abb (by omega);obtain⟨Pd,Vk,Fg,ajq,afk,r6,ro,_,_⟩:=EO ao aB PF Zl afi rfl rfl Uy (.inr ⟨rfl,rfl⟩) VH abc (by omega);obtain⟨Pe,ai9,afd,_⟩:=R3 ro.cB Pd 0 Vk r6.e';have acg:=ace (ns:=ns) (f:=0) (wd:=wd) (n:=n) h0.e' (m8.wg ao aB zf) hl;have ach:=D_ (ns:=ns) (f:=1) ag.e' (bY.wg ao aB DE) hl tk (.inr ⟨rfl,bY.cx,.inr (.inl bY.cB),by rw[bY.cB];decide +kernel⟩);have aci:=D_ (ns:=ns) (f:=2) bO.e' (fa.wg ao aB zh) hl tk (.inr ⟨rfl,fa.cx,.inr (.inr fa.cB),by rw[fa.cB];decide +kernel⟩);have acj:=D_ (ns:=ns) (f:=3) (w:="over") r6.e' (ro.wg ao aB (K' js)) hl tk (.inl ⟨rfl,ro.cx⟩);refine⟨Pe,zV rfl ?_⟩;refine fK (aS.of aw).to ?_;refine fK (aS.of (aG _)).to ?_;refine fK (rl (agR (rs:=[.v (.int me),.v (gV a k)]) (.of (cons_of rfl (cons_of (c3 _ _) rfl))) rfl t1) rfl) ?_;refine fK (Y':=Pk ns me (.tup [.str wd,.str (bo l),.int n]) .e .e) (S1:=S1++[.e0 []]) ?_ ?_
 .show bK S1 (lZ 4 (tq (.e0 [])) _) _ _
  have:bK S1 (tq (.e0 []) [.b8 (ns.map D.int),.v (.int me),.v (.tup [.str wd,.str (bo l),.int n]),.v (.ref 0),.e,.e,.e]) (.v (.ref S1.length)) (S1++[.e0 []]):=rfl;rw[b6]at this;exact rl this rfl
 refine tw (mK (x:=true) (c1 (eC (rs:=[.v (.ref 0),.b8 (ns.map D.int),.v (.int 0),.v (.tup [.str wd,.str (bo l),.int n]),.v (.str "")]) (.of rfl) acg))) ?_;refine fK (rl (tv h0.e'.bh (.of rfl) rfl (rs:=[.v (.tup [.str wd,.str (bo l),.int n])]) (aS.to (.of rfl)) rfl ae4) rfl) ?_;refine tw (mK (x:=true) (c1 (eC (rs:=[.v (.ref 0),.b8 (ns.map D.int),.v (.int 1),.v (.tup [.str wd,.str (bo l),.int n]),.v (.str "busy")]) (.of rfl) ach))) ?_;refine fK (rl (x_call (rs:=[.v (.ref 0),.v (.ref 2),.v (.lst _)]) (.of rfl) rfl aeX) rfl) ?_;refine tw (sl (c1 (di (Ej zh) (NP bO.e' rfl fa.cB) (.of rfl))) (mK (x:=true) (c1 (eC (rs:=[.v (.ref 0),.b8 (ns.map D.int),.v (.int 2),.v (.tup [.str wd,.str (bo l),.int n]),.v (.str "busy")]) (.of rfl) aci)))) ?_;refine zY (agT (OF (x:=true) (Ox (x_pure (rs:=[.v (.lst []),.fr []]) (tu (x_call (rs:=[.v (.ref 0),.v (.ref 2),.v (.lst _)]) (.of rfl) rfl afl) (.of rfl)) Eg))) (aS.to (c1 (di (Ej zc) (NP cO.e' rfl l1.cB) (.of rfl))))) ?_;refine fK (rl (Oz (rs:=[.v (.ref 0),.v (.ref 2),.fr _]) (zU (.of rfl) (zU (.of rfl) (tu (tv cO.e'.bh (.of rfl) rfl (rs:=[.v (.tup [.str wd,.str (bo l),.int n])]) (aS.to (.of rfl)) rfl ae5) (.of rfl)))) rfl aeY) rfl) ?_;refine fK (OA (x_call (rs:=[.v (.ref 0),.v (.ref 2),.v (.lst _)]) (.of rfl) rfl afm)) ?_;refine tw (sl (c1 (di (vH.trans (by rw[wF.wi];rfl)) (mh (v:=.int z7.wi) r7.e' rfl rfl rfl rfl) (.of rfl))) (c1 (di ((YB z7.cw).trans (by rw[wF.cw];rfl)) (mh (v:=z7.cw) r7.e' rfl rfl rfl rfl) (.of rfl)))) ?_;refine fK (rl (Oz (rs:=[.v (.ref 0),.v (.ref 2),.fr _]) (zU (.of rfl) (zU (.of rfl) (tu (tv r7.e'.bh (.of rfl) rfl (rs:=[.v (.tup [.str "end"])]) (aS.to (.of rfl)) rfl ae6) (.of rfl)))) rfl aeZ) rfl) ?_;refine zY (OF (x:=true) (Ox (x_pure (rs:=[.v (.lst []),.fr []]) (tu (x_call (rs:=[.v (.ref 0),.v (.ref 2),.v (.lst _)]) (.of rfl) rfl afk) (.of rfl)) Eg))) ?_;refine tw (mK (x:=true) (c1 (eC (rs:=[.fr [oX (.int 1),.au true],.fr [oX (.int 1),.au true]]) (cQ (JR (rs:=[.v (oX (.int 1)),.v (.au true)]) (cQ (mh r6.e' rfl rfl (by show some Fg.cw=_;rw[ro.cw]) rfl) (cQ (mh r6.e' rfl rfl (by show some (D.au Fg.cx)=_;rw[ro.cx]) rfl) er)) rfl (aj3 rfl)) (.of rfl)) (.of (same_refl 13 (.lst [oX (.int 1),.au true]) (DI (n:=12) (aj3 rfl) λx ai=>by
   simp only[aj5,aly,or_false]at ai;rcases ai with rfl|rfl
   .exact K' js
   .exact Ld)))))) ?_
 exact agV (agL (aS.to (eC (rs:=[.v (.ref 0),.b8 (ns.map D.int),.v (.int 3),.v (.tup [.str wd,.str (bo l),.int n]),.v (.str "over")]) (.of rfl) acj)) (x_pure (rs:=[.fr [],.fr []]) (tu (tv r6.e'.bh (.of rfl) rfl (rs:=[]) rfl rfl afd) (.of rfl)) Eg))
end en
namespace PySem.W.Fast
noncomputable def tw4346923982451862816:List PySem.Stmt:=(PySem.Challenge.pw_oneslate_k38_begin_refused.main.body.drop 16).take 1
theorem te4346923982451862816:tw4346923982451862816=tw4346923982451862816:=rfl
noncomputable def tw8477658391463777345:List PySem.Stmt:=(PySem.Challenge.pw_oneslate_k38_begin_refused.main.body.drop 86).take 13
theorem te8477658391463777345:tw8477658391463777345=tw8477658391463777345:=rfl
noncomputable def tw6013177079038409411:List PySem.Stmt:=(PySem.Challenge.pw_oneslate_k38_begin_refused.main.body.drop 15).take 1
theorem te6013177079038409411:tw6013177079038409411=tw6013177079038409411:=rfl
noncomputable def tw1132524186419099236:List PySem.Stmt:=(PySem.Challenge.pw_oneslate_k38_begin_refused.main.body.drop 20).take 1
theorem te1132524186419099236:tw1132524186419099236=tw1132524186419099236:=rfl
noncomputable def tw7011326381017084327:List PySem.Stmt:=(PySem.Challenge.pw_oneslate_k38_begin_refused.main.body.drop 0).take 11
theorem te7011326381017084327:tw7011326381017084327=tw7011326381017084327:=rfl
noncomputable def tw2606772729454356872:List PySem.Stmt:=(PySem.Challenge.pw_oneslate_k38_begin_refused.main.body.drop 22).take 10
theorem te2606772729454356872:tw2606772729454356872=tw2606772729454356872:=rfl
noncomputable def tw9507854760626193481:List PySem.Stmt:=(PySem.Challenge.pw_oneslate_k38_begin_refused.main.body.drop 70).take 8
theorem te9507854760626193481:tw9507854760626193481=tw9507854760626193481:=rfl
noncomputable def tw5124494580754332234:List PySem.Stmt:=(PySem.Challenge.pw_oneslate_k38_begin_refused.main.body.drop 19).take 1
theorem te5124494580754332234:tw5124494580754332234=tw5124494580754332234:=rfl
noncomputable def tw16350825887766659563:PySem.Program:={PySem.Challenge.pw_oneslate_k38_begin_refused with main:={PySem.Challenge.pw_oneslate_k38_begin_refused.main with body:=([1,2,3,4,5,7,8,9,11,12,13,14,15,16,17,18,19,20,21,22,24,25,26,27,28,29,30,31,32,33,34,35,36,37,39,40,41,42,43,45,46,47,48,49,50,51,52,53,55,56,57,58,59,60,61,62,63,64,65,67,68,69,70,71,72,73,74,75,76,77,78,79,80,82,83,85,87,88,89,90,91,92,93,94,95,96,97,98,99,100,101,102,103]:List Nat).filterMap fun i=>PySem.Challenge.pw_oneslate_k38_begin_refused.main.body[i]?}}
theorem te16350825887766659563:tw16350825887766659563=tw16350825887766659563:=rfl
noncomputable def tw3654968116287712139:List PySem.Stmt:=(PySem.Challenge.pw_oneslate_k38_begin_refused.main.body.drop 14).take 1
theorem te3654968116287712139:tw3654968116287712139=tw3654968116287712139:=rfl
noncomputable def tw2545525428674020335:List PySem.Stmt:=(PySem.Challenge.pw_oneslate_k38_begin_refused.main.body.drop 47).take 9
theorem te2545525428674020335:tw2545525428674020335=tw2545525428674020335:=rfl
noncomputable def tw5151257985138475888:List PySem.Stmt:=(PySem.Challenge.pw_oneslate_k38_begin_refused.main.body.drop 85).take 1
theorem te5151257985138475888:tw5151257985138475888=tw5151257985138475888:=rfl
noncomputable def tw8872247553893506481:List PySem.Stmt:=(PySem.Challenge.pw_oneslate_k38_begin_refused.main.body.drop 56).take 14
theorem te8872247553893506481:tw8872247553893506481=tw8872247553893506481:=rfl
noncomputable def tw15890191758320754225:List PySem.Stmt:=(PySem.Challenge.pw_oneslate_k38_begin_refused.main.body.drop 18).take 1
theorem te15890191758320754225:tw15890191758320754225=tw15890191758320754225:=rfl
noncomputable def tw7119143033022158034:List PySem.Stmt:=(PySem.Challenge.pw_oneslate_k38_begin_refused.main.body.drop 17).take 1
theorem te7119143033022158034:tw7119143033022158034=tw7119143033022158034:=rfl
noncomputable def tw17682674323208285398:List PySem.Stmt:=(PySem.Challenge.pw_oneslate_k38_begin_refused.main.body.drop 32).take 15
theorem te17682674323208285398:tw17682674323208285398=tw17682674323208285398:=rfl
noncomputable def tw7030462995391284954:List PySem.Stmt:=(PySem.Challenge.pw_oneslate_k38_begin_refused.main.body.drop 21).take 1
theorem te7030462995391284954:tw7030462995391284954=tw7030462995391284954:=rfl
noncomputable def tw3562893346848971515:List PySem.Stmt:=(PySem.Challenge.pw_oneslate_k38_begin_refused.main.body.drop 99).take 5
theorem te3562893346848971515:tw3562893346848971515=tw3562893346848971515:=rfl
noncomputable def tw5196508729901744987:List PySem.Stmt:=(PySem.Challenge.pw_oneslate_k38_begin_refused.main.body.drop 13).take 1
theorem te5196508729901744987:tw5196508729901744987=tw5196508729901744987:=rfl
noncomputable def tw8516410761804423099:List PySem.Stmt:=(PySem.Challenge.pw_oneslate_k38_begin_refused.main.body.drop 78).take 7
theorem te8516410761804423099:tw8516410761804423099=tw8516410761804423099:=rfl
noncomputable def tw4950610026205299519:List PySem.Stmt:=(PySem.Challenge.pw_oneslate_k38_begin_refused.main.body.drop 11).take 2
theorem te4950610026205299519:tw4950610026205299519=tw4950610026205299519:=rfl
def te9690249485423032729:=0
def te9300796540310572902:=0
def te13366906472359756770:=0
def te9050740035921213586:=0
def te6762151150795294846:=0
def te5707294212933553561:=0
def te18234154157037113571:=0
def te13713432034280847165:=0
def te683039644420594420:=0
def te18318276328108143308:=0
def te8044494272057751821:=0
def te10881338099273909234:=0
def te13881343618151076944:=0
def te12549387641533895482:=0
def te11314628964360945659:=0
def te4319339794756419075:=0
def te15743632345522088589:=0
def te7172454907366512887:=0
def te4939910134161538957:=0
def te14247890948980083370:=0
def te9015308468918076175:=0
def te12643293314449969918:=0
def te18170450389305421394:=0
def te10295604370160124867:=0
def te18119499169762069691:=0
def te12922734841428479402:=0
def te6139966293547914952:=0
def te4746034511946678898:=0
def te16848236479109167743:=0
def te12963741751622657123:=0
def te16306925301159871346:=0
def te14318019544954102038:=0
def te7694128916216645632:=0
def te14565714792953016357:=0
def te1358212860653312566:=0
def te9521430219570894554:=0
def te7956656466195558265:=0
def te16783804242827787642:=0
def te5936569151697661704:=0
def te10995609175855831317:=0
def te451645533109111058:=0
def te6300426344249033986:=0
def te13259208238452727641:=0
def te13292668429693869555:=0
def te7669201865050952618:=0
def te17154741115799866499:=0
def te5074742316955496925:=0
def te11452185096034871971:=0
def te15761415103232330798:=0
def te10163885995765673357:=0
def te15960961872149160948:=0
def te1930119564999055241:=0
def te16029815975723588051:=0
def te4049058713281027670:=0
def te1114544869167598248:=0
def te12300200137605854980:=0
def te16874463312771685108:=0
def te15641198951674662963:=0
def te1168697530196970529:=0
def te16420782679277169921:=0
def te9457579720573017950:=0
def te10227042552253719630:=0
def te15078983839526968923:=0
def te8294391306961690190:=0
def te17918015228077962899:=0
def te11444101457347770196:=0
def te4190423088081386344:=0
def te16289321578155724355:=0
def te12375851430274925240:=0
def te4699237260174835882:=0
def te16903256789386897181:=0
def te6156631793281051455:=0
def te14161619221812074540:=0
def te4212622940625917589:=0
def te12437504565163948367:=0
def te17509622548637345017:=0
def te16547047217276025732:=0
def te2238846306192102397:=0
def te16284449528969352741:=0
def te7389189202731780023:=0
def te10768251918508848199:=0
def te11625148203667615940:=0
def te5073307761444285348:=0
def te13369380631839874711:=0
def te8002407875857553703:=0
def te4195973538188596314:=0
def te7902130589942674556:=0
def te7326782031714537226:=0
def te1887414481217888168:=0
def te17807681863479321350:=0
def te2716414642465673025:=0
def te8065910153966838301:=0
def te3681298490642934158:=0
def te17442352203117454885:=0
def te9333781485066921246:=0
def te11629337297210656135:=0
def te11500660728545771427:=0
def te3016220621412696625:=0
def te17760813982918847360:=0
def te3736001320937604616:=0
def te3795972979038531810:=0
def te8931882926415881139:=0
def te10194151016649520079:=0
def te6996342468357927113:=0
def te5402217587266094301:=0
def te15779229503084967012:=0
def te2777407428589568380:=0
def te11461055968863312171:=0
def te14351957957004095404:=0
def te3348239304080588018:=0
def te3629378066575147868:=0
def te7124805697272157537:=0
def te11957020982817350713:=0
def te17177325634438579062:=0
def te4368510273836395478:=0
def te17993246048130872904:=0
def te16310588699653452641:=0
def te9325229725244473832:=0
def te14838344869606327287:=0
def te2977720307528027227:=0
def te642485745263490692:=0
def te4763624726339369401:=0
def te11021028144498472617:=0
def te4214658543582673970:=0
def te11876742072116076922:=0
def te5460592124325823306:=0
def te6146777536913319931:=0
def te14232115510027676890:=0
def te118125395907869022:=0
def te4617738853854789531:=0
def te2071547166078983751:=0
def te10854478507037967611:=0
def te9784303546240654964:=0
def te10946237839474357416:=0
def te749364566454160411:=0
def te15790232902210847836:=0
def te8527513833873131899:=0
def te10147303848748953344:=0
def te10377206524471492057:=0
def te8069078688807161338:=0
def te17811423467663020594:=0
def te12900375780817580540:=0
def te14305747744065368650:=0
def te14677987165482294457:=0
def te2811149004025921674:=0
def te12437742918632621617:=0
def te6052975055052309482:=0
def te13993993372623832374:=0
def te18385610482325908711:=0
def te17980829930661628461:=0
def te2241451944331852199:=0
def te4555801520887434002:=0
def te5005055802265690438:=0
def te1347827241247245477:=0
def te12043279055811765851:=0
def te16024140965496621905:=0
def te10547367643100945477:=0
def te9719747621718676354:=0
def te7520347840571880556:=0
def te11572836159207978625:=0
def te7868105034595202966:=0
def te94795560304596110:=0
def te16217736652985448467:=0
def te6261285552105444859:=0
def te964545463892785403:=0
def te2798403466122511013:=0
def te4064928512745523535:=0
def te10819147643355660085:=0
def te1298371585321226918:=0
def te17757157902684676914:=0
def te17598005339672828306:=0
def te1490678966430846861:=0
def te16094417216430124418:=0
def te15021892010484676429:=0
def te5500294867069619332:=0
def te9639493671441231939:=0
def te2576698639047612432:=0
def te6149737747166782505:=0
def te16157954695136157170:=0
def te4394799511779837928:=0
def te10271772359379973359:=0
def te11786346591980292902:=0
def te11666687058818321382:=0
def te2215600758844363097:=0
def te13671855367313761229:=0
def te13736326302492198250:=0
def te18077760007636928290:=0
def te3932466367546535330:=0
def te16834363863111575053:=0
def te6039392667866584160:=0
def te3112546980056830529:=0
def te711144777387103211:=0
def te16109964680604583451:=0
def te10514540984161908304:=0
def te722041625869291362:=0
def te11821409869790704626:=0
def te14148885697805490032:=0
def te14931649584521339261:=0
def te3624778466134711179:=0
def te12238989486762556229:=0
def te4237745677229932186:=0
def te2116857174016104410:=0
def te3218752712967264435:=0
def te15854546188487046546:=0
def te8182110746430672780:=0
def te16244609287554958681:=0
def te4889873094985891756:=0
def te222207103860951098:=0
def te11589079486697623407:=0
def te7287558143790484113:=0
def te17180788571410864357:=0
def te9514246877514698494:=0
def te8763501253981619054:=0
def te1121776485705397483:=0
def te12816910699400175464:=0
def te15507850740377341965:=0
def te16881701852060288046:=0
def te7842369026187304690:=0
def te9437083297775388917:=0
def te8452541697520998349:=0
def te18278801636251973375:=0
def te3322066674448662820:=0
def te8745170938260504345:=0
def te14696006003129155107:=0
def te5814833468624210237:=0
def te7317965188828183651:=0
def te931453150756861243:=0
def te16287158787113979660:=0
def te4797753742303840872:=0
def te14660311194545589697:=0
def te1860097528467002612:=0
def te7768443818322340229:=0
def te15302957988541530427:=0
def te8925502819815907619:=0
def te9653376751814251206:=0
def te16360386179427101322:=0
def te16241008666674658302:=0
def te5743985569933881763:=0
def te11792129367662827763:=0
def te14659579464424470923:=0
def te9254686188650521860:=0
def te11097326858373914939:=0
def te4260336646777296094:=0
def te1306192568940486633:=0
def te8463774606555689702:=0
def te94835781152453454:=0
def te2385265443096960596:=0
def te6786421598853153019:=0
def te1550322781278169535:=0
def te14869846401016744315:=0
def te3752062319069626463:=0
def te1626157862526149145:=0
def te10819904729141634118:=0
def te2370466274608567600:=0
def te17454615287621662372:=0
def te6713340361612570178:=0
def te16581644715987406434:=0
def te774268123783331828:=0
def te12167434425786864829:=0
def te7713582483830087819:=0
def te13872698178906995736:=0
def te6076468895153409708:=0
def te1586333677755277256:=0
def te17615587581782085735:=0
def te12515287132992712198:=0
def te6600575713224767604:=0
def te9951788390312109066:=0
def te9853839799697117471:=0
def te1679733624786158181:=0
def te15967795620610915982:=0
def te9387774836503931275:=0
def te1221077861386950600:=0
def te15713254095027003616:=0
def te12422496385272699893:=0
def te6907361205072684817:=0
def te7379930715624707638:=0
def te11603438854092312790:=0
def te16000555451142819150:=0
def te9952250468446836846:=0
def te16037460912944850155:=0
def te6844663393049853274:=0
def te3388827308988712145:=0
def te10246147864919041651:=0
def te1451624212662272856:=0
def te8638221249998405343:=0
def te956141606223917813:=0
def te5075441573248898902:=0
def te2758519516468016108:=0
def te12186823412882261147:=0
def te5297453044845413045:=0
def te4688059701259688440:=0
def te5599132581806318330:=0
def te15710356609984010665:=0
def te3127697103122927174:=0
def te10627893598499954754:=0
def te4385385716274193606:=0
def te5133267456796510774:=0
def te4114399852689155076:=0
def te12910366784946584874:=0
def te12972903117163367300:=0
def te14799353473824538486:=0
def te14378963897706026547:=0
def te17320408373785203910:=0
def te3787998744304597194:=0
def te7769021449751150936:=0
def te6845247980704144875:=0
def te187280761881017190:=0
def te15940171674473905699:=0
def te8107899784134825410:=0
def te3085109545584574194:=0
def te5389998063662142712:=0
def te14857628269536039887:=0
def te7578154973832986598:=0
def te18357975266765042930:=0
def te2008758241167286677:=0
def te1612048566369521405:=0
def te2588363871318581091:=0
def te8570656218481465182:=0
def te18332118614767419539:=0
def te10933763400734890744:=0
def te1634907445729504604:=0
def te15667242804165598148:=0
def te10734716186954556834:=0
def te4128585942286613167:=0
def te8172609260057463637:=0
def te5390466978552564356:=0
def te3653808975993085:=0
def te7208145810043396607:=0
def te4340103477188043949:=0
def te3265766885130304942:=0
def te13382055544574645031:=0
def te16951169497886340227:=0
def te10614991027648223161:=0
def te16749722594018785938:=0
def te8629894059079469917:=0
def te11428853318674813949:=0
def te18213072821755995889:=0
def te10094160476178764455:=0
def te10812749529737946192:=0
def te16644306829727998284:=0
def te8201933324354439321:=0
def te15620160657866151603:=0
def te3588625479082858611:=0
def te9624066035080048152:=0
def te9876046468378800178:=0
def te11840428069973006110:=0
def te13407461202391438480:=0
def te16625961187540912656:=0
def te10510307252763178844:=0
def te943881423233670147:=0
def te16333949275714003770:=0
def te9553079716305618743:=0
def te5714650262644024930:=0
def te5903063826312796249:=0
def te17538334687559626965:=0
def te9263562819274704312:=0
def te13739358857558769882:=0
def te130671375385286431:=0
def te3852883293257407857:=0
def te14630292006519581199:=0
def te2404982855573812564:=0
def te2296333236824153822:=0
def te2083653488925953968:=0
def te4899285258034489300:=0
def te12750178824170897191:=0
def te2317557739395092432:=0
def te10342143898769211793:=0
def te2420197190026435734:=0
def te7186776202766481625:=0
def te2027178078021134525:=0
def te632347512211206976:=0
def te10638906400451701084:=0
def te15196981399948919390:=0
def te10772949411034267657:=0
def te11151380011447048267:=0
def te18096893014259990649:=0
def te15636667081260675096:=0
def te9175586373983168990:=0
def te16060560357960512134:=0
def te1897426725149705676:=0
def te16106256412629671316:=0
def te16475155689881945628:=0
def te18239157366253611541:=0
def te10928321452443117681:=0
def te15136984898741405244:=0
def te3356841412359407547:=0
def te7024208210353945253:=0
def te7347167663664539031:=0
def te11667056569712109503:=0
def te16694082480000427251:=0
def te12432001904696078520:=0
def te17227135936414691855:=0
def te4019011224535244671:=0
def te108326296035285929:=0
def te1285497402121774017:=0
def te8142180335745782700:=0
def te12349779766859434530:=0
def te3352189065464594333:=0
def te5082663576078124872:=0
def te15401021816700646004:=0
def te14443201178473440112:=0
def te13743962368961687369:=0
def te9230581505698521366:=0
def te120891668351569715:=0
def te17442887130131106468:=0
def te7998224984709454604:=0
def te6053352143442035334:=0
def te7527976593751360398:=0
def te17081422545714214339:=0
def te3820887905935181166:=0
def te16191771028198293046:=0
def te8321305871782166520:=0
def te4079412122584457332:=0
def te18384957171003399922:=0
def te2663067454607763014:=0
def te12820023198187869437:=0
def te8906937977742330855:=0
def te13834581852154125915:=0
def te5851352761815730910:=0
def te14552762403075690873:=0
def te1390035703279015693:=0
def te5752561819900618000:=0
def te18378717563365141669:=0
def te7171507840253745583:=0
def te18216872802304033286:=0
def te5068258530706700836:=0
def te14234865368232079573:=0
def te6750073181573805729:=0
def te12520851688924287055:=0
def te9205519215280572763:=0
def te1188591539266505942:=0
def te15289658084874306518:=0
def te1916970362767813239:=0
def te5287584189853245868:=0
def te18391579493074383168:=0
def te13745834124539828032:=0
def te13312573540899525460:=0
def te5421897337717208052:=0
def te6557121488425490713:=0
def te9836323725874248225:=0
def te17284336524864823715:=0
def te8644931130469891644:=0
def te17919981984718234898:=0
def te9017821189252311937:=0
def te17188521124766805428:=0
def te2573691745675867128:=0
def te2771732584713069439:=0
def te6503424058948802351:=0
def te8448103542291674170:=0
def te140579180541496439:=0
def te510053198842578999:=0
def te11065453109079041583:=0
def te9228914907623749949:=0
def te2706241013708395924:=0
def te14881586945911957127:=0
def te14165870042773301485:=0
def te12829359959605349654:=0
def te2985106523090795791:=0
def te13169539366300414091:=0
def te12317328117011068517:=0
def te4204640968109637934:=0
def te1803925690389794427:=0
def te1879527459583422916:=0
def te3265484776436530067:=0
def te14937984697709450920:=0
def te13578431267904261327:=0
def te16537116671853702960:=0
def te2974326390195465167:=0
def te10622551553349547647:=0
def te5440329469173693003:=0
def te10498571023923769610:=0
def te8472719583926683778:=0
def te8090718047315300632:=0
def te3386022964145070834:=0
def te16652608878656259179:=0
def te11105873231287401073:=0
def te4375001684329632078:=0
def te12752242619213753988:=0
def te1633265586295060036:=0
def te7347461818285976822:=0
def te6786242159504501758:=0
def te305013723641289380:=0
def te2706133718524549513:=0
def te5839483098173318066:=0
def te1554388420820737891:=0
def te10748342320543772554:=0
def te5555304321623820925:=0
def te12488749011444131610:=0
def te13274277068891808380:=0
def te16239657467728262409:=0
def te10506116450052362161:=0
def te16693926840992013205:=0
def te1079935446362698897:=0
def te531958506960671832:=0
def te10295774450494471483:=0
def te5180131348381960299:=0
def te15707153566331705979:=0
def te7439135126475043591:=0
def te5380583404630333022:=0
def te4115827660926560930:=0
def te18076685415828535609:=0
def te7027622014335184387:=0
def te2045846763865075409:=0
def te14106254962016853226:=0
def te13707547028200000884:=0
def te6962007007971272239:=0
def te5359969264671447793:=0
def te12132036192209354070:=0
def te9228508020200655867:=0
def te3428812116581175595:=0
def te6308823528685494505:=0
def te5357554059616536460:=0
def te18350933466208274054:=0
def te14959815478467507964:=0
def te14377762500546910033:=0
def te17259923919049316081:=0
def te15549779111928304612:=0
def te14110474336190173587:=0
def te7928323628772491384:=0
def te18364955093369179632:=0
def te16993638855751552658:=0
def te16864787533575344776:=0
def te15271379849913842902:=0
def te14970278328968408045:=0
def te16956776273848876241:=0
def te3292082043919539557:=0
def te17573161705615978656:=0
def te6917894011935525821:=0
def te17189781225003686052:=0
def te7447476955176872413:=0
def te2126949972829625426:=0
def te15172084766019555017:=0
def te11981684257853506626:=0
def te6614347515609405754:=0
def te3300272155490538773:=0
def te12950224063025138393:=0
def te13759206269890109141:=0
def te11187849199634306213:=0
def te12803146103144214928:=0
def te6244095180768492923:=0
def te9296622303426884057:=0
def te6276396319840742746:=0
def te15644478058742436674:=0
def te4296928699318566141:=0
def te11001617791438919279:=0
def te10027932624398412826:=0
def te13684352532538977684:=0
def te1704422973242855398:=0
def te1089806399094573710:=0
def te16726412849145872651:=0
def te6375827906986658342:=0
def te17895752974907900309:=0
def te9693281311216364500:=0
def te326417498690953535:=0
def te16085207637419688745:=0
def te1332049759045375647:=0
def te17447123986137880813:=0
def te8778702170439527756:=0
def te5040442269659470831:=0
def te8095102858512755195:=0
def te9170362508392416293:=0
def te16327224909281742360:=0
def te8713604347964601089:=0
def te18415415942052751202:=0
def te4511517210700294783:=0
def te5514717781889886124:=0
def te12072602333191607146:=0
def te1581864792696558401:=0
def te6863151753853883643:=0
def te12334341360045993894:=0
def te3872667263207642301:=0
def te5532602215227349281:=0
def te2660014695296336157:=0
def te14510353248090942021:=0
def te2188519636165665684:=0
def te5134309014702317668:=0
def te13582585392120342361:=0
def te12066568131360437039:=0
def te15697756317389197329:=0
def te12519361012119374046:=0
def te3351579303480606923:=0
def te5816125869222640305:=0
def te8636885621093676223:=0
def te379996490307793691:=0
def te2785305814620462838:=0
def te4735241949942006103:=0
def te3248118755983308042:=0
def te5232541049013883611:=0
def te5046398897489152213:=0
def te15764249228393948875:=0
def te11429459602116156904:=0
def te9420429562526599879:=0
def te4461372415587140145:=0
def te10490574649242982133:=0
def te5139225136309235343:=0
def te14884016223728858976:=0
def te16729860625012402540:=0
def te11801510322923561094:=0
def te16904819264211013478:=0
def te9628620993990642822:=0
def te6196913653055964888:=0
def te2589535254214797653:=0
def te18004968338597629029:=0
def te7152997979277001319:=0
def te14013625688461227746:=0
def te13615817298011455651:=0
def te1796935478361914899:=0
def te6710702222357538825:=0
def te10205860414946727389:=0
def te5671973849005430235:=0
def te7690092173696131646:=0
def te7256927589887765020:=0
def te17208082538163312873:=0
def te1070792848720307919:=0
def te11003104166646812370:=0
def te6038631309735013121:=0
def te14521682434738576183:=0
def te18049458926113978939:=0
def te11457583511382576173:=0
def te11295152466080577876:=0
def te14398556586719815131:=0
def te12656152868202597952:=0
def te16663883883775405701:=0
def te17240792139140807303:=0
def te17505592782155303666:=0
def te6603198995079770328:=0
def te2481462686140347790:=0
def te6148258006313370731:=0
def te3841991794418631358:=0
def te16359930721657909112:=0
def te17957598752232026422:=0
def te15363770280422115420:=0
def te4102554964842916908:=0
def te2864103789300584782:=0
def te4330519324874428155:=0
def te18119803016279587984:=0
def te4838046595099206997:=0
def te11089989897818508660:=0
def te9492064497928332792:=0
def te1434419977145292076:=0
def te10244840430248291789:=0
def te13673613110461562601:=0
def te10026671998777819563:=0
def te6448164146227450225:=0
def te14949530990869050170:=0
def te8897525394513239315:=0
def te3513355933561899062:=0
def te9682965496742005125:=0
def te7042865563085040777:=0
def te13029932801667917489:=0
def te1324276515376328593:=0
def te9315186715189485913:=0
def te2179377628936716262:=0
def te15414633465024488292:=0
def te13912876500697889461:=0
def te4292138074101909346:=0
def te18389798936276481979:=0
def te1693746752076935524:=0
def te6657882116099128381:=0
def te7014377806077425018:=0
def te9391269830295532892:=0
def te10814649706157282823:=0
def te3653855375469473627:=0
def te9585440407577362346:=0
def te3759389499537335462:=0
def te7095380585954401090:=0
def te15933824802079473875:=0
def te1758551849873360967:=0
def te4006331206497267816:=0
def te17221053546127069821:=0
def te14742894832923924634:=0
def te6608162441162942232:=0
def te11016647482562011522:=0
def te11626334353683911631:=0
def te12164357876530906660:=0
def te2736531823769179390:=0
def te17763759844684618708:=0
def te16924029729116441250:=0
def te11564116294011640152:=0
def te16872492986249336501:=0
def te2503777881832965696:=0
def te2974909955121944915:=0
def te6546530821600464269:=0
def te16689190337893153309:=0
def te2467176415356447940:=0
def te3577357296789828262:=0
def te17853552246824537214:=0
def te1877929156675403662:=0
def te4739602366887933937:=0
def te1406269466038872092:=0
def te4698608498680632674:=0
def te13404754702457771225:=0
def te12645430912026151635:=0
def te1219152441584889807:=0
def te9183171591095823691:=0
def te8085614315689363912:=0
def te3278442099974358985:=0
def te10241930926090141381:=0
def te10858417420500942513:=0
def te2576581236004295506:=0
def te6667567983957405030:=0
def te2445794452943442973:=0
end PySem.W.Fast
open PySem PySem.W PyProof.Rows
set_option maxHeartbeats 0 in
theorem PySem.Challenge.cw_oneslate_k38_begin_refused_holds : PySem.Challenge.rw_oneslate_k38_begin_refused.Holds := by
 w_on;o_law;k_head;(case hw=>w_witness2)
 k_fill
 refine aE.afN (l:=PySem.Challenge.rw_oneslate_k38_begin_refused) (k:=24) ["highest","with_cell","with_doing"] rfl rfl ⟨rfl,by decide,by decide⟩ ?ahG ?ahF (λw h σ=>PySem.W.km_in_of σ) ?F
 case ahG=>
  intro x ai
  rcases aj5.mp ai with rfl|ai
  .exact⟨_,rfl⟩
  rcases aj5.mp ai with rfl|ai
  .exact⟨_,rfl⟩
  rcases aj5.mp ai with rfl|ai
  .exact⟨_,rfl⟩
  cases ai
 case ahF=>exact λp=>by kernel_rfl
 case F=>
  intro w mg dU h bl G uR
  have nt:aE.oy (ax.dt bl) mg "Asker" en.y6:=by
   dsimp only[ax.dt]
   refine' aE.SO bl G ?a ?vS ?hd ?po ?n8 ?mk ?CB ?na
   (case a=>k_is);(case vS=>k_is);(case hd=>k_is);(case po=>k_is);(case n8=>k_is);(case mk=>k_is);(case CB=>k_is)
   case na=>
    simp only[alq]
    refine⟨by k_is,by k_is,by k_is,by k_is,by k_is,by k_is,by k_is,by k_is,by k_is,by k_is,by k_is,by k_is,by k_is,by k_is,λ_ h=>nomatch h⟩
  have xy:aE.tK (ax.dt bl) mg "Asker" "begin" "Asker.begin" en.Ef ["self","deed"]:=by
   dsimp only[ax.dt]at nt ⊢
   refine' aE.Uv bl G nt ?a ?f ?i ?l ?t ?c ?k rfl (λ_ _ _ _ _ _=>aE.zM λ_ _=>⟨_,rfl,rfl⟩) (λ_ _ _ _ _ _=>aE.wt λ_=>⟨_,rfl,rfl⟩)
   (case a=>k_is);(case f=>k_is);(case i=>k_is);(case l=>k_is);(case t=>k_is);(case c=>k_is);(case k=>k_is)
  have A_:ax.b1 (ax.dt bl) mg "law" en.v' ["script"]:=by
   dsimp only[ax.dt]
   refine' aE.HP bl G ?a ?l ?c ?k (λ_ _ _ _ _ _=>aE.wt λ_=>rfl)
   (case a=>k_is);(case l=>k_is);(case c=>k_is);(case k=>k_is)
  have BE:∃u,mg "LAST_KEEPER"=some u/\ax.RelV (.int 5) u:=by
   refine' ⟨_,aka bl G ?a,?b⟩
   (case a=>k_is);(case b=>exact⟨_,rfl⟩)
  have BI:∃u,mg "MOST_PARTS"=some u/\ax.RelV (.int 6) u:=by
   refine' ⟨_,aka bl G ?a,?b⟩
   (case a=>k_is);(case b=>exact⟨_,rfl⟩)
  have BH:∃u,mg "MOST_NAMED"=some u/\ax.RelV (.int 12) u:=by
   refine' ⟨_,aka bl G ?a,?b⟩
   (case a=>k_is);(case b=>exact⟨_,rfl⟩)
  have BF:∃u,mg "MOST_DEEP"=some u/\ax.RelV (.int 4) u:=by
   refine' ⟨_,aka bl G ?a,?b⟩
   (case a=>k_is);(case b=>exact⟨_,rfl⟩)
  have BJ:∃u,mg "SMALL_LETTERS"=some u/\ax.RelV (.str "abcdefghijklmnopqrstuvwxyz") u:=by
   refine' ⟨_,aka bl G ?a,?b⟩
   (case a=>k_is);(case b=>exact⟨_,rfl⟩)
  have BG:∃u,mg "MOST_LETTERS"=some u/\ax.RelV (.int 8) u:=by
   refine' ⟨_,aka bl G ?a,?b⟩
   (case a=>k_is);(case b=>exact⟨_,rfl⟩)
  letI:ax.aX:=aE.tg (ax.dt bl) ["highest","with_cell","with_doing"]
  have Ct:aE.KTab PySem.Challenge.rw_oneslate_k38_begin_refused.prog w (ax.dt bl) mg "FORMS" en.nW:=by
   dsimp only[ax.dt]
   refine' aE.Zp bl G ?a ?s ?l ?k ?f
   (case a=>k_is);(case s=>decide);(case l=>k_is)
   case k=>
    intro e he
    rcases aj5.mp he with rfl|he
    .exact⟨"put",rfl,rfl⟩
    rcases aj5.mp he with rfl|he
    .exact⟨"add",rfl,rfl⟩
    rcases aj5.mp he with rfl|he
    .exact⟨"swap",rfl,rfl⟩
    rcases aj5.mp he with rfl|he
    .exact⟨"take",rfl,rfl⟩
    rcases aj5.mp he with rfl|he
    .exact⟨"renew",rfl,rfl⟩
    rcases aj5.mp he with rfl|he
    .exact⟨"free",rfl,rfl⟩
    rcases aj5.mp he with rfl|he
    .exact⟨"sure",rfl,rfl⟩
    rcases aj5.mp he with rfl|he
    .exact⟨"move",rfl,rfl⟩
    rcases aj5.mp he with rfl|he
    .exact⟨"end",rfl,rfl⟩
    cases he
   case f=>exact⟨_,_,rfl,⟨_,rfl⟩,(aE.nV (xs:=["name","number"]) (by k_is) (by decide +kernel) (by exact⟨_,_,rfl,⟨_,_,rfl,rfl⟩⟩)),⟨_,_,rfl,⟨_,rfl⟩,(aE.nV (xs:=["name","number"]) (by k_is) (by decide +kernel) (by exact⟨_,_,rfl,⟨_,_,rfl,rfl⟩⟩)),⟨_,_,rfl,⟨_,rfl⟩,(aE.nV (xs:=["name","number","number"]) (by k_is) (by decide +kernel) (by exact⟨_,_,rfl,⟨_,_,rfl,⟨_,_,rfl,rfl⟩⟩⟩)),⟨_,_,rfl,⟨_,rfl⟩,(aE.nV (xs:=["fence"]) (by k_is) (by decide +kernel) (by exact⟨_,_,rfl,rfl⟩)),⟨_,_,rfl,⟨_,rfl⟩,(aE.nV (xs:=["fence"]) (by k_is) (by decide +kernel) (by exact⟨_,_,rfl,rfl⟩)),⟨_,_,rfl,⟨_,rfl⟩,(aE.nV (xs:=["fence"]) (by k_is) (by decide +kernel) (by exact⟨_,_,rfl,rfl⟩)),⟨_,_,rfl,⟨_,rfl⟩,(aE.nV (xs:=["fence","name","number"]) (by k_is) (by decide +kernel) (by exact⟨_,_,rfl,⟨_,_,rfl,⟨_,_,rfl,rfl⟩⟩⟩)),⟨_,_,rfl,⟨_,rfl⟩,(aE.nV (xs:=["hall"]) (by k_is) (by decide +kernel) (by exact⟨_,_,rfl,rfl⟩)),⟨_,_,rfl,⟨_,rfl⟩,(aE.nV (xs:=[]) (by k_is) (by decide +kernel) (by exact rfl)),rfl⟩⟩⟩⟩⟩⟩⟩⟩⟩
  have zF:aE.tL PySem.Challenge.rw_oneslate_k38_begin_refused.prog w (ax.dt bl) mg "DOERS" en.q7:=by
   dsimp only[ax.dt]
   refine' aE.U' bl G ?a ?l ?k ?f
   (case a=>k_is);(case l=>k_is)
   case k=>
    intro e he
    rcases aj5.mp he with rfl|he
    .exact⟨"put",rfl,rfl⟩
    rcases aj5.mp he with rfl|he
    .exact⟨"add",rfl,rfl⟩
    rcases aj5.mp he with rfl|he
    .exact⟨"swap",rfl,rfl⟩
    rcases aj5.mp he with rfl|he
    .exact⟨"take",rfl,rfl⟩
    rcases aj5.mp he with rfl|he
    .exact⟨"renew",rfl,rfl⟩
    rcases aj5.mp he with rfl|he
    .exact⟨"free",rfl,rfl⟩
    rcases aj5.mp he with rfl|he
    .exact⟨"sure",rfl,rfl⟩
    rcases aj5.mp he with rfl|he
    .exact⟨"move",rfl,rfl⟩
    rcases aj5.mp he with rfl|he
    .exact⟨"end",rfl,rfl⟩
    cases he
   case f=>
    simp only[alq]
    refine⟨⟨_,by k_is,by k_is⟩,⟨_,by k_is,by k_is⟩,⟨_,by k_is,by k_is⟩,⟨_,by k_is,by k_is⟩,⟨_,by k_is,by k_is⟩,⟨_,by k_is,by k_is⟩,⟨_,by k_is,by k_is⟩,⟨_,by k_is,by k_is⟩,⟨_,by k_is,by k_is⟩,λ_ h=>nomatch h⟩
  have CL:=by
   refine' aE.CX (x:="highest") (st:=en.s8) (ln:=["highest","with_cell","with_doing"]) bl G ?vt ?tY ?vc ?c6 ?dd ?vP ?aw ?aG ?c3 ?fS ?oY ?uh ?nn ?ii
   (case vt=>decide);(case tY=>k_is);(case vc=>k_is);(case c6=>exact rfl);(case dd=>k_is);(case vP=>exact rfl);(case aw=>exact rfl);(case aG=>exact rfl);(case c3=>exact rfl);(case fS=>exact rfl);(case oY=>exact rfl);(case uh=>exact rfl);(case nn=>decide)
   case ii=>
    intro y a' bC
    rcases aj5.mp a' with rfl|a'
    .rfl
    rcases aj5.mp a' with rfl|a'
    .refine' aE.sH ?bp ?b2 bC
     case bp=>
      refine' aE.q8 ?a1 ?a2 ?eu ?gg ?iK
      (case a1=>k_is);(case a2=>k_is);(case eu=>exact rfl);(case gg=>k_is);(case iK=>exact rfl)
     case b2=>decide
    rcases aj5.mp a' with rfl|a'
    .refine' aE.sH ?bp ?b2 bC
     case bp=>
      refine' aE.q8 ?a1 ?a2 ?eu ?gg ?iK
      (case a1=>k_is);(case a2=>k_is);(case eu=>exact rfl);(case gg=>k_is);(case iK=>exact rfl)
     case b2=>decide
    cases a'
  have CR:=by
   refine' aE.CX (x:="with_cell") (st:=en.q1) (ln:=["highest","with_cell","with_doing"]) bl G ?vt ?tY ?vc ?c6 ?dd ?vP ?aw ?aG ?c3 ?fS ?oY ?uh ?nn ?ii
   (case vt=>decide);(case tY=>k_is);(case vc=>k_is);(case c6=>exact rfl);(case dd=>k_is);(case vP=>exact rfl);(case aw=>exact rfl);(case aG=>exact rfl);(case c3=>exact rfl);(case fS=>exact rfl);(case oY=>exact rfl);(case uh=>exact rfl);(case nn=>decide)
   case ii=>
    intro y a' bC
    rcases aj5.mp a' with rfl|a'
    .refine' aE.sH ?bp ?b2 bC
     case bp=>
      refine' aE.q8 ?a1 ?a2 ?eu ?gg ?iK
      (case a1=>k_is);(case a2=>k_is);(case eu=>exact rfl);(case gg=>k_is);(case iK=>exact rfl)
     case b2=>decide
    rcases aj5.mp a' with rfl|a'
    .rfl
    rcases aj5.mp a' with rfl|a'
    .refine' aE.sH ?bp ?b2 bC
     case bp=>
      refine' aE.q8 ?a1 ?a2 ?eu ?gg ?iK
      (case a1=>k_is);(case a2=>k_is);(case eu=>exact rfl);(case gg=>k_is);(case iK=>exact rfl)
     case b2=>decide
    cases a'
  have CS:=by
   refine' aE.CX (x:="with_doing") (st:=en.q2) (ln:=["highest","with_cell","with_doing"]) bl G ?vt ?tY ?vc ?c6 ?dd ?vP ?aw ?aG ?c3 ?fS ?oY ?uh ?nn ?ii
   (case vt=>decide);(case tY=>k_is);(case vc=>k_is);(case c6=>exact rfl);(case dd=>k_is);(case vP=>exact rfl);(case aw=>exact rfl);(case aG=>exact rfl);(case c3=>exact rfl);(case fS=>exact rfl);(case oY=>exact rfl);(case uh=>exact rfl);(case nn=>decide)
   case ii=>
    intro y a' bC
    rcases aj5.mp a' with rfl|a'
    .refine' aE.sH ?bp ?b2 bC
     case bp=>
      refine' aE.q8 ?a1 ?a2 ?eu ?gg ?iK
      (case a1=>k_is);(case a2=>k_is);(case eu=>exact rfl);(case gg=>k_is);(case iK=>exact rfl)
     case b2=>decide
    rcases aj5.mp a' with rfl|a'
    .refine' aE.sH ?bp ?b2 bC
     case bp=>
      refine' aE.q8 ?a1 ?a2 ?eu ?gg ?iK
      (case a1=>k_is);(case a2=>k_is);(case eu=>exact rfl);(case gg=>k_is);(case iK=>exact rfl)
     case b2=>decide
    rcases aj5.mp a' with rfl|a'
    .rfl
    cases a'
  have E4:∃C,aE.oB (ax.dt bl) mg "Busy" C:=by
   dsimp only[ax.dt]
   refine' ⟨_,aka bl G ?a,?b⟩
   (case a=>k_is);(case b=>kernel_rfl)
  have E5:∃C,aE.oB (ax.dt bl) mg "NoDeed" C:=by
   dsimp only[ax.dt]
   refine' ⟨_,aka bl G ?a,?b⟩
   (case a=>k_is);(case b=>kernel_rfl)
  have E6:∃C,aE.oB (ax.dt bl) mg "Over" C:=by
   dsimp only[ax.dt]
   refine' ⟨_,aka bl G ?a,?b⟩
   (case a=>k_is);(case b=>kernel_rfl)
  have E9:∃C,mg "NoDeed"=some (.ref C)/\(∃B,mg "SlateError"=some (.ref B)/\amJ (ax.dt bl) (.ref C) (.ref B)=some true)/\aE.iF (ax.dt bl) C/\(∃v u,aE.bD mg "NoDeed" v u/\alk (ax.dt bl) (.ref C) u=some true)/\(∃v u,aE.bD mg "Over" v u/\alk (ax.dt bl) (.ref C) u=some false)/\(∃v u,aE.bD mg "Busy" v u/\alk (ax.dt bl) (.ref C) u=some false)/\(∃v u,aE.bD mg "ValueError" v u/\alk (ax.dt bl) (.ref C) u=some true)/\(∃v0 h_ v1 ey v2 ee kA hp v4 ia lR ib v6 ic lS ie,aE.bD mg "NoRule" v0 h_/\aE.bD mg "NoHall" v1 ey/\aE.bD mg "NoAsker" v2 ee/\aE.bD mg "NoLetter" kA hp/\aE.bD mg "NoTick" v4 ia/\aE.bD mg "NoWish" lR ib/\aE.bD mg "NoText" v6 ic/\aE.bD mg "NoRow" lS ie/\apa (ax.dt bl) (.ref C) [h_,ey,ee,hp,ia,ib,ic,ie]=some false):=by
   dsimp only[ax.dt]
   exact⟨_,aka bl G (by k_is),⟨_,aka bl G (by k_is),by kernel_rfl⟩,⟨by kernel_rfl,by kernel_rfl,by kernel_rfl,by kernel_rfl,by kernel_rfl,by kernel_rfl,by kernel_rfl,by kernel_rfl⟩,⟨_,_,aE.bD.own (aka bl G (by k_is)),by kernel_rfl⟩,⟨_,_,aE.bD.own (aka bl G (by k_is)),by kernel_rfl⟩,⟨_,_,aE.bD.own (aka bl G (by k_is)),by kernel_rfl⟩,⟨_,_,aE.bD.blt (n:="ValueError") (akp bl G (by k_is)) (by decide +kernel),by kernel_rfl⟩,⟨_,_,_,_,_,_,_,_,_,_,_,_,_,_,_,_,aE.bD.own (aka bl G (by k_is)),aE.bD.own (aka bl G (by k_is)),aE.bD.own (aka bl G (by k_is)),aE.bD.own (aka bl G (by k_is)),aE.bD.own (aka bl G (by k_is)),aE.bD.own (aka bl G (by k_is)),aE.bD.own (aka bl G (by k_is)),aE.bD.own (aka bl G (by k_is)),by kernel_rfl⟩⟩
  have E_:∃C,mg "Over"=some (.ref C)/\(∃B,mg "SlateError"=some (.ref B)/\amJ (ax.dt bl) (.ref C) (.ref B)=some true)/\aE.iF (ax.dt bl) C/\(∃v u,aE.bD mg "NoDeed" v u/\alk (ax.dt bl) (.ref C) u=some false)/\(∃v u,aE.bD mg "Over" v u/\alk (ax.dt bl) (.ref C) u=some true)/\(∃v u,aE.bD mg "Busy" v u/\alk (ax.dt bl) (.ref C) u=some false)/\(∃v u,aE.bD mg "ValueError" v u/\alk (ax.dt bl) (.ref C) u=some true)/\(∃v0 h_ v1 ey v2 ee kA hp v4 ia lR ib v6 ic lS ie,aE.bD mg "NoRule" v0 h_/\aE.bD mg "NoHall" v1 ey/\aE.bD mg "NoAsker" v2 ee/\aE.bD mg "NoLetter" kA hp/\aE.bD mg "NoTick" v4 ia/\aE.bD mg "NoWish" lR ib/\aE.bD mg "NoText" v6 ic/\aE.bD mg "NoRow" lS ie/\apa (ax.dt bl) (.ref C) [h_,ey,ee,hp,ia,ib,ic,ie]=some false):=by
   dsimp only[ax.dt]
   exact⟨_,aka bl G (by k_is),⟨_,aka bl G (by k_is),by kernel_rfl⟩,⟨by kernel_rfl,by kernel_rfl,by kernel_rfl,by kernel_rfl,by kernel_rfl,by kernel_rfl,by kernel_rfl,by kernel_rfl⟩,⟨_,_,aE.bD.own (aka bl G (by k_is)),by kernel_rfl⟩,⟨_,_,aE.bD.own (aka bl G (by k_is)),by kernel_rfl⟩,⟨_,_,aE.bD.own (aka bl G (by k_is)),by kernel_rfl⟩,⟨_,_,aE.bD.blt (n:="ValueError") (akp bl G (by k_is)) (by decide +kernel),by kernel_rfl⟩,⟨_,_,_,_,_,_,_,_,_,_,_,_,_,_,_,_,aE.bD.own (aka bl G (by k_is)),aE.bD.own (aka bl G (by k_is)),aE.bD.own (aka bl G (by k_is)),aE.bD.own (aka bl G (by k_is)),aE.bD.own (aka bl G (by k_is)),aE.bD.own (aka bl G (by k_is)),aE.bD.own (aka bl G (by k_is)),aE.bD.own (aka bl G (by k_is)),by kernel_rfl⟩⟩
  have E8:∃C,mg "Busy"=some (.ref C)/\(∃B,mg "SlateError"=some (.ref B)/\amJ (ax.dt bl) (.ref C) (.ref B)=some true)/\aE.iF (ax.dt bl) C/\(∃v u,aE.bD mg "NoDeed" v u/\alk (ax.dt bl) (.ref C) u=some false)/\(∃v u,aE.bD mg "Over" v u/\alk (ax.dt bl) (.ref C) u=some false)/\(∃v u,aE.bD mg "Busy" v u/\alk (ax.dt bl) (.ref C) u=some true)/\(∃v u,aE.bD mg "ValueError" v u/\alk (ax.dt bl) (.ref C) u=some true)/\(∃v0 h_ v1 ey v2 ee kA hp v4 ia lR ib v6 ic lS ie,aE.bD mg "NoRule" v0 h_/\aE.bD mg "NoHall" v1 ey/\aE.bD mg "NoAsker" v2 ee/\aE.bD mg "NoLetter" kA hp/\aE.bD mg "NoTick" v4 ia/\aE.bD mg "NoWish" lR ib/\aE.bD mg "NoText" v6 ic/\aE.bD mg "NoRow" lS ie/\apa (ax.dt bl) (.ref C) [h_,ey,ee,hp,ia,ib,ic,ie]=some false):=by
   dsimp only[ax.dt]
   exact⟨_,aka bl G (by k_is),⟨_,aka bl G (by k_is),by kernel_rfl⟩,⟨by kernel_rfl,by kernel_rfl,by kernel_rfl,by kernel_rfl,by kernel_rfl,by kernel_rfl,by kernel_rfl,by kernel_rfl⟩,⟨_,_,aE.bD.own (aka bl G (by k_is)),by kernel_rfl⟩,⟨_,_,aE.bD.own (aka bl G (by k_is)),by kernel_rfl⟩,⟨_,_,aE.bD.own (aka bl G (by k_is)),by kernel_rfl⟩,⟨_,_,aE.bD.blt (n:="ValueError") (akp bl G (by k_is)) (by decide +kernel),by kernel_rfl⟩,⟨_,_,_,_,_,_,_,_,_,_,_,_,_,_,_,_,aE.bD.own (aka bl G (by k_is)),aE.bD.own (aka bl G (by k_is)),aE.bD.own (aka bl G (by k_is)),aE.bD.own (aka bl G (by k_is)),aE.bD.own (aka bl G (by k_is)),aE.bD.own (aka bl G (by k_is)),aE.bD.own (aka bl G (by k_is)),aE.bD.own (aka bl G (by k_is)),by kernel_rfl⟩⟩
  have Fb:∃C,mg "Over"=some (.ref C)/\(∃B,mg "Over"=some (.ref B)/\amJ (ax.dt bl) (.ref C) (.ref B)=some true):=by
   dsimp only[ax.dt]
   exact⟨_,aka bl G (by k_is),⟨_,aka bl G (by k_is),by kernel_rfl⟩⟩
  have E':∃C,mg "Busy"=some (.ref C)/\(∃B,mg "Over"=some (.ref B)/\amJ (ax.dt bl) (.ref C) (.ref B)=some false)/\(∃B,mg "Busy"=some (.ref B)/\amJ (ax.dt bl) (.ref C) (.ref B)=some true):=by
   dsimp only[ax.dt]
   exact⟨_,aka bl G (by k_is),⟨_,aka bl G (by k_is),by kernel_rfl⟩,⟨_,aka bl G (by k_is),by kernel_rfl⟩⟩
  have kt:ax.tQ (ax.dt bl):=ax.Zh _
  have OR:aE.Fj mg:=by
   refine' ⟨akp bl G ?m8,akp bl G ?eH,akp bl G ?d7,akp bl G ?m9,akp bl G ?l1,akp bl G ?ahB,akp bl G ?ahC,akp bl G ?wF,akp bl G ?ahD,akp bl G ?ahE,akp bl G ?ro,akp bl G ?aht,akp bl G ?ahu,akp bl G ?ahv,akp bl G ?ahw,akp bl G ?ahx,akp bl G ?ahy,akp bl G ?ahz,akp bl G ?ahA⟩
   (case m8=>k_is);(case eH=>k_is);(case d7=>k_is);(case m9=>k_is);(case l1=>k_is);(case ahB=>k_is);(case ahC=>k_is);(case wF=>k_is);(case ahD=>k_is);(case ahE=>k_is);(case ro=>k_is);(case aht=>k_is);(case ahu=>k_is);(case ahv=>k_is);(case ahw=>k_is);(case ahx=>k_is);(case ahy=>k_is);(case ahz=>k_is);(case ahA=>k_is)
  refine aE.Pr uR A_ (λ_ _ _ _ _ _ _=>rfl) (λbase R8 f fd F=>aE.Zu (en.DH ⟨?_,?_,?_,?_,?_,?_,?_,?_,?_,?_,?_,?_,?_,?_,?_,?_,?_,?_,?_,?_,?_,?_,?_,?_,?_,?_,?_,?_,?_,?_,?_,?_,?_,?_,?_,?_,?_,?_,?_,?_,?_,?_,?_,?_,?_,?_,?_,?_,?_,?_,?_,xy,?_,?_,?_,?_,?_,?_,?_,?_,?_,?_,?_,?_,?_,?_,?_,?_,?_,?_,?_,?_,?_,?_,?_,?_,?_,?_,?_,?_,?_,?_,?_,?_,A_,nt,BE,BI,BH,BF,BJ,BG,zF,Ct,CL,CR,CS,R8,E4,E5,E6,E9,E_,E8,Fb,E',OR,kt⟩ F) en.ZC)
  all_goals first
  |((try dsimp only[ax.dt]);refine' aE.HP bl G ?a ?l ?c ?k (λ_ _ _ _ _ _=>by first|exact aE.Og rfl|exact aE.wt λ_=>rfl|exact aE.zM λ_ _=>rfl|exact aE.ED λ_ _ _=>rfl|exact aE.EE λ_ _ _ _=>rfl|exact aE.EF λ_ _ _ _ _=>rfl|exact aE.EG λ_ _ _ _ _ _=>rfl|exact aE.Oh λ_ _ _ _ _ _ _=>rfl);(case a=>k_is);(case l=>k_is);(case c=>k_is);(case k=>k_is))
  |(dsimp only[ax.dt]at nt ⊢;refine' aE.Uu bl G nt ?a ?f ?i ?l ?c ?k (λ_ _ _ _ _ _=>by first|exact aE.wt λ_=>rfl|exact aE.zM λ_ _=>rfl|exact aE.ED λ_ _ _=>rfl|exact aE.EE λ_ _ _ _=>rfl|exact aE.EF λ_ _ _ _ _=>rfl|exact aE.EG λ_ _ _ _ _ _=>rfl|exact aE.Oh λ_ _ _ _ _ _ _=>rfl);(case a=>k_is);(case f=>k_is);(case i=>k_is);(case l=>k_is);(case c=>k_is);(case k=>k_is))
